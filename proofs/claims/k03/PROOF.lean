import PyProof.Rows.All
import Wide.All
import OpenK.AllK
import Wide.FinOn
import HandS.ForMost
import HandS.Style
import HandS.Codes
import HandS.Comp
import HandS.Iter
import HandS.Walk
import HandS.Text
import HandS.Zip
import HandS.IsInst
import HandS.TupAny
import KE.DataCmp
import PyProof.EqKinds
import HandS.Strs
import HandS.More
import HandS.CallLocal
import HandS.Wide
import HandS.WideBits
import KE.KMathGC
import HandS.Gcd
import HandS.Defaults
import HandS.Conv
import KE.GoesZip
import PyProof.NeKinds
import PyProof.Rows.Digits
import HandS.TryMany
import HandS.ExcOwn
import HandS.WordsExc
import PyProof.ReprBulk
import HandS.TupMul
import PySem.Challenge.RW_undrawn_k03_nested_spaces_of_any_value
set_option Elab.async false
set_option linter.all false
set_option maxRecDepth 100000
set_option maxHeartbeats 4000000
namespace K3
open PySem PySem.Spec PyProof.Rows L2
/-! ### the text by places -/
def top (i : Nat) : Stmt := PySem.Challenge.pw_undrawn_k03_nested_spaces_of_any_value.main.body.getD i (.Pass ⟨0, 0, 0, 0⟩)
/-! ### any value that is made of None, bools, ints, texts, tuples, lists, empty dicts -/
mutual
inductive Dat (H : Hp) : V → PyData → Prop
  | non : Dat H .non .none
  | bl (b : Bool) : Dat H (.bl b) (.bool b)
  | int (i : Int) : Dat H (.int i) (.int i)
  | str (x : Str) : x.length ≤ 1000 → Dat H (.str x) (.str x)
  | lst {a : Addr} {xs : List V} {ds : List PyData} : H a = some (.lst xs) → DatAll H xs ds → Dat H (.ref a) (.list ds)
  | tup {a : Addr} {xs : List V} {ds : List PyData} : H a = some (.tup xs) → DatAll H xs ds → Dat H (.ref a) (.tuple ds)
  | d0 {a : Addr} : H a = some (.dK []) → Dat H (.ref a) (.dict [])
inductive DatAll (H : Hp) : List V → List PyData → Prop
  | nil : DatAll H [] []
  | cons {v : V} {vs : List V} {d : PyData} {ds : List PyData} : Dat H v d → DatAll H vs ds → DatAll H (v :: vs) (d :: ds)
end
mutual
theorem Dat.same {H H' : Hp} (S : Same H H') : ∀ {v : V} {d : PyData}, Dat H v d → Dat H' v d
  | _, _, .non => .non
  | _, _, .bl b => .bl b
  | _, _, .int i => .int i
  | _, _, .str x h => .str x h
  | _, _, .lst h t => .lst (S _ _ h) (DatAll.same S t)
  | _, _, .tup h t => .tup (S _ _ h) (DatAll.same S t)
  | _, _, .d0 h => .d0 (S _ _ h)
theorem DatAll.same {H H' : Hp} (S : Same H H') : ∀ {vs : List V} {ds : List PyData}, DatAll H vs ds → DatAll H' vs ds
  | _, _, .nil => .nil
  | _, _, .cons h t => .cons (Dat.same S h) (DatAll.same S t)
end
theorem DatAll.len {H : Hp} : ∀ {vs : List V} {ds : List PyData}, DatAll H vs ds → vs.length = ds.length
  | _, _, .nil => rfl
  | _, _, .cons _ t => congrArg (· + 1) (DatAll.len t)
theorem DatAll.get {H : Hp} : ∀ {xs : List V} {ds : List PyData} {j : Nat} {x : V}, DatAll H xs ds → xs[j]? = some x → ∃ d, ds[j]? = some d ∧ Dat H x d
  | _, _, _, _, .nil, e => by simp at e
  | _, _, 0, _, .cons t _, e => by
    simp at e
    subst e
    exact ⟨_, rfl, t⟩
  | _, _, j + 1, x, .cons _ ts, e => by
    obtain ⟨d, h1, h2⟩ := DatAll.get (j := j) (x := x) ts (by simpa using e)
    exact ⟨d, by simpa using h1, h2⟩
theorem DatAll.at {H : Hp} : ∀ {xs : List V} {ds : List PyData} {j : Nat} {d : PyData}, DatAll H xs ds → ds[j]? = some d → ∃ x, xs[j]? = some x ∧ Dat H x d
  | _, _, _, _, .nil, e => by simp at e
  | _, _, 0, _, .cons t _, e => by
    simp at e
    subst e
    exact ⟨_, rfl, t⟩
  | _, _, j + 1, x, .cons _ ts, e => by
    obtain ⟨d, h1, h2⟩ := DatAll.at (j := j) (d := x) ts (by simpa using e)
    exact ⟨d, by simpa using h1, h2⟩
/-- the type's name -/
def tyD : PyData → String
  | .none => "NoneType"
  | .bool _ => "bool"
  | .int _ => "int"
  | .str _ => "str"
  | .list _ => "list"
  | .tuple _ => "tuple"
  | .dict _ => "dict"
theorem Dat.ty {K : PySem.W.Frag} {H : Hp} {v : V} {d : PyData} (h : Dat H v d) : TyX K H v (.type (tyD d)) := by
  cases h with
  | non => exact .base .non
  | bl b => exact .base (.bl b)
  | int i => exact .base (.int i)
  | str x _ => exact .base (.str x)
  | lst h _ => exact .base (.lst h)
  | tup h _ => exact .base (.tup h)
  | d0 h => exact .base (.dK h)
/-! ### what the small predicates say of such values -/
def isInt : PyData → Bool
  | .int _ => true
  | _ => false
def isBool : PyData → Bool
  | .bool _ => true
  | _ => false
def isStr : PyData → Bool
  | .str _ => true
  | _ => false
def isTup : PyData → Bool
  | .tuple _ => true
  | _ => false
/-- an int from lo to hi -/
def btw (lo hi : Int) : PyData → Bool
  | .int i => decide (lo ≤ i) && decide (i ≤ hi)
  | _ => false
theorem kit_int (K : PySem.W.Frag) (d : PyData) : PySem.W.kitOne K (.type (tyD d)) (.type "int") = some (isInt d || isBool d) := by
  cases d with
  | none => exact kit_ty (a := "NoneType") (b := "int") (r := false) (by decide +kernel)
  | bool b => exact kit_ty (a := "bool") (b := "int") (r := true) (by decide +kernel)
  | int i => exact kit_ty (a := "int") (b := "int") (r := true) (by decide +kernel)
  | str x => exact kit_ty (a := "str") (b := "int") (r := false) (by decide +kernel)
  | list l => exact kit_ty (a := "list") (b := "int") (r := false) (by decide +kernel)
  | tuple l => exact kit_ty (a := "tuple") (b := "int") (r := false) (by decide +kernel)
  | dict l => exact kit_ty (a := "dict") (b := "int") (r := false) (by decide +kernel)
theorem kit_bool (K : PySem.W.Frag) (d : PyData) : PySem.W.kitOne K (.type (tyD d)) (.type "bool") = some (isBool d) := by
  cases d with
  | none => exact kit_ty (a := "NoneType") (b := "bool") (r := false) (by decide +kernel)
  | bool b => exact kit_ty (a := "bool") (b := "bool") (r := true) (by decide +kernel)
  | int i => exact kit_ty (a := "int") (b := "bool") (r := false) (by decide +kernel)
  | str x => exact kit_ty (a := "str") (b := "bool") (r := false) (by decide +kernel)
  | list l => exact kit_ty (a := "list") (b := "bool") (r := false) (by decide +kernel)
  | tuple l => exact kit_ty (a := "tuple") (b := "bool") (r := false) (by decide +kernel)
  | dict l => exact kit_ty (a := "dict") (b := "bool") (r := false) (by decide +kernel)
theorem kit_str (K : PySem.W.Frag) (d : PyData) : PySem.W.kitOne K (.type (tyD d)) (.type "str") = some (isStr d) := by
  cases d with
  | none => exact kit_ty (a := "NoneType") (b := "str") (r := false) (by decide +kernel)
  | bool b => exact kit_ty (a := "bool") (b := "str") (r := false) (by decide +kernel)
  | int i => exact kit_ty (a := "int") (b := "str") (r := false) (by decide +kernel)
  | str x => exact kit_ty (a := "str") (b := "str") (r := true) (by decide +kernel)
  | list l => exact kit_ty (a := "list") (b := "str") (r := false) (by decide +kernel)
  | tuple l => exact kit_ty (a := "tuple") (b := "str") (r := false) (by decide +kernel)
  | dict l => exact kit_ty (a := "dict") (b := "str") (r := false) (by decide +kernel)
theorem kit_tuple (K : PySem.W.Frag) (d : PyData) : PySem.W.kitOne K (.type (tyD d)) (.type "tuple") = some (isTup d) := by
  cases d with
  | none => exact kit_ty (a := "NoneType") (b := "tuple") (r := false) (by decide +kernel)
  | bool b => exact kit_ty (a := "bool") (b := "tuple") (r := false) (by decide +kernel)
  | int i => exact kit_ty (a := "int") (b := "tuple") (r := false) (by decide +kernel)
  | str x => exact kit_ty (a := "str") (b := "tuple") (r := false) (by decide +kernel)
  | list l => exact kit_ty (a := "list") (b := "tuple") (r := false) (by decide +kernel)
  | tuple l => exact kit_ty (a := "tuple") (b := "tuple") (r := true) (by decide +kernel)
  | dict l => exact kit_ty (a := "dict") (b := "tuple") (r := false) (by decide +kernel)
/-! ### promises -/
/-- a predicate of one value; no tracked object changes -/
def spP (f : PyData → Bool) : Sp := fun vs H Q _ => ∃ (v : V) (d : PyData), vs = [v] ∧ Dat H v d ∧ ∀ H', Same H H' → Q (.bl (f d)) H'
def spBtw : Sp := fun vs H Q _ => ∃ (v : V) (d : PyData) (lo hi : Int), vs = [v, .int lo, .int hi] ∧ Dat H v d ∧ ∀ H', Same H H' → Q (.bl (btw lo hi d)) H'
/-- a tuple of lo to hi items -/
def tupOf (lo hi : Int) : PyData → Bool
  | .tuple ds => decide (lo ≤ (ds.length : Int)) && decide ((ds.length : Int) ≤ hi)
  | _ => false
def spTup : Sp := fun vs H Q _ => ∃ (v : V) (d : PyData) (lo hi : Int), vs = [v, .int lo, .int hi] ∧ Dat H v d ∧ ∀ H', Same H H' → Q (.bl (tupOf lo hi d)) H'
abbrev sIsInt : Stmt := top 20
abbrev sBtw : Stmt := top 21
abbrev sName : Stmt := top 22
abbrev sTup : Stmt := top 23
abbrev sAsc : Stmt := top 24
/-- what the module says of built-in names -/
structure Nm (mg : Str → Option Value) : Prop where
  isinstance : mg "isinstance" = none
  int : mg "int" = none
  bool : mg "bool" = none
  str : mg "str" = none
  tuple : mg "tuple" = none
  len : mg "len" = none
  all : mg "all" = none
  zip : mg "zip" = none
  sum : mg "sum" = none
  set : mg "set" = none
  range : mg "range" = none
/-- a def of the module -/
structure DefOk (K : PySem.W.Frag) (mg : Str → Option Value) (x : Str) (st : Stmt) (ps : List Str) (f : Addr) (fd : FuncData) : Prop where
  F : Fun K x x st f fd
  b : L2.Binds K fd ps []
  g : mg x = some (.ref f)
section
variable {P : Program} {w : World} {K : PySem.W.Frag} {mg : Str → Option Value} {base : Heap}
theorem scIsInt : FnScope ["value"] ["value"] (defScope sIsInt) := ⟨rfl, rfl, rfl, by decide +kernel, rfl, by decide +kernel, by decide +kernel⟩
theorem scBtw : FnScope ["value", "low", "high"] ["value", "low", "high"] (defScope sBtw) := ⟨rfl, rfl, rfl, by decide +kernel, rfl, by decide +kernel, by decide +kernel⟩
theorem scTup : FnScope ["value", "least", "most"] ["value", "least", "most"] (defScope sTup) := ⟨rfl, rfl, rfl, by decide +kernel, rfl, by decide +kernel, by decide +kernel⟩
theorem ok_isint {f : Addr} {fd : FuncData} (F : Fun K "is_integer" "is_integer" sIsInt f fd) (T : Nm mg) : FnOk P w K mg base CX0 1 f fd ["value"] (spP isInt) := by
  refine F.ok scIsInt (fun vs H Q E h => ?_) (fun cdv A outer s H vs Q E hr h => ?_)
  · obtain ⟨v, d, rfl, _⟩ := h
    rfl
  · obtain ⟨v, d, rfl, hd, q⟩ := h
    refine ⟨_, pss_one (ps_ret (pe_and (pe_callB call_isi (by rfl) T.isinstance boot_isinstance (pa_cons (pv 0) (pa_cons (pe_bltn (v := .ty "int") rfl T.int (by decide +kernel) rfl) pa_nil)))
      (pe_one (pe_not (pe_callB call_isi (by rfl) T.isinstance boot_isinstance (pa_cons (pv 0) (pa_cons (pe_bltn (v := .ty "bool") rfl T.bool (by decide +kernel) rfl) pa_nil))))))), ?_⟩
    refine ⟨_, rfl, v, .ty "int", _, _, _, rfl, .ty _, hd.ty, kit_int _ d, _, rfl, ?_⟩
    have q' := q H fun _ _ e => e
    cases d with
    | int i => exact ⟨_, rfl, v, .ty "bool", _, _, _, rfl, .ty _, hd.ty, kit_bool _ _, _, rfl, q'⟩
    | bool b => exact ⟨_, rfl, v, .ty "bool", _, _, _, rfl, .ty _, hd.ty, kit_bool _ _, _, rfl, q'⟩
    | none => exact q'
    | str x => exact q'
    | list ds => exact q'
    | tuple ds => exact q'
    | dict kv => exact q'
theorem ok_btw {f fI : Addr} {fd fdI : FuncData} (F : Fun K "is_between" "is_between" sBtw f fd) (T : Nm mg) (I : DefOk K mg "is_integer" sIsInt ["value"] fI fdI) : FnOk P w K mg base CX0 2 f fd ["value", "low", "high"] spBtw := by
  have GI : FnOk P w K mg base CX0 1 fI fdI ["value"] (spP isInt) := ok_isint I.F T
  refine F.ok scBtw (fun vs H Q E h => ?_) (fun cdv A outer s H vs Q E hr h => ?_)
  · obtain ⟨v, d, lo, hi, rfl, _⟩ := h
    rfl
  · obtain ⟨v, d, lo, hi, rfl, hd, q⟩ := h
    refine ⟨_, pss_one (ps_ret (pe_and (pe_call GI hr rfl I.g I.F.kp I.b .nil pass0 (pa_cons (pv 0) pa_nil)) (pe_one (pe_chain op_le op_le (pv 1) (pv 0) (pv 2))))), ?_⟩
    refine ⟨_, rfl, v, d, rfl, hd, fun H' S => ⟨_, rfl, ?_⟩⟩
    have q' := q H' S
    cases d with
    | int i =>
      cases hd
      refine ⟨_, rfl, _, rfl, _, _, rfl, rfl, _, rfl, ?_⟩
      by_cases h : lo ≤ i
      · have e : btw lo hi (.int i) = decide (i ≤ hi) := by
          show (decide (lo ≤ i) && decide (i ≤ hi)) = _
          rw [decide_eq_true h, Bool.true_and]
        rw [e] at q'
        rw [if_pos (decide_eq_true h)]
        exact ⟨_, rfl, _, _, rfl, rfl, q'⟩
      · have e : btw lo hi (.int i) = false := by
          show (decide (lo ≤ i) && decide (i ≤ hi)) = _
          rw [decide_eq_false h, Bool.false_and]
        rw [e] at q'
        rw [if_neg (by rw [decide_eq_false h]; exact Bool.false_ne_true)]
        exact q'
    | bool b => exact q'
    | none => exact q'
    | str x => exact q'
    | list ds => exact q'
    | tuple ds => exact q'
    | dict kv => exact q'
theorem ok_tup {f : Addr} {fd : FuncData} (F : Fun K "is_tuple" "is_tuple" sTup f fd) (T : Nm mg) : FnOk P w K mg base CX0 1 f fd ["value", "least", "most"] spTup := by
  refine F.ok scTup (fun vs H Q E h => ?_) (fun cdv A outer s H vs Q E hr h => ?_)
  · obtain ⟨v, d, lo, hi, rfl, _⟩ := h
    rfl
  · obtain ⟨v, d, lo, hi, rfl, hd, q⟩ := h
    refine ⟨_, pss_one (ps_ret (pe_and (pe_callB call_isi (by rfl) T.isinstance boot_isinstance (pa_cons (pv 0) (pa_cons (pe_bltn (v := .ty "tuple") rfl T.tuple (by decide +kernel) rfl) pa_nil)))
      (pe_one (pe_chain op_le op_le (pv 1) (pe_callB call_len_seq (by rfl) T.len PySem.boot_len (pa_cons (pv 0) pa_nil)) (pv 2))))), ?_⟩
    have q' := q H fun _ _ e => e
    refine ⟨_, rfl, v, .ty "tuple", _, _, _, rfl, .ty _, hd.ty, kit_tuple _ d, _, rfl, ?_⟩
    cases d with
    | tuple ds =>
      cases hd with
      | @tup a xs _ ha hx =>
        have el : (xs.length : Int) = (ds.length : Int) := by rw [hx.len]
        refine ⟨_, rfl, _, rfl, a, xs, rfl, .inr (SqT.of ha), _, _, rfl, rfl, _, rfl, ?_⟩
        rw [el]
        by_cases h : lo ≤ (ds.length : Int)
        · have e : tupOf lo hi (.tuple ds) = decide ((ds.length : Int) ≤ hi) := by
            show (decide (lo ≤ (ds.length : Int)) && decide ((ds.length : Int) ≤ hi)) = _
            rw [decide_eq_true h, Bool.true_and]
          rw [e] at q'
          rw [if_pos (decide_eq_true h)]
          exact ⟨_, rfl, _, _, rfl, rfl, q'⟩
        · have e : tupOf lo hi (.tuple ds) = false := by
            show (decide (lo ≤ (ds.length : Int)) && decide ((ds.length : Int) ≤ hi)) = _
            rw [decide_eq_false h, Bool.false_and]
          rw [e] at q'
          rw [if_neg (by rw [decide_eq_false h]; exact Bool.false_ne_true)]
          exact q'
    | int i => exact q'
    | bool b => exact q'
    | none => exact q'
    | str x => exact q'
    | list ds => exact q'
    | dict kv => exact q'
end
end K3
set_option maxRecDepth 100000
set_option maxHeartbeats 4000000
namespace K3
open PySem PySem.Spec PyProof.Rows L2
theorem same_new {H : Hp} {p : Addr} {o : HO} (h : H p = none) : Same H (upd H p o) := fun b u e => by rw [upd_ne (ne_of_none e h)]; exact e
theorem if_t {c : Bool} {A B : Prop} (hc : c = true) (h : A) : if c = true then A else B := by
  rw [if_pos hc]
  exact h
theorem if_f {c : Bool} {A B : Prop} (hc : c = false) (h : B) : if c = true then A else B := by
  rw [hc, if_neg Bool.false_ne_true]
  exact h
/-- a list that grows at D while what was tracked before D stands -/
theorem grow {H Hx : Hp} {D : Addr} {xs : List V} {y : V} (nD : H D = none) (S : Same H Hx) : Same H (upd Hx D (.lst (xs ++ [y]))) := fun b o e => by
  have bD : b ≠ D := fun z => by
    rw [z, nD] at e
    cases e
  rw [upd_ne bD]
  exact S _ _ e
/-! ### names -/
/-- one sign from a to z -/
def azB (c : Nat) : Bool := !decide ([c] < ("a" : Str).cps.toList) && !decide (("z" : Str).cps.toList < [c])
def nameS (s : Str) : Bool := decide (1 ≤ (s.length : Int)) && decide ((s.length : Int) ≤ 6) && s.cps.toList.all azB
def nameB : PyData → Bool
  | .str s => nameS s
  | _ => false
section
variable {P : Program} {w : World} {K : PySem.W.Frag} {mg : Str → Option Value} {base : Heap}
theorem scName : FnScope ["value", "letter"] ["value"] (defScope sName) := ⟨rfl, rfl, rfl, by decide +kernel, rfl, by decide +kernel, by decide +kernel⟩
theorem ok_name {f : Addr} {fd : FuncData} (F : Fun K "is_name" "is_name" sName f fd) (T : Nm mg) (c6 : ∃ t, mg "LONGEST_NAME" = some (.int 6 t)) : FnOk P w K mg base CX0 1 f fd ["value"] (spP nameB) := by
  obtain ⟨t6, c6⟩ := c6
  refine F.ok scName (fun vs H Q E h => ?_) (fun cdv A outer s H vs Q E hr h => ?_)
  · obtain ⟨v, d, rfl, _⟩ := h
    rfl
  · obtain ⟨v, d, rfl, hd, q⟩ := h
    refine ⟨_, pss_cons (ps_if (PW.pt (pw_or (pt_not (pt_val (pe_callB call_isi (by rfl) T.isinstance boot_isinstance (pa_cons (pv 0) (pa_cons (pe_bltn (v := .ty "str") rfl T.str (by decide +kernel) rfl) pa_nil)))))
        (pw_or1 (pt_not (pt_chain op_le op_le pe_int (pe_callB call_len_str (by rfl) T.len PySem.boot_len (pa_cons (pv 0) pa_nil)) (pe_glob (v := .int 6) rfl c6 ⟨_, rfl⟩)))))) (pss_one (ps_ret pe_bl)) pss_nil)
      (pss_one (ps_ret (pe_callB (cr_all rfl) (by rfl) T.all boot_all (pa_cons (pe_lc (own := [("letter", 1)]) (g := gName 1) (tt := tYes) rfl scName.nd (pi_str (pv 0)) (blkOk_by (N := ["value", "letter"]) (sc := defScope sName) (by decide +kernel))
        (fun _ _ _ _ _ => pg_name (i := 1) scName.nd rfl (Or.inl rfl)) (fun _ _ _ _ _ => pts_nil) (fun _ _ _ _ _ => pe_chain op_le_str op_le_str pe_str (pv 1) pe_str)) pa_nil)))), ?_⟩
    refine ⟨_, rfl, v, .ty "str", _, _, _, rfl, .ty _, hd.ty, kit_str _ d, _, rfl, ?_⟩
    have q0 := q H fun _ _ e => e
    cases d with
    | str x =>
      cases hd with
      | str _ hx =>
        refine if_f rfl ⟨_, rfl, x, rfl, Nat.le_trans hx (by decide), _, _, rfl, rfl, _, rfl, ?_⟩
        by_cases h1 : (1 : Int) ≤ (x.length : Int)
        · rw [if_pos (decide_eq_true h1)]
          refine ⟨_, _, rfl, rfl, _, rfl, ?_⟩
          by_cases h6 : (x.length : Int) ≤ 6
          · refine if_f (by rw [decide_eq_true h6]; rfl) ?_
            refine ⟨_, rfl, x, rfl, fun D nD => lc_it (walk_str (z := x)) (fun j Hx => Same H Hx ∧ Hx D = some (.lst ((x.cps.toList.take j).map fun c => V.bl (azB c)))) ⟨same_new nD, upd_same⟩ (fun _ _ _ _ => trivial) ?_ ?_⟩
            · rintro j y Hx Hy hj ⟨S, hD⟩ ⟨rfl, c, hc, rfl⟩
              have hcl : x.cps.toList[j]? = some c := by simpa using hc
              have et : (x.cps.toList.take (j + 1)).map (fun c => V.bl (azB c)) = (x.cps.toList.take j).map (fun c => V.bl (azB c)) ++ [V.bl (azB c)] := by
                rw [List.take_add_one, hcl]
                simp
              have fin : ∀ b : Bool, b = azB c → ∃ acc, Hy D = some (.lst acc) ∧ acc.length < sizeLine ∧ Same H (upd Hy D (.lst (acc ++ [V.bl b]))) ∧ upd Hy D (.lst (acc ++ [V.bl b])) D = some (.lst ((x.cps.toList.take (j + 1)).map fun c => V.bl (azB c))) := by
                rintro b rfl
                refine ⟨_, hD, ?_, grow nD S, by rw [upd_same, et]⟩
                rw [List.length_map, List.length_take, sizeLine_eq]
                have : j < x.cps.size := hj
                have : x.cps.size = x.length := rfl
                omega
              refine ⟨rfl, _, rfl, _, _, rfl, rfl, _, rfl, ?_⟩
              by_cases ha : [c] < ("a" : Str).cps.toList
              · refine if_f (by rw [decide_eq_true ha]; rfl) (fin _ ?_)
                unfold azB
                rw [decide_eq_true ha]
                rfl
              · refine if_t (by rw [decide_eq_false ha]; rfl) ⟨_, _, rfl, rfl, fin _ ?_⟩
                unfold azB
                rw [decide_eq_false ha]
                rfl
            · rintro Hx ⟨S, hD⟩
              have el : x.cps.toList.take x.cps.size = x.cps.toList := List.take_of_length_le (by simp)
              rw [el] at hD
              have q1 := q Hx S
              have e : nameB (.str x) = x.cps.toList.all azB := by
                show (decide (1 ≤ (x.length : Int)) && decide ((x.length : Int) ≤ 6) && x.cps.toList.all azB) = _
                rw [decide_eq_true h1, decide_eq_true h6]
                rfl
              rw [e] at q1
              refine ⟨D, x.cps.toList.map azB, rfl, SqL.of (by rw [hD, List.map_map]; rfl), ?_⟩
              rw [List.all_map]
              exact q1
          · refine if_t (by rw [decide_eq_false h6]; rfl) ?_
            have e : nameB (.str x) = false := by
              show (decide (1 ≤ (x.length : Int)) && decide ((x.length : Int) ≤ 6) && x.cps.toList.all azB) = _
              rw [decide_eq_true h1, decide_eq_false h6]
              rfl
            rw [e] at q0
            exact q0
        · rw [if_neg (by rw [decide_eq_false h1]; exact Bool.false_ne_true)]
          refine ⟨_, rfl, if_t rfl ?_⟩
          have e : nameB (.str x) = false := by
            show (decide (1 ≤ (x.length : Int)) && decide ((x.length : Int) ≤ 6) && x.cps.toList.all azB) = _
            rw [decide_eq_false h1]
            rfl
          rw [e] at q0
          exact q0
    | int i => exact if_t rfl (if_t rfl q0)
    | bool b => exact if_t rfl (if_t rfl q0)
    | none => exact if_t rfl (if_t rfl q0)
    | tuple ds => exact if_t rfl (if_t rfl q0)
    | list ds => exact if_t rfl (if_t rfl q0)
    | dict kv => exact if_t rfl (if_t rfl q0)
end
end K3
set_option maxRecDepth 100000
set_option maxHeartbeats 4000000
namespace K3
open PySem PySem.Spec PyProof.Rows L2
/-! ### such values as the machine reads them -/
section
variable {P : Program} {w : World} {H : Hp} {h : Heap}
mutual
theorem Dat.reads (ok : HOk P w H h) : ∀ {v : V} {d : PyData} {u : Value}, Dat H v d → RelV v u → ∃ as, Reads h u d as
  | _, _, _, .non, r => ⟨[], by cases r; exact .none⟩
  | _, _, _, .bl b, r => ⟨[], by cases r; exact .bool b⟩
  | _, _, _, .int i, r => ⟨[], by obtain ⟨t, rfl⟩ := r; exact .int i t⟩
  | _, _, _, .str x _, r => ⟨[], by obtain ⟨t, rfl⟩ := r; exact .str x t⟩
  | _, _, _, .lst (a := a) (xs := xs) e t, r => by
    cases r
    obtain ⟨_, its, n, rv, ho⟩ := (show ObjOk P w H h a (.lst xs) from ok a _ e)
    obtain ⟨as, ra⟩ := DatAll.reads ok t rv
    exact ⟨_, .list ho rfl rfl ra⟩
  | _, _, _, .tup (a := a) (xs := xs) e t, r => by
    cases r
    obtain ⟨_, its, rv, o, ho, hc, m, hd⟩ := (show ObjOk P w H h a (.tup xs) from ok a _ e)
    obtain ⟨as, ra⟩ := DatAll.reads ok t rv
    exact ⟨_, .tuple ho hc hd ra⟩
  | _, _, _, .d0 (a := a) e, r => by
    cases r
    obtain ⟨_, ns, vs, kv, o, es, ep, ho, hx, hd, hk, hp, _⟩ := (show ObjOk P w H h a (.dK []) from ok a _ e)
    cases kv
    have e0 : es.toList = [] := by
      generalize es.toList = l at hp
      cases hp
      rfl
    exact ⟨a :: [] ++ [], .dict (kvs := []) ho hx.1 hd (by rw [e0]; exact .nil) (by rw [e0]; exact .nil)⟩
theorem DatAll.reads (ok : HOk P w H h) : ∀ {vs : List V} {ds : List PyData} {us : List Value}, DatAll H vs ds → Vals vs us → ∃ as, ReadsAll h us ds as
  | _, _, _, .nil, .nil => ⟨[], .nil⟩
  | _, _, _, .cons t ts, .cons r rs => by
    obtain ⟨as, ra⟩ := Dat.reads ok t r
    obtain ⟨bs, rb⟩ := DatAll.reads ok ts rs
    exact ⟨as ++ bs, .cons ra rb⟩
end
end
/-! ### < of two values of one form -/
section
variable {X : Cx}
def rLtDat : R2 := fun x y H Q => ∃ d e, Dat H x d ∧ Dat H y e ∧ PySem.W.alike d e = true ∧ d ≠ .none ∧ d.depth ≤ 60 ∧ Q (.bl (PySem.W.dataLt d e)) H
theorem op_ltDat (hu : X.A.units + 64 < cLine) : OpR X (compareOp .Lt) rLtDat := by
  intro pins s σ H x y v u Q I rx ry h
  obtain ⟨d, e, hd, he, ha, hn, hz, q⟩ := h
  obtain ⟨as, r1⟩ := hd.reads I.hok rx
  obtain ⟨bs, r2⟩ := he.reads I.hok ry
  exact PySem.W.lt_data r1 r2 ha hn (by omega) ⟨.bl _, H, I, rfl, q⟩
end
/-! ### strictly ascending -/
/-- neighbours that can be compared -/
def AscOk (ds : List PyData) : Prop := ∀ i, i + 1 < ds.length → PySem.W.alike (ds.getD i .none) (ds.getD (i + 1) .none) = true ∧ ds.getD i .none ≠ .none ∧ (ds.getD i .none).depth ≤ 60
def ascB (ds : List PyData) : Bool := (List.range (ds.length - 1)).all fun i => PySem.W.dataLt (ds.getD i .none) (ds.getD (i + 1) .none)
def spAsc : Sp := fun vs H Q _ => ∃ (a : Addr) (xs : List V) (ds : List PyData), vs = [.ref a] ∧ (H a = some (.lst xs) ∨ H a = some (.tup xs)) ∧ DatAll H xs ds ∧ AscOk ds ∧ ∀ H', Same H H' → Q (.bl (ascB ds)) H'
theorem cut1 (xs : List V) : cutV xs (some 1) none = xs.drop 1 := by
  unfold cutV
  have e1 : HT.sIx xs.length 0 (some 1) = min 1 xs.length := HT.sIx_nat xs.length 0 1
  have e2 : HT.sIx xs.length xs.length none = xs.length := HT.sIx_none _ _
  rw [e1, e2]
  cases xs with
  | nil => rfl
  | cons x l =>
    have e3 : min 1 (x :: l).length = 1 := by
      rw [List.length_cons]
      omega
    rw [e3]
    exact List.take_of_length_le (by simp)
/-- t[1:] -/
theorem slA_of {K : PySem.W.Frag} {H : Hp} {a : Addr} {xs : List V} {Q : VK} (ha : H a = some (.tup xs)) (hq : ∀ (b : Addr) (Hb : Hp), Same H Hb → Hb b = some (.tup (xs.drop 1)) → Q (.ref b) Hb) : rSlA K (.ref a) (some 1) none H Q := by
  refine ⟨a, xs, rfl, SqT.of ha, fun z => ?_, fun _ p np => ?_⟩
  · have e1 : HT.sIx xs.length 0 (some 1) = min 1 xs.length := HT.sIx_nat xs.length 0 1
    have e2 : min 1 xs.length = 0 := e1.symm.trans z.1
    cases xs with
    | nil => exact hq a H (fun _ _ e => e) ha
    | cons x l =>
      rw [List.length_cons] at e2
      omega
  · rw [cut1]
    exact hq p _ (same_new np) upd_same
section
variable {K : PySem.W.Frag} {a b : Addr} {xs ys : List V}
theorem walk_zip2 {n : Nat} (hn : n = min xs.length ys.length) : Walk (RZ.ItzT K a b) n (fun H => SqT K H a xs ∧ SqT K H b ys) (YPair (fun i => xs[i]?) (fun i => ys[i]?)) := by
  subst hn
  constructor
  · intro i _ hi q
    exact ⟨xs, ys, xs[i]'(by omega), ys[i]'(by omega), q.1, q.2, List.getElem?_eq_getElem (by omega), List.getElem?_eq_getElem (by omega)⟩
  · intro _ q
    exact ⟨xs, ys, q.1, q.2, by omega⟩
  · intro i H v H' _ q y
    obtain ⟨T, x, z, e1, e2, e3, e4, e5⟩ := y
    exact ⟨T, x, z, e1, e2, e3, e4 _ q.1, e5 _ q.2⟩
end
section
variable {P : Program} {w : World} {K : PySem.W.Frag} {mg : Str → Option Value} {base : Heap}
theorem scAsc : FnScope ["items", "before", "after"] ["items"] (defScope sAsc) := ⟨rfl, rfl, rfl, by decide +kernel, rfl, by decide +kernel, by decide +kernel⟩
/-- one turn of the list of comparisons -/
theorem asc_turn {H Hx : Hp} {D : Addr} {xs : List V} {ds : List PyData} {j : Nat} {x y : V} {U : Addr} (nD : H D = none) (S : Same H Hx) (hD : Hx D = some (.lst ((List.range j).map fun i => V.bl (PySem.W.dataLt (ds.getD i .none) (ds.getD (i + 1) .none)))))
    (hx : DatAll H xs ds) (ok : AscOk ds) (h1 : xs[j]? = some x) (h2 : (xs.drop 1)[j]? = some y) (hj : j < 1000000) (nU : Hx U = none) :
    rLtDat x y (upd Hx U (.tup [x, y])) (fun z H4 => ∃ acc, H4 D = some (.lst acc) ∧ acc.length < sizeLine ∧ Same H (upd H4 D (.lst (acc ++ [z]))) ∧ upd H4 D (.lst (acc ++ [z])) D = some (.lst ((List.range (j + 1)).map fun i => V.bl (PySem.W.dataLt (ds.getD i .none) (ds.getD (i + 1) .none))))) := by
  have S1 := S.trans (same_new (o := HO.tup [x, y]) nU)
  obtain ⟨d, hd, td⟩ := hx.get h1
  have h2' : xs[j + 1]? = some y := by
    rw [List.getElem?_drop] at h2
    rw [Nat.add_comm]
    exact h2
  obtain ⟨e, he, te⟩ := hx.get h2'
  have g1 : ds.getD j .none = d := by rw [List.getD_eq_getElem?_getD, hd]; rfl
  have g2 : ds.getD (j + 1) .none = e := by rw [List.getD_eq_getElem?_getD, he]; rfl
  have hlt : j + 1 < ds.length := by
    have z := (List.getElem?_eq_some_iff.mp he).1
    exact z
  obtain ⟨o1, o2, o3⟩ := ok j hlt
  rw [g1, g2] at o1
  rw [g1] at o2 o3
  refine ⟨d, e, td.same S1, te.same S1, o1, o2, o3, _, same_new nU _ _ hD, ?_, grow nD S1, ?_⟩
  · rw [List.length_map, List.length_range, sizeLine_eq]
    omega
  · rw [upd_same, List.range_succ, List.map_append]
    show _ = some (HO.lst (_ ++ [V.bl (PySem.W.dataLt (ds.getD j .none) (ds.getD (j + 1) .none))]))
    rw [g1, g2]
theorem ok_asc {f : Addr} {fd : FuncData} (F : Fun K "is_ascending" "is_ascending" sAsc f fd) (T : Nm mg) : FnOk P w K mg base CX0 1 f fd ["items"] (fun vs H Q E => spAsc vs H Q E ∧ ∀ a xs, (H a = some (.lst xs) ∨ H a = some (.tup xs)) → vs = [.ref a] → xs.length < 1000000) := by
  refine F.ok scAsc (fun vs H Q E h => ?_) (fun cdv A outer s H vs Q E hr h => ?_)
  · obtain ⟨⟨a, xs, ds, rfl, _⟩, _⟩ := h
    rfl
  · obtain ⟨⟨a, xs, ds, rfl, ha, hx, ok, q⟩, hz⟩ := h
    have hu := hr.units
    have hl := hz a xs ha rfl
    have hlen : min xs.length (xs.drop 1).length = ds.length - 1 := by
      rw [List.length_drop, hx.len]
      omega
    have fin : ∀ {D : Addr} {Hx : Hp} {Q' : VK}, (∀ H', Same H H' → Q' (.bl (ascB ds)) H') → Same H Hx → Hx D = some (.lst ((List.range (ds.length - 1)).map fun i => V.bl (PySem.W.dataLt (ds.getD i .none) (ds.getD (i + 1) .none)))) → rAll K [.ref D] Hx Q' := by
      intro D Hx Q' q' S hD
      refine ⟨D, (List.range (ds.length - 1)).map fun i => PySem.W.dataLt (ds.getD i .none) (ds.getD (i + 1) .none), rfl, SqL.of (by rw [hD, List.map_map]; rfl), ?_⟩
      rw [List.all_map]
      exact q' Hx S
    rcases ha with ha | ha
    · refine ⟨_, pss_one (ps_ret (pe_callB (cr_all rfl) (by rfl) T.all boot_all (pa_cons (pe_lc (own := [("before", 1), ("after", 2)]) (g := gTup K 2 (gCons (gName 1) (gCons (gName 2) gNil))) (tt := tYes) rfl scAsc.nd
          (RZ.pi_zipA rfl T.zip (pa_cons (pv 0) (pa_cons (pe_slice sl_list (pv 0) (po_some pe_int) po_none) pa_nil))) (blkOk_by (N := ["items", "before", "after"]) (sc := defScope sAsc) (by decide +kernel))
          (fun _ _ _ _ _ => pg_tup rfl (pgs_cons (pg_name (i := 1) scAsc.nd rfl (Or.inl rfl)) (pgs_cons (pg_name (i := 2) scAsc.nd rfl (Or.inl rfl)) pgs_nil))) (fun _ _ _ _ _ => pts_nil) (fun _ _ _ _ _ => pe_cmpR (op_ltDat hu) (pv 1) (pv 2) (nomark _))) pa_nil))), ?_⟩
      refine ⟨_, rfl, _, rfl, 1, rfl, a, xs, rfl, SqL.of ha, fun b nb => ?_⟩
      rw [cut1]
      have Sb := same_new (o := HO.lst (xs.drop 1)) nb
      have hb : upd H b (.lst (xs.drop 1)) b = some (.lst (xs.drop 1)) := upd_same
      generalize upd H b (.lst (xs.drop 1)) = Hb at Sb hb ⊢
      refine ⟨a, b, xs, xs.drop 1, rfl, .inl ⟨SqL.of (Sb _ _ ha), SqL.of hb, fun D nD => lc_it (walk_zip (K := K) (a := a) (b := b) (xs := xs) (ys := xs.drop 1) hlen.symm) (fun j Hx => Same Hb Hx ∧ Hx D = some (.lst ((List.range j).map fun i => V.bl (PySem.W.dataLt (ds.getD i .none) (ds.getD (i + 1) .none)))))
        ⟨same_new nD, upd_same⟩ (fun j Hx _ ⟨S, _⟩ => ⟨SqL.of (S _ _ (Sb _ _ ha)), SqL.of (S _ _ hb)⟩) ?_ ?_⟩⟩
      · rintro j z Hx Hy hj ⟨S, hD⟩ ⟨U, x, y, rfl, nU, rfl, h1, h2⟩
        exact ⟨U, _, rfl, SqT.of upd_same, rfl, _, _, rfl, _, _, rfl, rfl, rfl, _, rfl, _, rfl, asc_turn nD S hD (hx.same Sb) ok h1 h2 (by omega) nU⟩
      · rintro Hx ⟨S, hD⟩
        exact fin q (Sb.trans S) hD
    · refine ⟨_, pss_one (ps_ret (pe_callB (cr_all rfl) (by rfl) T.all boot_all (pa_cons (pe_lc (own := [("before", 1), ("after", 2)]) (g := gTup K 2 (gCons (gName 1) (gCons (gName 2) gNil))) (tt := tYes) rfl scAsc.nd
          (RZ.pi_zipA rfl T.zip (pa_cons (pv 0) (pa_cons (pe_slice sl_tupA (pv 0) (po_some pe_int) po_none) pa_nil))) (blkOk_by (N := ["items", "before", "after"]) (sc := defScope sAsc) (by decide +kernel))
          (fun _ _ _ _ _ => pg_tup rfl (pgs_cons (pg_name (i := 1) scAsc.nd rfl (Or.inl rfl)) (pgs_cons (pg_name (i := 2) scAsc.nd rfl (Or.inl rfl)) pgs_nil))) (fun _ _ _ _ _ => pts_nil) (fun _ _ _ _ _ => pe_cmpR (op_ltDat hu) (pv 1) (pv 2) (nomark _))) pa_nil))), ?_⟩
      refine ⟨_, rfl, _, rfl, 1, rfl, ?_⟩
      dsimp only [tNoPart]
      refine slA_of ha fun b Hb Sb hb => ?_
      refine ⟨a, b, xs, xs.drop 1, rfl, .inr ⟨SqT.of (Sb _ _ ha), SqT.of hb, fun D nD => lc_it (walk_zip2 (K := K) (a := a) (b := b) (xs := xs) (ys := xs.drop 1) hlen.symm) (fun j Hx => Same Hb Hx ∧ Hx D = some (.lst ((List.range j).map fun i => V.bl (PySem.W.dataLt (ds.getD i .none) (ds.getD (i + 1) .none)))))
        ⟨same_new nD, upd_same⟩ (fun j Hx _ ⟨S, _⟩ => ⟨SqT.of (S _ _ (Sb _ _ ha)), SqT.of (S _ _ hb)⟩) ?_ ?_⟩⟩
      · rintro j z Hx Hy hj ⟨S, hD⟩ ⟨U, x, y, rfl, nU, rfl, h1, h2⟩
        exact ⟨U, _, rfl, SqT.of upd_same, rfl, _, _, rfl, _, _, rfl, rfl, rfl, _, rfl, _, rfl, asc_turn nD S hD (hx.same Sb) ok h1 h2 (by omega) nU⟩
      · rintro Hx ⟨S, hD⟩
        exact fin q (Sb.trans S) hD
end
end K3
set_option maxRecDepth 100000
set_option maxHeartbeats 4000000
namespace K3
open PySem PySem.Spec PyProof.Rows L2
/-! ### [p(x) for x in a tuple] -/
theorem lc_all {K : PySem.W.Frag} {H : Hp} {a : Addr} {xs : List V} {ds : List PyData} {g : TG} {te : TE} {vs : List Nat} {σ : L2.St} {D : Addr} {Qd : Hp → Prop} (p : PyData → Bool) (ha : H a = some (.tup xs)) (hx : DatAll H xs ds) (hz : xs.length ≤ 1000000) (nD : H D = none)
    (hs : ∀ (i : Nat) (x : V) (d : PyData) (Hx : Hp), xs[i]? = some x → ds[i]? = some d → Dat Hx x d → Same H Hx → ∀ R : VK, (∀ H', Same Hx H' → R (.bl (p d)) H') → g x (wipe σ vs) Hx fun σ2 H2 => wipe σ2 vs = wipe σ vs ∧ te σ2 H2 R)
    (mono : ∀ (x : V) (Hx : Hp) (A B : L2.St → Hp → Prop), (∀ σ2 H2, A σ2 H2 → B σ2 H2) → g x (wipe σ vs) Hx A → g x (wipe σ vs) Hx B)
    (hd : ∀ Hx, Same H Hx → Hx D = some (.lst ((ds.map p).map V.bl)) → Qd Hx) :
    ∃ W : Nat → Nat → Hp → Prop, (∃ m, W 0 m (upd H D (.lst []))) ∧ ∀ i m H, W i m H →
      ((Itt K a).stop i H ∧ Qd H) ∨ ((Itt K a).go i H ∧ ∃ Nx : Hp → Prop, (∀ H', Nx H' → ∃ m', m' < m ∧ W (i + 1) m' H') ∧ ∀ x H', (Itt K a).yld i H x H' → g x (wipe σ vs) H' fun σ2 H2 => wipe σ2 vs = wipe σ vs ∧ tYes σ2 H2 fun b H3 =>
        if b = true then te σ2 H3 fun y H4 => ∃ acc, H4 D = some (.lst acc) ∧ acc.length < sizeLine ∧ Nx (upd H4 D (.lst (acc ++ [y]))) else Nx H3) := by
  refine lc_tup (K := K) (a := a) (xs := xs) (fun j Hx => Same H Hx ∧ Hx D = some (.lst (((ds.take j).map p).map V.bl))) ⟨same_new nD, upd_same⟩ (fun j Hx _ ⟨S, _⟩ => SqT.of (S _ _ ha)) ?_ ?_
  · rintro i x Hx hi ⟨S, hD⟩
    obtain ⟨d, hdi, td⟩ := hx.get hi
    refine mono x Hx _ _ (fun σ2 H2 h => ⟨h.1, ?_⟩) (hs i x d Hx hi hdi (td.same S) S (fun y H4 => ∃ acc, H4 D = some (.lst acc) ∧ acc.length < sizeLine ∧ Same H (upd H4 D (.lst (acc ++ [y]))) ∧ upd H4 D (.lst (acc ++ [y])) D = some (.lst (((ds.take (i + 1)).map p).map V.bl))) fun H' S' => ?_)
    · dsimp only [tYes]
      first
        | exact if_t rfl h.2
        | exact h.2
    · have hi' : i < xs.length := (List.getElem?_eq_some_iff.mp hi).1
      refine ⟨_, S' _ _ hD, ?_, grow nD (S.trans S'), ?_⟩
      · rw [List.length_map, List.length_map, List.length_take, sizeLine_eq]
        omega
      · rw [upd_same, List.take_add_one, hdi]
        simp
  · rintro Hx ⟨S, hD⟩
    refine hd Hx S ?_
    rw [hD, hx.len, List.take_of_length_le (Nat.le_refl _)]
theorem mono_name {i : Nat} {σ : L2.St} {vs : List Nat} : ∀ (x : V) (Hx : Hp) (A B : L2.St → Hp → Prop), (∀ σ2 H2, A σ2 H2 → B σ2 H2) → gName i x (wipe σ vs) Hx A → gName i x (wipe σ vs) Hx B := fun _ _ _ _ h a => h _ _ a
theorem all_bools {K : PySem.W.Frag} {H : Hp} {D : Addr} {bs : List Bool} {Q : VK} (h : H D = some (.lst (bs.map V.bl))) (q : Q (.bl (bs.all id)) H) : rAll K [.ref D] H Q := ⟨D, bs, rfl, SqL.of h, q⟩
/-! ### promises of the leaves' checks: the whole tuple is handed over -/
def spT (m : Nat) (p : List PyData → Bool) : Sp := fun vs H Q _ => ∃ (a : Addr) (xs : List V) (ds : List PyData), vs = [.ref a] ∧ H a = some (.tup xs) ∧ DatAll H xs ds ∧ ds.length = m ∧ ∀ H', Same H H' → Q (.bl (p ds)) H'
abbrev sIsState : Stmt := top 29
abbrev sAreStates : Stmt := top 30
abbrev sIsMove : Stmt := top 28
abbrev sIsCount : Stmt := top 45
abbrev sSubset : Stmt := top 42
abbrev sWalk : Stmt := top 47
abbrev sCycle : Stmt := top 48
abbrev sMatching : Stmt := top 49
abbrev sPerm : Stmt := top 50
abbrev sTree : Stmt := top 51
abbrev sRow : Stmt := top 53
abbrev sPower : Stmt := top 54
/-- the module's constants -/
structure Cst (mg : Str → Option Value) : Prop where
  places : ∃ t, mg "MOST_PLACES" = some (.int 400 t)
  steps : ∃ t, mg "MOST_STEPS" = some (.int 60 t)
  pairs : ∃ t, mg "MOST_PAIRS" = some (.int 200 t)
  highest : ∃ t, mg "HIGHEST" = some (.int 60 t)
  letters : ∃ t, mg "MOST_LETTERS" = some (.int 6 t)
  moves : ∃ t, mg "MOST_MOVES" = some (.int 48 t)
  last : ∃ t, mg "LAST_STATE" = some (.int 7 t)
  nested : ∃ t, mg "MOST_NESTED" = some (.int 6 t)
  deepest : ∃ t, mg "DEEPEST" = some (.int 6 t)
  parts : ∃ t, mg "MOST_PARTS" = some (.int 40 t)
  name : ∃ t, mg "LONGEST_NAME" = some (.int 6 t)
  digits : ∃ t, mg "DIGITS" = some (.int 4000 t)
  leaves : ∃ t, mg "LEAVES" = some (.int 2000 t)
def at0 (ds : List PyData) (i : Nat) : PyData := ds.getD i .none
theorem at_of {ds : List PyData} {i : Nat} {d : PyData} (h : ds[i]? = some d) : at0 ds i = d := by
  unfold at0
  rw [List.getD_eq_getElem?_getD, h]
  rfl
def pCycle (ds : List PyData) : Bool := btw 1 400 (at0 ds 1)
def pMatching (ds : List PyData) : Bool := btw 0 200 (at0 ds 1)
def pPower (ds : List PyData) : Bool := btw 0 400 (at0 ds 1)
def pRow (ds : List PyData) : Bool := tupOf 1 6 (at0 ds 1)
def intOf : PyData → Int
  | .int i => i
  | _ => 0
def pSubset (ds : List PyData) : Bool := btw 0 400 (at0 ds 1) && btw 0 (intOf (at0 ds 1)) (at0 ds 2)
theorem btw_int {lo hi : Int} {d : PyData} (h : btw lo hi d = true) : ∃ i, d = .int i ∧ lo ≤ i ∧ i ≤ hi := by
  cases d with
  | int i =>
    have h' : (decide (lo ≤ i) && decide (i ≤ hi)) = true := h
    rw [Bool.and_eq_true] at h'
    exact ⟨i, rfl, of_decide_eq_true h'.1, of_decide_eq_true h'.2⟩
  | _ => cases h
section
variable {P : Program} {w : World} {K : PySem.W.Frag} {mg : Str → Option Value} {base : Heap}
theorem scIsState : FnScope ["value"] ["value"] (defScope sIsState) := ⟨rfl, rfl, rfl, by decide +kernel, rfl, by decide +kernel, by decide +kernel⟩
theorem scCycle : FnScope ["space"] ["space"] (defScope sCycle) := ⟨rfl, rfl, rfl, by decide +kernel, rfl, by decide +kernel, by decide +kernel⟩
theorem scMatching : FnScope ["space"] ["space"] (defScope sMatching) := ⟨rfl, rfl, rfl, by decide +kernel, rfl, by decide +kernel, by decide +kernel⟩
theorem scTree : FnScope ["space"] ["space"] (defScope sTree) := ⟨rfl, rfl, rfl, by decide +kernel, rfl, by decide +kernel, by decide +kernel⟩
theorem scPower : FnScope ["space"] ["space"] (defScope sPower) := ⟨rfl, rfl, rfl, by decide +kernel, rfl, by decide +kernel, by decide +kernel⟩
theorem scRow : FnScope ["space"] ["space"] (defScope sRow) := ⟨rfl, rfl, rfl, by decide +kernel, rfl, by decide +kernel, by decide +kernel⟩
theorem scSubset : FnScope ["space", "n", "k"] ["space"] (defScope sSubset) := ⟨rfl, rfl, rfl, by decide +kernel, rfl, by decide +kernel, by decide +kernel⟩
theorem ok_state {f fB : Addr} {fd fdB : FuncData} (F : Fun K "is_state" "is_state" sIsState f fd) (Z : Cst mg) (B : DefOk K mg "is_between" sBtw ["value", "low", "high"] fB fdB) (GB : FnOk P w K mg base CX0 2 fB fdB ["value", "low", "high"] spBtw) : FnOk P w K mg base CX0 3 f fd ["value"] (spP (btw 0 7)) := by
  obtain ⟨t, z⟩ := Z.last
  refine F.ok scIsState (fun vs H Q E h => ?_) (fun cdv A outer s H vs Q E hr h => ?_)
  · obtain ⟨v, d, rfl, _⟩ := h
    rfl
  · obtain ⟨v, d, rfl, hd, q⟩ := h
    refine ⟨_, pss_one (ps_ret (pe_call GB hr rfl B.g B.F.kp B.b .nil pass0 (pa_cons (pv 0) (pa_cons pe_int (pa_cons (pe_glob (v := .int 7) rfl z ⟨_, rfl⟩) pa_nil))))), ?_⟩
    exact ⟨_, rfl, v, d, 0, 7, rfl, hd, q⟩
theorem ok_cycle {f fB : Addr} {fd fdB : FuncData} (F : Fun K "is_cycle" "is_cycle" sCycle f fd) (Z : Cst mg) (B : DefOk K mg "is_between" sBtw ["value", "low", "high"] fB fdB) (GB : FnOk P w K mg base CX0 2 fB fdB ["value", "low", "high"] spBtw) : FnOk P w K mg base CX0 3 f fd ["space"] (spT 2 pCycle) := by
  obtain ⟨t, z⟩ := Z.places
  refine F.ok scCycle (fun vs H Q E h => ?_) (fun cdv A outer s H vs Q E hr h => ?_)
  · obtain ⟨a, xs, ds, rfl, _⟩ := h
    rfl
  · obtain ⟨a, xs, ds, rfl, ha, hx, hl, q⟩ := h
    obtain ⟨x1, g1, td⟩ := hx.at (j := 1) (List.getElem?_eq_getElem (by omega))
    refine ⟨_, pss_one (ps_ret (pe_call GB hr rfl B.g B.F.kp B.b .nil pass0 (pa_cons (pe_ix ix_tup (pv 0) pe_int (fun _ _ => rfl)) (pa_cons pe_int (pa_cons (pe_glob (v := .int 400) rfl z ⟨_, rfl⟩) pa_nil))))), ?_⟩
    refine ⟨_, rfl, a, _, _, _, rfl, rfl, SqT.of ha, atI_nat (j := 1) g1, x1, _, 1, 400, rfl, td, fun H' S => ?_⟩
    have q' := q H' S
    unfold pCycle at q'
    rw [at_of (List.getElem?_eq_getElem (by omega))] at q'
    exact q'
theorem ok_subset {f fB : Addr} {fd fdB : FuncData} (F : Fun K "is_subset" "is_subset" sSubset f fd) (Z : Cst mg) (B : DefOk K mg "is_between" sBtw ["value", "low", "high"] fB fdB) (GB : FnOk P w K mg base CX0 2 fB fdB ["value", "low", "high"] spBtw) : FnOk P w K mg base CX0 3 f fd ["space"] (spT 3 pSubset) := by
  obtain ⟨t, z⟩ := Z.places
  refine F.ok scSubset (fun vs H Q E h => ?_) (fun cdv A outer s H vs Q E hr h => ?_)
  · obtain ⟨a, xs, ds, rfl, _⟩ := h
    rfl
  · obtain ⟨a, xs, ds, rfl, ha, hx, hl, q⟩ := h
    match ds, hl, hx with
    | [d0, d1, d2], _, .cons (v := x0) t0 (.cons (v := x1) t1 (.cons (v := x2) t2 .nil)) =>
      refine ⟨_, pss_cons (ps_asg (pe_slice sl_tupA (pv 0) (po_some pe_int) po_none) (pg_tup rfl (pgs_cons (pg_name (i := 1) scSubset.nd rfl (Or.inl rfl)) (pgs_cons (pg_name (i := 2) scSubset.nd rfl (Or.inl rfl)) pgs_nil))))
        (pss_one (ps_ret (pe_and (pe_call GB hr rfl B.g B.F.kp B.b .nil pass0 (pa_cons (pv 1) (pa_cons pe_int (pa_cons (pe_glob (v := .int 400) rfl z ⟨_, rfl⟩) pa_nil))))
          (pe_one (pe_call GB hr rfl B.g B.F.kp B.b .nil pass0 (pa_cons (pv 2) (pa_cons pe_int (pa_cons (pv 1) pa_nil)))))))), ?_⟩
      refine ⟨_, rfl, 1, rfl, ?_⟩
      dsimp only [tNoPart]
      refine slA_of ha fun b Hb Sb hb => ?_
      refine ⟨b, [x1, x2], rfl, SqT.of hb, rfl, _, _, rfl, _, _, rfl, rfl, ?_⟩
      refine ⟨_, rfl, x1, d1, 0, 400, rfl, t1.same Sb, fun H' S => ⟨_, rfl, ?_⟩⟩
      have q' := q H' (Sb.trans S)
      have e : pSubset [d0, d1, d2] = (btw 0 400 d1 && btw 0 (intOf d1) d2) := rfl
      rw [e] at q'
      cases h : btw 0 400 d1 with
      | true =>
        obtain ⟨i, rfl, _, _⟩ := btw_int h
        cases t1
        refine if_t rfl ⟨_, rfl, _, rfl, x2, d2, 0, i, rfl, (t2.same Sb).same S, fun H2 S2 => ?_⟩
        have q2 := q H2 ((Sb.trans S).trans S2)
        rw [e, h] at q2
        exact q2
      | false =>
        rw [h] at q'
        exact if_f rfl q'
end
end K3
set_option maxRecDepth 100000
set_option maxHeartbeats 4000000
namespace K3
open PySem PySem.Spec PyProof.Rows L2
theorem cutK (k : Nat) (xs : List V) : cutV xs (some (k : Int)) none = xs.drop k := by
  unfold cutV
  have e1 : HT.sIx xs.length 0 (some (k : Int)) = min k xs.length := HT.sIx_nat xs.length 0 k
  have e2 : HT.sIx xs.length xs.length none = xs.length := HT.sIx_none _ _
  rw [e1, e2]
  by_cases h : k ≤ xs.length
  · rw [show min k xs.length = k by omega]
    exact List.take_of_length_le (by rw [List.length_drop]; omega)
  · rw [show min k xs.length = xs.length by omega, List.drop_of_length_le (Nat.le_refl xs.length), List.drop_of_length_le (by omega)]
    exact List.take_nil
/-- t[k:] -/
theorem slK_of {K : PySem.W.Frag} {H : Hp} {a : Addr} {xs : List V} {Q : VK} (k : Nat) (ha : H a = some (.tup xs)) (hq : ∀ (b : Addr) (Hb : Hp), Same H Hb → Hb b = some (.tup (xs.drop k)) → Q (.ref b) Hb) : rSlA K (.ref a) (some (k : Int)) none H Q := by
  refine ⟨a, xs, rfl, SqT.of ha, fun z => ?_, fun _ p np => ?_⟩
  · have e1 : HT.sIx xs.length 0 (some (k : Int)) = min k xs.length := HT.sIx_nat xs.length 0 k
    have e2 : min k xs.length = 0 := e1.symm.trans z.1
    refine hq a H (fun _ _ e => e) ?_
    by_cases h0 : k = 0
    · rw [h0]
      exact ha
    · have e3 : xs = [] := List.eq_nil_of_length_eq_zero (by omega)
      rw [e3] at ha ⊢
      rw [List.drop_nil]
      exact ha
  · rw [cutK]
    exact hq p _ (same_new np) upd_same
theorem DatAll.drop {H : Hp} : ∀ (k : Nat) {xs : List V} {ds : List PyData}, DatAll H xs ds → DatAll H (xs.drop k) (ds.drop k)
  | 0, _, _, h => h
  | _ + 1, _, _, .nil => .nil
  | k + 1, _, _, .cons _ t => DatAll.drop k t
/-! ints can be compared -/
theorem asc_ints {ds : List PyData} (h : ∀ d ∈ ds, ∃ i, d = .int i) : AscOk ds := fun i hi => by
  have g : ∀ j, j < ds.length → ∃ z, ds.getD j .none = .int z := fun j hj => by
    obtain ⟨z, e⟩ := h ds[j] (List.getElem_mem hj)
    exact ⟨z, by rw [List.getD_eq_getElem?_getD, List.getElem?_eq_getElem hj]; exact e⟩
  obtain ⟨x, ex⟩ := g i (by omega)
  obtain ⟨y, ey⟩ := g (i + 1) hi
  rw [ex, ey]
  exact ⟨by simp [PySem.W.alike], by simp, by simp [PyData.depth]⟩
theorem asc_strs {ds : List PyData} (h : ∀ d ∈ ds, ∃ s, d = .str s) : AscOk ds := fun i hi => by
  have g : ∀ j, j < ds.length → ∃ z, ds.getD j .none = .str z := fun j hj => by
    obtain ⟨z, e⟩ := h ds[j] (List.getElem_mem hj)
    exact ⟨z, by rw [List.getD_eq_getElem?_getD, List.getElem?_eq_getElem hj]; exact e⟩
  obtain ⟨x, ex⟩ := g i (by omega)
  obtain ⟨y, ey⟩ := g (i + 1) hi
  rw [ex, ey]
  exact ⟨by simp [PySem.W.alike], by simp, by simp [PyData.depth]⟩
theorem all_btw {lo hi : Int} {ds : List PyData} (h : ds.all (btw lo hi) = true) : ∀ d ∈ ds, ∃ i, d = .int i := fun d hd => by
  obtain ⟨i, e, _⟩ := btw_int (List.all_eq_true.mp h d hd)
  exact ⟨i, e⟩
def pTree (ds : List PyData) : Bool := btw 1 400 (at0 ds 1)
def tupItems : PyData → List PyData
  | .tuple ds => ds
  | _ => []
def pWalk (ds : List PyData) : Bool := (ds.drop 2).all (btw (-60) 60) && (btw 0 60 (at0 ds 1) && (decide (intOf (at0 ds 4) ≤ intOf (at0 ds 2)) && decide (intOf (at0 ds 2) ≤ intOf (at0 ds 5)) && (decide (intOf (at0 ds 4) ≤ intOf (at0 ds 3)) && decide (intOf (at0 ds 3) ≤ intOf (at0 ds 5)))))
def pPerm (ds : List PyData) : Bool := btw 0 60 (at0 ds 1) && tupOf 0 (intOf (at0 ds 1)) (at0 ds 2) && ((tupItems (at0 ds 2)).all (btw 0 (intOf (at0 ds 1) - 1)) && ascB (tupItems (at0 ds 2)))
def statesB (d : PyData) : Bool := tupOf 0 8 d && ((tupItems d).all (btw 0 7) && ascB (tupItems d))
def countB (d : PyData) : Bool := tupOf 2 2 d && (nameB (at0 (tupItems d) 0) && btw 1 400 (at0 (tupItems d) 1))
def moveB (d : PyData) : Bool := tupOf 3 3 d && (btw 0 7 (at0 (tupItems d) 0) && (nameB (at0 (tupItems d) 1) && btw 0 7 (at0 (tupItems d) 2)))
theorem tupOf_len {lo hi : Int} {d : PyData} (h : tupOf lo hi d = true) : ∃ ds, d = .tuple ds ∧ lo ≤ (ds.length : Int) ∧ (ds.length : Int) ≤ hi := by
  cases d with
  | tuple ds =>
    have h' : (decide (lo ≤ (ds.length : Int)) && decide ((ds.length : Int) ≤ hi)) = true := h
    rw [Bool.and_eq_true] at h'
    exact ⟨ds, rfl, of_decide_eq_true h'.1, of_decide_eq_true h'.2⟩
  | _ => cases h
section
variable {P : Program} {w : World} {K : PySem.W.Frag} {mg : Str → Option Value} {base : Heap}
/-- what is known of is_between, is_tuple, is_name, is_ascending -/
structure Pre (P : Program) (w : World) (K : PySem.W.Frag) (mg : Str → Option Value) (base : Heap) where
  (fB fT fN fA : Addr)
  (dB dT dN dA : FuncData)
  B : DefOk K mg "is_between" sBtw ["value", "low", "high"] fB dB
  T : DefOk K mg "is_tuple" sTup ["value", "least", "most"] fT dT
  N : DefOk K mg "is_name" sName ["value"] fN dN
  A : DefOk K mg "is_ascending" sAsc ["items"] fA dA
  GB : FnOk P w K mg base CX0 2 fB dB ["value", "low", "high"] spBtw
  GT : FnOk P w K mg base CX0 1 fT dT ["value", "least", "most"] spTup
  GN : FnOk P w K mg base CX0 1 fN dN ["value"] (spP nameB)
  GA : FnOk P w K mg base CX0 1 fA dA ["items"] (fun vs H Q E => spAsc vs H Q E ∧ ∀ a xs, (H a = some (.lst xs) ∨ H a = some (.tup xs)) → vs = [.ref a] → xs.length < 1000000)
  nm : Nm mg
  z : Cst mg
theorem ok_matching {f : Addr} {fd : FuncData} (F : Fun K "is_matching" "is_matching" sMatching f fd) (Y : Pre P w K mg base) : FnOk P w K mg base CX0 3 f fd ["space"] (spT 2 pMatching) := by
  obtain ⟨t, z⟩ := Y.z.pairs
  refine F.ok scMatching (fun vs H Q E h => ?_) (fun cdv A outer s H vs Q E hr h => ?_)
  · obtain ⟨a, xs, ds, rfl, _⟩ := h
    rfl
  · obtain ⟨a, xs, ds, rfl, ha, hx, hl, q⟩ := h
    obtain ⟨x1, g1, td⟩ := hx.at (j := 1) (List.getElem?_eq_getElem (by omega))
    refine ⟨_, pss_one (ps_ret (pe_call Y.GB hr rfl Y.B.g Y.B.F.kp Y.B.b .nil pass0 (pa_cons (pe_ix ix_tup (pv 0) pe_int (fun _ _ => rfl)) (pa_cons pe_int (pa_cons (pe_glob (v := .int 200) rfl z ⟨_, rfl⟩) pa_nil))))), ?_⟩
    refine ⟨_, rfl, a, _, _, _, rfl, rfl, SqT.of ha, atI_nat (j := 1) g1, x1, _, 0, 200, rfl, td, fun H' S => ?_⟩
    have q' := q H' S
    unfold pMatching at q'
    rw [at_of (List.getElem?_eq_getElem (by omega))] at q'
    exact q'
theorem ok_tree {f : Addr} {fd : FuncData} (F : Fun K "is_tree" "is_tree" sTree f fd) (Y : Pre P w K mg base) : FnOk P w K mg base CX0 3 f fd ["space"] (spT 2 pTree) := by
  obtain ⟨t, z⟩ := Y.z.places
  refine F.ok scTree (fun vs H Q E h => ?_) (fun cdv A outer s H vs Q E hr h => ?_)
  · obtain ⟨a, xs, ds, rfl, _⟩ := h
    rfl
  · obtain ⟨a, xs, ds, rfl, ha, hx, hl, q⟩ := h
    obtain ⟨x1, g1, td⟩ := hx.at (j := 1) (List.getElem?_eq_getElem (by omega))
    refine ⟨_, pss_one (ps_ret (pe_call Y.GB hr rfl Y.B.g Y.B.F.kp Y.B.b .nil pass0 (pa_cons (pe_ix ix_tup (pv 0) pe_int (fun _ _ => rfl)) (pa_cons pe_int (pa_cons (pe_glob (v := .int 400) rfl z ⟨_, rfl⟩) pa_nil))))), ?_⟩
    refine ⟨_, rfl, a, _, _, _, rfl, rfl, SqT.of ha, atI_nat (j := 1) g1, x1, _, 1, 400, rfl, td, fun H' S => ?_⟩
    have q' := q H' S
    unfold pTree at q'
    rw [at_of (List.getElem?_eq_getElem (by omega))] at q'
    exact q'
theorem ok_power {f : Addr} {fd : FuncData} (F : Fun K "is_power" "is_power" sPower f fd) (Y : Pre P w K mg base) : FnOk P w K mg base CX0 3 f fd ["space"] (spT 3 pPower) := by
  obtain ⟨t, z⟩ := Y.z.places
  refine F.ok scPower (fun vs H Q E h => ?_) (fun cdv A outer s H vs Q E hr h => ?_)
  · obtain ⟨a, xs, ds, rfl, _⟩ := h
    rfl
  · obtain ⟨a, xs, ds, rfl, ha, hx, hl, q⟩ := h
    obtain ⟨x1, g1, td⟩ := hx.at (j := 1) (List.getElem?_eq_getElem (by omega))
    refine ⟨_, pss_one (ps_ret (pe_call Y.GB hr rfl Y.B.g Y.B.F.kp Y.B.b .nil pass0 (pa_cons (pe_ix ix_tup (pv 0) pe_int (fun _ _ => rfl)) (pa_cons pe_int (pa_cons (pe_glob (v := .int 400) rfl z ⟨_, rfl⟩) pa_nil))))), ?_⟩
    refine ⟨_, rfl, a, _, _, _, rfl, rfl, SqT.of ha, atI_nat (j := 1) g1, x1, _, 0, 400, rfl, td, fun H' S => ?_⟩
    have q' := q H' S
    unfold pPower at q'
    rw [at_of (List.getElem?_eq_getElem (by omega))] at q'
    exact q'
theorem ok_row {f : Addr} {fd : FuncData} (F : Fun K "is_row" "is_row" sRow f fd) (Y : Pre P w K mg base) : FnOk P w K mg base CX0 2 f fd ["space"] (spT 2 pRow) := by
  obtain ⟨t, z⟩ := Y.z.nested
  refine F.ok scRow (fun vs H Q E h => ?_) (fun cdv A outer s H vs Q E hr h => ?_)
  · obtain ⟨a, xs, ds, rfl, _⟩ := h
    rfl
  · obtain ⟨a, xs, ds, rfl, ha, hx, hl, q⟩ := h
    obtain ⟨x1, g1, td⟩ := hx.at (j := 1) (List.getElem?_eq_getElem (by omega))
    refine ⟨_, pss_one (ps_ret (pe_call Y.GT hr rfl Y.T.g Y.T.F.kp Y.T.b .nil pass0 (pa_cons (pe_ix ix_tup (pv 0) pe_int (fun _ _ => rfl)) (pa_cons pe_int (pa_cons (pe_glob (v := .int 6) rfl z ⟨_, rfl⟩) pa_nil))))), ?_⟩
    refine ⟨_, rfl, a, _, _, _, rfl, rfl, SqT.of ha, atI_nat (j := 1) g1, x1, _, 1, 6, rfl, td, fun H' S => ?_⟩
    have q' := q H' S
    unfold pRow at q'
    rw [at_of (List.getElem?_eq_getElem (by omega))] at q'
    exact q'
theorem scWalk : FnScope ["space", "n", "start", "end", "low", "high", "height"] ["space"] (defScope sWalk) := ⟨rfl, rfl, rfl, by decide +kernel, rfl, by decide +kernel, by decide +kernel⟩
theorem scPerm : FnScope ["space", "n", "moved", "place"] ["space"] (defScope sPerm) := ⟨rfl, rfl, rfl, by decide +kernel, rfl, by decide +kernel, by decide +kernel⟩
theorem scStates : FnScope ["value", "state"] ["value"] (defScope sAreStates) := ⟨rfl, rfl, rfl, by decide +kernel, rfl, by decide +kernel, by decide +kernel⟩
theorem scCount : FnScope ["pair"] ["pair"] (defScope sIsCount) := ⟨rfl, rfl, rfl, by decide +kernel, rfl, by decide +kernel, by decide +kernel⟩
theorem scMove : FnScope ["move", "state", "letter", "reached"] ["move"] (defScope sIsMove) := ⟨rfl, rfl, rfl, by decide +kernel, rfl, by decide +kernel, by decide +kernel⟩
theorem dat_int {H : Hp} {v : V} {i : Int} (h : Dat H v (.int i)) : v = .int i := by
  cases h
  rfl
theorem ok_walk {f : Addr} {fd : FuncData} (F : Fun K "is_walk" "is_walk" sWalk f fd) (Y : Pre P w K mg base) : FnOk P w K mg base CX0 3 f fd ["space"] (spT 6 pWalk) := by
  obtain ⟨t, z⟩ := Y.z.highest
  obtain ⟨t2, z2⟩ := Y.z.steps
  refine F.ok scWalk (fun vs H Q E h => ?_) (fun cdv A outer s H vs Q E hr h => ?_)
  · obtain ⟨a, xs, ds, rfl, _⟩ := h
    rfl
  · obtain ⟨a, xs, ds, rfl, ha, hx, hl, q⟩ := h
    match ds, hl, hx with
    | [d0, d1, d2, d3, d4, d5], _, .cons (v := x0) c0 (.cons (v := x1) c1 (.cons (v := x2) c2 (.cons (v := x3) c3 (.cons (v := x4) c4 (.cons (v := x5) c5 .nil))))) =>
      refine ⟨_, pss_cons (ps_asg (pe_slice sl_tupA (pv 0) (po_some pe_int) po_none) (pg_tup rfl (pgs_cons (pg_name (i := 1) scWalk.nd rfl (Or.inl rfl)) (pgs_cons (pg_name (i := 2) scWalk.nd rfl (Or.inl rfl)) (pgs_cons (pg_name (i := 3) scWalk.nd rfl (Or.inl rfl)) (pgs_cons (pg_name (i := 4) scWalk.nd rfl (Or.inl rfl)) (pgs_cons (pg_name (i := 5) scWalk.nd rfl (Or.inl rfl)) pgs_nil)))))))
        (pss_cons (ps_if (pt_not (pt_val (pe_callB (cr_all rfl) (by rfl) Y.nm.all boot_all (pa_cons (pe_lc (own := [("height", 6)]) (g := gName 6) (tt := tYes) rfl scWalk.nd (pi_tup (pe_slice sl_tupA (pv 0) (po_some pe_int) po_none)) (blkOk_by (N := ["space", "n", "start", "end", "low", "high", "height"]) (sc := defScope sWalk) (by decide +kernel))
            (fun _ _ _ _ _ => pg_name (i := 6) scWalk.nd rfl (Or.inl rfl)) (fun _ _ _ _ _ => pts_nil) (fun _ _ _ _ _ => pe_call Y.GB hr rfl Y.B.g Y.B.F.kp Y.B.b .nil pass0 (pa_cons (pv 6) (pa_cons (pe_un un_neg (pe_glob (v := .int 60) rfl z ⟨_, rfl⟩)) (pa_cons (pe_glob (v := .int 60) rfl z ⟨_, rfl⟩) pa_nil))))) pa_nil)))) (pss_one (ps_ret pe_bl)) pss_nil)
        (pss_one (ps_ret (pe_and (pe_call Y.GB hr rfl Y.B.g Y.B.F.kp Y.B.b .nil pass0 (pa_cons (pv 1) (pa_cons pe_int (pa_cons (pe_glob (v := .int 60) rfl z2 ⟨_, rfl⟩) pa_nil)))) (pe_and (pe_chain op_le op_le (pv 4) (pv 2) (pv 5)) (pe_one (pe_chain op_le op_le (pv 4) (pv 3) (pv 5)))))))), ?_⟩
      refine ⟨_, rfl, 1, rfl, ?_⟩
      dsimp only [tNoPart]
      refine slK_of 1 ha fun b Hb Sb hb => ?_
      refine ⟨b, [x1, x2, x3, x4, x5], rfl, SqT.of hb, rfl, _, _, rfl, _, _, rfl, _, _, rfl, _, _, rfl, _, _, rfl, rfl, ?_⟩
      refine ⟨_, rfl, 2, rfl, ?_⟩
      dsimp only [tNoPart]
      refine slK_of 2 (Sb _ _ ha) fun b2 Hc Sc hc => ?_
      have S2 := Sb.trans Sc
      have hx2 : DatAll Hc [x2, x3, x4, x5] [d2, d3, d4, d5] := .cons (c2.same S2) (.cons (c3.same S2) (.cons (c4.same S2) (.cons (c5.same S2) .nil)))
      refine ⟨b2, rfl, ⟨_, SqT.of hc⟩, fun D nD => lc_all (K := K) (a := b2) (xs := [x2, x3, x4, x5]) (ds := [d2, d3, d4, d5]) (btw (-60) 60) hc hx2 (show 4 ≤ 1000000 by decide) nD (fun i x d Hx hi hdi td S R hR => ⟨rfl, _, rfl, _, rfl, x, d, -60, 60, rfl, td, hR⟩) mono_name fun Hx S hD => ?_⟩
      refine ⟨D, [d2, d3, d4, d5].map (btw (-60) 60), rfl, SqL.of hD, _, rfl, ?_⟩
      have S3 := S2.trans S
      have eAll : ([d2, d3, d4, d5].map (btw (-60) 60)).all id = [d2, d3, d4, d5].all (btw (-60) 60) := by
        rw [List.all_map]
        rfl
      rw [eAll]
      have e : pWalk [d0, d1, d2, d3, d4, d5] = ([d2, d3, d4, d5].all (btw (-60) 60) && (btw 0 60 d1 && (decide (intOf d4 ≤ intOf d2) && decide (intOf d2 ≤ intOf d5) && (decide (intOf d4 ≤ intOf d3) && decide (intOf d3 ≤ intOf d5))))) := rfl
      rw [e] at q
      cases h : [d2, d3, d4, d5].all (btw (-60) 60) with
      | false =>
        rw [h] at q
        exact if_t rfl (q Hx S3)
      | true =>
        rw [h] at q
        obtain ⟨i2, r2⟩ := all_btw h d2 (by simp)
        obtain ⟨i3, r3⟩ := all_btw h d3 (by simp)
        obtain ⟨i4, r4⟩ := all_btw h d4 (by simp)
        obtain ⟨i5, r5⟩ := all_btw h d5 (by simp)
        subst r2 r3 r4 r5
        obtain rfl := dat_int c2
        obtain rfl := dat_int c3
        obtain rfl := dat_int c4
        obtain rfl := dat_int c5
        refine if_f rfl ⟨_, rfl, x1, d1, 0, 60, rfl, c1.same S3, fun H4 S4 => ⟨_, rfl, ?_⟩⟩
        have q4 := q H4 (S3.trans S4)
        cases h1 : btw 0 60 d1 with
        | false =>
          rw [h1] at q4
          exact if_f rfl q4
        | true =>
          rw [h1] at q4
          have q5 : Q (.bl (decide (i4 ≤ i2) && decide (i2 ≤ i5) && (decide (i4 ≤ i3) && decide (i3 ≤ i5)))) H4 := q4
          refine if_t rfl ⟨_, rfl, _, rfl, _, _, rfl, rfl, _, rfl, ?_⟩
          by_cases k1 : i4 ≤ i2
          · rw [decide_eq_true k1] at q5 ⊢
            refine if_t rfl ⟨_, rfl, _, _, rfl, rfl, _, rfl, ?_⟩
            by_cases k2 : i2 ≤ i5
            · rw [decide_eq_true k2] at q5 ⊢
              refine if_t rfl ⟨_, rfl, _, rfl, _, _, rfl, rfl, _, rfl, ?_⟩
              by_cases k3 : i4 ≤ i3
              · rw [decide_eq_true k3] at q5 ⊢
                exact if_t rfl ⟨_, rfl, _, _, rfl, rfl, q5⟩
              · rw [decide_eq_false k3] at q5 ⊢
                exact if_f rfl q5
            · rw [decide_eq_false k2] at q5 ⊢
              exact if_f rfl q5
          · rw [decide_eq_false k1] at q5 ⊢
            exact if_f rfl ⟨_, rfl, if_f rfl q5⟩
end
end K3
set_option maxRecDepth 100000
set_option maxHeartbeats 4000000
namespace K3
open PySem PySem.Spec PyProof.Rows L2
section
variable {P : Program} {w : World} {K : PySem.W.Frag} {mg : Str → Option Value} {base : Heap}
/-- as for Pre.GA: a tuple that is short -/
theorem asc_tup {H : Hp} {a : Addr} {xs : List V} {ds : List PyData} {Q : VK} {E : XK} (ha : H a = some (.tup xs)) (hx : DatAll H xs ds) (hz : xs.length < 1000000) (ok : AscOk ds) (q : ∀ H', Same H H' → Q (.bl (ascB ds)) H') :
    spAsc [.ref a] H Q E ∧ ∀ b ys, (H b = some (.lst ys) ∨ H b = some (.tup ys)) → ([V.ref a] : List V) = [.ref b] → ys.length < 1000000 := by
  refine ⟨⟨a, xs, ds, rfl, .inr ha, hx, ok, q⟩, fun b ys h e => ?_⟩
  injection e with e _
  injection e with e
  subst e
  rw [ha] at h
  rcases h with h | h
  · cases h
  · cases h
    exact hz
theorem asc_lst {H : Hp} {a : Addr} {xs : List V} {ds : List PyData} {Q : VK} {E : XK} (ha : H a = some (.lst xs)) (hx : DatAll H xs ds) (hz : xs.length < 1000000) (ok : AscOk ds) (q : ∀ H', Same H H' → Q (.bl (ascB ds)) H') :
    spAsc [.ref a] H Q E ∧ ∀ b ys, (H b = some (.lst ys) ∨ H b = some (.tup ys)) → ([V.ref a] : List V) = [.ref b] → ys.length < 1000000 := by
  refine ⟨⟨a, xs, ds, rfl, .inl ha, hx, ok, q⟩, fun b ys h e => ?_⟩
  injection e with e _
  injection e with e
  subst e
  rw [ha] at h
  rcases h with h | h
  · cases h
    exact hz
  · cases h
theorem ok_states {f fS : Addr} {fd fdS : FuncData} (F : Fun K "are_states" "are_states" sAreStates f fd) (Y : Pre P w K mg base) (St : DefOk K mg "is_state" sIsState ["value"] fS fdS) (GS : FnOk P w K mg base CX0 3 fS fdS ["value"] (spP (btw 0 7))) : FnOk P w K mg base CX0 4 f fd ["value"] (spP statesB) := by
  obtain ⟨t, z⟩ := Y.z.last
  refine F.ok scStates (fun vs H Q E h => ?_) (fun cdv A outer s H vs Q E hr h => ?_)
  · obtain ⟨v, d, rfl, _⟩ := h
    rfl
  · obtain ⟨v, d, rfl, hd, q⟩ := h
    have hr1 : Room 1 _ := hr.mono (by decide)
    refine ⟨_, pss_cons (ps_if (pt_not (pt_val (pe_call Y.GT hr1 rfl Y.T.g Y.T.F.kp Y.T.b .nil pass0 (pa_cons (pv 0) (pa_cons pe_int (pa_cons (pe_op op_add (pe_glob (v := .int 7) rfl z ⟨_, rfl⟩) pe_int) pa_nil)))))) (pss_one (ps_ret pe_bl)) pss_nil)
      (pss_one (ps_ret (pe_and (pe_callB (cr_all rfl) (by rfl) Y.nm.all boot_all (pa_cons (pe_lc (own := [("state", 1)]) (g := gName 1) (tt := tYes) rfl scStates.nd (pi_tup (pv 0)) (blkOk_by (N := ["value", "state"]) (sc := defScope sAreStates) (by decide +kernel))
            (fun _ _ _ _ _ => pg_name (i := 1) scStates.nd rfl (Or.inl rfl)) (fun _ _ _ _ _ => pts_nil) (fun _ _ _ _ _ => pe_call GS hr rfl St.g St.F.kp St.b .nil pass0 (pa_cons (pv 1) pa_nil))) pa_nil))
          (pe_one (pe_call Y.GA hr1 rfl Y.A.g Y.A.F.kp Y.A.b .nil pass0 (pa_cons (pv 0) pa_nil)))))), ?_⟩
    refine ⟨_, rfl, _, _, rfl, rfl, v, d, 0, 8, rfl, hd, fun H1 S1 => ⟨_, rfl, ?_⟩⟩
    have q1 := q H1 S1
    unfold statesB at q q1
    cases h : tupOf 0 8 d with
    | false =>
      rw [h] at q1
      exact if_t rfl q1
    | true =>
      rw [h] at q
      obtain ⟨ds, rfl, _, h8⟩ := tupOf_len h
      cases hd with
      | @tup a xs _ ha hx =>
        have hx1 := hx.same S1
        have hl := hx.len
        refine if_f rfl ⟨_, rfl, a, rfl, ⟨_, SqT.of (S1 _ _ ha)⟩, fun D nD => lc_all (K := K) (a := a) (xs := xs) (ds := ds) (btw 0 7) (S1 _ _ ha) hx1 (by omega) nD (fun i x d Hx hi hdi td S R hR => ⟨rfl, _, rfl, x, d, rfl, td, hR⟩) mono_name fun Hx S hD => ?_⟩
        refine ⟨D, ds.map (btw 0 7), rfl, SqL.of hD, _, rfl, ?_⟩
        have eAll : (ds.map (btw 0 7)).all id = ds.all (btw 0 7) := by
          rw [List.all_map]
          rfl
        rw [eAll]
        have S2 := S1.trans S
        cases h2 : ds.all (btw 0 7) with
        | false =>
          have q2 : Q (.bl (true && (ds.all (btw 0 7) && ascB ds))) Hx := q Hx S2
          rw [h2] at q2
          exact if_f rfl q2
        | true =>
          refine if_t rfl ⟨_, rfl, asc_tup (S2 _ _ ha) (hx.same S2) (by omega) (asc_ints (all_btw h2)) fun H3 S3 => ?_⟩
          have q3 : Q (.bl (true && (ds.all (btw 0 7) && ascB ds))) H3 := q H3 (S2.trans S3)
          rw [h2] at q3
          exact q3
theorem ok_perm {f : Addr} {fd : FuncData} (F : Fun K "is_permutation" "is_permutation" sPerm f fd) (Y : Pre P w K mg base) : FnOk P w K mg base CX0 3 f fd ["space"] (spT 3 pPerm) := by
  obtain ⟨t, z⟩ := Y.z.steps
  refine F.ok scPerm (fun vs H Q E h => ?_) (fun cdv A outer s H vs Q E hr h => ?_)
  · obtain ⟨a, xs, ds, rfl, _⟩ := h
    rfl
  · obtain ⟨a, xs, ds, rfl, ha, hx, hl, q⟩ := h
    have hr1 : Room 1 _ := hr.mono (by decide)
    match ds, hl, hx with
    | [d0, d1, d2], _, .cons (v := x0) c0 (.cons (v := x1) c1 (.cons (v := x2) c2 .nil)) =>
      refine ⟨_, pss_cons (ps_asg (pe_slice sl_tupA (pv 0) (po_some pe_int) po_none) (pg_tup rfl (pgs_cons (pg_name (i := 1) scPerm.nd rfl (Or.inr rfl)) (pgs_cons (pg_name (i := 2) scPerm.nd rfl (Or.inl rfl)) pgs_nil))))
        (pss_cons (ps_if (PW.pt (pw_or (pt_not (pt_val (pe_call Y.GB hr rfl Y.B.g Y.B.F.kp Y.B.b .nil pass0 (pa_cons (pv 1) (pa_cons pe_int (pa_cons (pe_glob (v := .int 60) rfl z ⟨_, rfl⟩) pa_nil))))))
            (pw_or1 (pt_not (pt_val (pe_call Y.GT hr1 rfl Y.T.g Y.T.F.kp Y.T.b .nil pass0 (pa_cons (pv 2) (pa_cons pe_int (pa_cons (pv 1) pa_nil))))))))) (pss_one (ps_ret pe_bl)) pss_nil)
        (pss_one (ps_ret (pe_and (pe_callB (cr_all rfl) (by rfl) Y.nm.all boot_all (pa_cons (pe_lc (own := [("place", 3)]) (g := gName 3) (tt := tYes) rfl scPerm.nd (pi_tup (pv 2)) (blkOk_by (N := ["space", "n", "moved", "place"]) (sc := defScope sPerm) (by decide +kernel))
            (fun _ _ _ _ _ => pg_name (i := 3) scPerm.nd rfl (Or.inl rfl)) (fun _ _ _ _ _ => pts_nil) (fun _ _ _ _ _ => pe_call Y.GB hr rfl Y.B.g Y.B.F.kp Y.B.b .nil pass0 (pa_cons (pv 3) (pa_cons pe_int (pa_cons (pe_op op_sub (pv 1) pe_int) pa_nil))))) pa_nil))
          (pe_one (pe_call Y.GA hr1 rfl Y.A.g Y.A.F.kp Y.A.b .nil pass0 (pa_cons (pv 2) pa_nil))))))), ?_⟩
      refine ⟨_, rfl, 1, rfl, ?_⟩
      dsimp only [tNoPart]
      refine slK_of 1 ha fun b Hb Sb hb => ?_
      refine ⟨b, [x1, x2], rfl, SqT.of hb, rfl, _, _, rfl, _, _, rfl, rfl, ?_⟩
      have e : pPerm [d0, d1, d2] = (btw 0 60 d1 && tupOf 0 (intOf d1) d2 && ((tupItems d2).all (btw 0 (intOf d1 - 1)) && ascB (tupItems d2))) := rfl
      rw [e] at q
      refine ⟨_, rfl, x1, d1, 0, 60, rfl, c1.same Sb, fun H1 S1 => ⟨_, rfl, ?_⟩⟩
      have T1 := Sb.trans S1
      cases h1 : btw 0 60 d1 with
      | false =>
        have q1 := q H1 T1
        rw [h1] at q1
        exact if_t rfl (if_t rfl q1)
      | true =>
        rw [h1] at q
        obtain ⟨n, rfl, n0, n60⟩ := btw_int h1
        obtain rfl := dat_int c1
        refine if_f rfl ⟨_, rfl, _, rfl, x2, d2, 0, n, rfl, c2.same T1, fun H2 S2 => ⟨_, rfl, ?_⟩⟩
        have T2 := T1.trans S2
        have q2 : ∀ H', Same H H' → Q (.bl (true && tupOf 0 n d2 && ((tupItems d2).all (btw 0 (n - 1)) && ascB (tupItems d2)))) H' := q
        cases h2 : tupOf 0 n d2 with
        | false =>
          have q3 := q2 H2 T2
          rw [h2] at q3
          exact if_t rfl q3
        | true =>
          rw [h2] at q2
          obtain ⟨ds, rfl, _, hn⟩ := tupOf_len h2
          cases c2 with
          | @tup a2 ys _ ha2 hx2 =>
            have hy2 := hx2.same T2
            have hl2 := hx2.len
            refine if_f rfl ⟨_, rfl, a2, rfl, ⟨_, SqT.of (T2 _ _ ha2)⟩, fun D nD => lc_all (K := K) (a := a2) (xs := ys) (ds := ds) (btw 0 (n - 1)) (T2 _ _ ha2) hy2 (by omega) nD (fun i x d Hx hi hdi td S R hR => ⟨rfl, _, rfl, _, rfl, _, _, rfl, rfl, x, d, 0, n - 1, rfl, td, hR⟩) mono_name fun Hx S hD => ?_⟩
            refine ⟨D, ds.map (btw 0 (n - 1)), rfl, SqL.of hD, _, rfl, ?_⟩
            have eAll : (ds.map (btw 0 (n - 1))).all id = ds.all (btw 0 (n - 1)) := by
              rw [List.all_map]
              rfl
            rw [eAll]
            have T3 := T2.trans S
            have q4 : ∀ H', Same H H' → Q (.bl (true && (ds.all (btw 0 (n - 1)) && ascB ds))) H' := q2
            cases h3 : ds.all (btw 0 (n - 1)) with
            | false =>
              rw [h3] at q4
              exact if_f rfl (q4 Hx T3)
            | true =>
              rw [h3] at q4
              exact if_t rfl ⟨_, rfl, asc_tup (T3 _ _ ha2) (hx2.same T3) (by omega) (asc_ints (all_btw h3)) fun H4 S4 => q4 H4 (T3.trans S4)⟩
theorem ok_count {f : Addr} {fd : FuncData} (F : Fun K "is_count" "is_count" sIsCount f fd) (Y : Pre P w K mg base) : FnOk P w K mg base CX0 3 f fd ["pair"] (spP countB) := by
  obtain ⟨t, z⟩ := Y.z.places
  refine F.ok scCount (fun vs H Q E h => ?_) (fun cdv A outer s H vs Q E hr h => ?_)
  · obtain ⟨v, d, rfl, _⟩ := h
    rfl
  · obtain ⟨v, d, rfl, hd, q⟩ := h
    have hr1 : Room 1 _ := hr.mono (by decide)
    refine ⟨_, pss_one (ps_ret (pe_and (pe_call Y.GT hr1 rfl Y.T.g Y.T.F.kp Y.T.b .nil pass0 (pa_cons (pv 0) (pa_cons pe_int (pa_cons pe_int pa_nil)))) (pe_and (pe_call Y.GN hr1 rfl Y.N.g Y.N.F.kp Y.N.b .nil pass0 (pa_cons (pe_ix ix_tup (pv 0) pe_int (fun _ _ => rfl)) pa_nil))
      (pe_one (pe_call Y.GB hr rfl Y.B.g Y.B.F.kp Y.B.b .nil pass0 (pa_cons (pe_ix ix_tup (pv 0) pe_int (fun _ _ => rfl)) (pa_cons pe_int (pa_cons (pe_glob (v := .int 400) rfl z ⟨_, rfl⟩) pa_nil)))))))), ?_⟩
    refine ⟨_, rfl, v, d, 2, 2, rfl, hd, fun H1 S1 => ⟨_, rfl, ?_⟩⟩
    unfold countB at q
    cases h : tupOf 2 2 d with
    | false =>
      rw [h] at q
      exact if_f rfl (q H1 S1)
    | true =>
      rw [h] at q
      obtain ⟨ds, rfl, l1, l2⟩ := tupOf_len h
      have hl : ds.length = 2 := by omega
      cases hd with
      | @tup a xs _ ha hx =>
       match ds, hl, hx with
       | [d0, d1], _, .cons (v := x0) c0 (.cons (v := x1) c1 .nil) =>
        refine if_t rfl ⟨_, rfl, a, _, _, _, rfl, rfl, SqT.of (S1 _ _ ha), atI_nat (j := 0) rfl, x0, d0, rfl, c0.same S1, fun H2 S2 => ⟨_, rfl, ?_⟩⟩
        have T2 := S1.trans S2
        have q2 : ∀ H', Same H H' → Q (.bl (true && (nameB d0 && btw 1 400 d1))) H' := q
        cases h2 : nameB d0 with
        | false =>
          rw [h2] at q2
          exact if_f rfl (q2 H2 T2)
        | true =>
          rw [h2] at q2
          exact if_t rfl ⟨_, rfl, a, _, _, _, rfl, rfl, SqT.of (T2 _ _ ha), atI_nat (j := 1) rfl, x1, d1, 1, 400, rfl, c1.same T2, fun H3 S3 => q2 H3 (T2.trans S3)⟩
theorem ok_move {f fS : Addr} {fd fdS : FuncData} (F : Fun K "is_move" "is_move" sIsMove f fd) (Y : Pre P w K mg base) (St : DefOk K mg "is_state" sIsState ["value"] fS fdS) (GS : FnOk P w K mg base CX0 3 fS fdS ["value"] (spP (btw 0 7))) : FnOk P w K mg base CX0 4 f fd ["move"] (spP moveB) := by
  refine F.ok scMove (fun vs H Q E h => ?_) (fun cdv A outer s H vs Q E hr h => ?_)
  · obtain ⟨v, d, rfl, _⟩ := h
    rfl
  · obtain ⟨v, d, rfl, hd, q⟩ := h
    have hr1 : Room 1 _ := hr.mono (by decide)
    refine ⟨_, pss_cons (ps_if (pt_not (pt_val (pe_call Y.GT hr1 rfl Y.T.g Y.T.F.kp Y.T.b .nil pass0 (pa_cons (pv 0) (pa_cons pe_int (pa_cons pe_int pa_nil)))))) (pss_one (ps_ret pe_bl)) pss_nil)
      (pss_cons (ps_asg (pv 0) (pg_tup rfl (pgs_cons (pg_name (i := 1) scMove.nd rfl (Or.inl rfl)) (pgs_cons (pg_name (i := 2) scMove.nd rfl (Or.inl rfl)) (pgs_cons (pg_name (i := 3) scMove.nd rfl (Or.inl rfl)) pgs_nil)))))
      (pss_one (ps_ret (pe_and (pe_call GS hr rfl St.g St.F.kp St.b .nil pass0 (pa_cons (pv 1) pa_nil)) (pe_and (pe_call Y.GN hr1 rfl Y.N.g Y.N.F.kp Y.N.b .nil pass0 (pa_cons (pv 2) pa_nil)) (pe_one (pe_call GS hr rfl St.g St.F.kp St.b .nil pass0 (pa_cons (pv 3) pa_nil)))))))), ?_⟩
    refine ⟨_, rfl, v, d, 3, 3, rfl, hd, fun H1 S1 => ⟨_, rfl, ?_⟩⟩
    unfold moveB at q
    cases h : tupOf 3 3 d with
    | false =>
      rw [h] at q
      exact if_t rfl (q H1 S1)
    | true =>
      rw [h] at q
      obtain ⟨ds, rfl, l1, l2⟩ := tupOf_len h
      have hl : ds.length = 3 := by omega
      cases hd with
      | @tup a xs _ ha hx =>
       match ds, hl, hx with
       | [d0, d1, d2], _, .cons (v := x0) c0 (.cons (v := x1) c1 (.cons (v := x2) c2 .nil)) =>
        refine if_f rfl ⟨_, rfl, a, _, rfl, SqT.of (S1 _ _ ha), rfl, _, _, rfl, _, _, rfl, _, _, rfl, rfl, ?_⟩
        refine ⟨_, rfl, x0, d0, rfl, c0.same S1, fun H2 S2 => ⟨_, rfl, ?_⟩⟩
        have T2 := S1.trans S2
        have q2 : ∀ H', Same H H' → Q (.bl (true && (btw 0 7 d0 && (nameB d1 && btw 0 7 d2)))) H' := q
        cases h2 : btw 0 7 d0 with
        | false =>
          rw [h2] at q2
          exact if_f rfl (q2 H2 T2)
        | true =>
          rw [h2] at q2
          refine if_t rfl ⟨_, rfl, x1, d1, rfl, c1.same T2, fun H3 S3 => ⟨_, rfl, ?_⟩⟩
          have T3 := T2.trans S3
          cases h3 : nameB d1 with
          | false =>
            rw [h3] at q2
            exact if_f rfl (q2 H3 T3)
          | true =>
            rw [h3] at q2
            exact if_t rfl ⟨_, rfl, x2, d2, rfl, c2.same T3, fun H4 S4 => q2 H4 (T3.trans S4)⟩
end
end K3
set_option maxRecDepth 100000
set_option maxHeartbeats 4000000
namespace K3
open PySem PySem.Spec PyProof.Rows
open PySem.AutoSeq1 (wpAny_loadPart')
/-! ### a dict beside a text -/
theorem sub_str_dict : isSubtype (.type "str") (.type "dict") = pure false := by
  rw [isSubtype_type]
  kernel_rfl
theorem sub_dict_str : isSubtype (.type "dict") (.type "str") = pure false := by
  rw [isSubtype_type]
  kernel_rfl
theorem dict_no_str (l : Addr) (dd : Option Addr) (es : Array DictEntry) (ep : Nat) (sl : Array (Option Value)) (b : Str) (u : Tok) :
    Meets (Builtin.«dict.__eq__» ⟨[.ref l, .str b u], []⟩) (fun _ R s => s.heap.get? l = some { cls := .type "dict", dict := dd, data := .dict es ep, slots := sl } ∧ R (.ok (.ret .notImplemented)) s) :=
  .of_wp fun prog w A R s h => by
    obtain ⟨hp, g, d, tk, os⟩ := s
    obtain ⟨hl, h⟩ := h
    have f1 := sub_str_dict
    wp_walk using wpAny_loadPart' hl
    exact ⟨_, rfl, h⟩
theorem str_no_dict (l : Addr) (dd : Option Addr) (es : Array DictEntry) (ep : Nat) (sl : Array (Option Value)) (b : Str) (u : Tok) :
    Meets (Builtin.«str.__eq__» ⟨[.str b u, .ref l], []⟩) (fun _ R s => s.heap.get? l = some { cls := .type "dict", dict := dd, data := .dict es ep, slots := sl } ∧ R (.ok (.ret .notImplemented)) s) :=
  .of_wp fun prog w A R s h => by
    obtain ⟨hp, g, d, tk, os⟩ := s
    obtain ⟨hl, h⟩ := h
    wp_walk using wpAny_loadPart' hl, wpAny_load hl
    exact ⟨_, rfl, h⟩
end K3
namespace PySem.SeqAt
open PySem PyProof.Rows
theorem k2_dict_str {A : Around} {s : Shared} {l : Addr} {dd : Option Addr} {es : Array DictEntry} {ep : Nat} {sl : Array (Option Value)} (b : Str) (u : Tok) (hl : s.heap.get? l = some { cls := .type "dict", dict := dd, data := .dict es ep, slots := sl }) (hu : A.units < cLine) :
    RcAt A s (.ref l) (.str b u) false := fun prog w E Q h =>
  rc_eq_decline_or (k := false) ⟨_, hl, rfl⟩ (typeIs_str s b u) (by decide) K3.sub_str_dict PySem.F.slot_dict_eq F.slot_str_eq_refl
    (fun _ hq => call_meets PySem.F.slot_dict_eq ⟨_, hl, rfl⟩ PySem.F.entry_dict_eq (PySem.F.args_dict_eq_2 _ _) (K3.dict_no_str l dd es ep sl b u) ⟨hl, hq⟩)
    (fun _ hq => call_meets F.slot_str_eq_refl (typeIs_str s b u) F.entry_str_eq (F.args_str_eq_2 _ _) (K3.str_no_dict l dd es ep sl b u) ⟨hl, hq⟩)
    (fun _ hq => wpAny_of_eq (rfl : isSame (.ref l) (.str b u) = pure false) hq) (.inr hu) h
end PySem.SeqAt
namespace K3
open PySem PySem.Spec PyProof.Rows L2
/-- any value beside a text -/
def eqStr (z : Str) : PyData → Bool
  | .str x => x == z
  | _ => false
def rEqStr : R2 := fun x y H Q => ∃ d z, Dat H x d ∧ y = .str z ∧ Q (.bl (eqStr z d)) H
section
variable {X : Cx}
theorem op_eqStr (hu : X.A.units < cLine) : OpR X (compareOp .Eq) rEqStr := by
  intro pins s σ H x y v u Q I rx ry h
  obtain ⟨d, z, hd, rfl, q⟩ := h
  obtain ⟨t, rfl⟩ := ry
  have fin : ∀ k : Bool, k = eqStr z d → EP X pins σ Q (.bool k) s := fun k e => ⟨.bl k, H, I, rfl, by rw [e]; exact q⟩
  cases hd with
  | non =>
    cases rx
    exact PySem.SeqAt.RcAt.none_str z t _ _ _ _ (fin _ rfl)
  | bl b =>
    cases rx
    exact PySem.SeqAt.RcAt.bool_str b z t _ _ _ _ (fin _ rfl)
  | int i =>
    obtain ⟨t2, rfl⟩ := rx
    exact PySem.SeqAt.RcAt.int_str i t2 z t _ _ _ _ (fin _ rfl)
  | str x hx =>
    obtain ⟨t2, rfl⟩ := rx
    exact PySem.SeqAt.RcAt.str_str x t2 z t _ _ _ _ (fin _ rfl)
  | @lst a xs ds ha hx =>
    cases rx
    obtain ⟨its, rv, p, _⟩ := I.list (SqL.of ha)
    exact PySem.SeqAt.RcAt.list_str z t p.isList hu _ _ _ _ (fin _ rfl)
  | @tup a xs ds ha hx =>
    cases rx
    obtain ⟨its, rv, p, _⟩ := I.tuple (SqT.of ha)
    exact PySem.SeqAt.RcAt.tuple_str z t p hu _ _ _ _ (fin _ rfl)
  | @d0 a ha =>
    cases rx
    obtain ⟨_, ns, vs, kv, o, es, ep, ho, hx, hd, hk, hp, _⟩ := (show ObjOk X.prog X.w H s.heap a (.dK []) from I.hok a _ ha)
    obtain ⟨oc, od, dt, sl⟩ := o
    have e1 : oc = .type "dict" := hx.1
    have e2 : dt = .dict es ep := hd
    subst e1 e2
    exact PySem.SeqAt.k2_dict_str z t ho hu _ _ _ _ (fin _ rfl)
end
end K3
set_option maxRecDepth 100000
set_option maxHeartbeats 4000000
namespace PySem.SeqAt
open PySem PyProof.Rows
theorem k2_str_dict {A : Around} {s : Shared} {l : Addr} {dd : Option Addr} {es : Array DictEntry} {ep : Nat} {sl : Array (Option Value)} (b : Str) (u : Tok) (hl : s.heap.get? l = some { cls := .type "dict", dict := dd, data := .dict es ep, slots := sl }) (hu : A.units < cLine) :
    EqAt A s (.str b u) (.ref l) false := fun prog w E Q h => by
  unfold eqBool
  refine wpAny_holding (wpAny_ite_split (fun hab => absurd (eq_of_beq hab) nofun) fun _ => wpAny_bind ?_)
  exact rc_eq_decline_or (k := false) (typeIs_str s b u) ⟨_, hl, rfl⟩ (by decide) K3.sub_dict_str F.slot_str_eq PySem.F.slot_dict_eq_refl
    (fun _ hq => call_meets F.slot_str_eq (typeIs_str s b u) F.entry_str_eq (F.args_str_eq_2 _ _) (K3.str_no_dict l dd es ep sl b u) ⟨hl, hq⟩)
    (fun _ hq => call_meets PySem.F.slot_dict_eq_refl ⟨_, hl, rfl⟩ PySem.F.entry_dict_eq (PySem.F.args_dict_eq_2 _ _) (K3.dict_no_str l dd es ep sl b u) ⟨hl, hq⟩)
    (fun _ hq => wpAny_of_eq (rfl : isSame (.str b u) (.ref l) = pure false) hq) (.inr hu) (wpAny_truthy_bool h)
end PySem.SeqAt
namespace K3
open PySem PySem.Spec PyProof.Rows L2
section
variable {X : Cx}
/-- a text among the items, held against any value -/
theorem str_eqAt {pins : List (Addr × Obj)} {σ : L2.St} {H : Hp} {s : Shared} {x : V} {v : Value} {d : PyData} (I : Inv X pins σ H s) (hd : Dat H x d) (rx : RelV x v) {A : Around} (hu : A.units < cLine) (z : Str) (t : Tok) : SeqAt.EqAt A s (.str z t) v (eqStr z d) := by
  cases hd with
  | non =>
    cases rx
    exact SeqAt.EqAt.str_none z t
  | bl b =>
    cases rx
    exact SeqAt.EqAt.str_bool z t b
  | int i =>
    obtain ⟨t2, rfl⟩ := rx
    exact SeqAt.EqAt.str_int z t i t2
  | str y hy =>
    obtain ⟨t2, rfl⟩ := rx
    have e : eqStr z (.str y) = (z == y) := by
      show (y == z) = (z == y)
      by_cases h : y = z
      · rw [h]
      · rw [beq_eq_false_iff_ne.mpr h, beq_eq_false_iff_ne.mpr (Ne.symm h)]
    rw [e]
    exact SeqAt.EqAt.str_str z t y t2
  | @lst a xs ds ha hx =>
    cases rx
    obtain ⟨its, rv, p, _⟩ := I.list (SqL.of ha)
    exact SeqAt.EqAt.str_list z t p.isList hu
  | @tup a xs ds ha hx =>
    cases rx
    obtain ⟨its, rv, p, _⟩ := I.tuple (SqT.of ha)
    exact SeqAt.EqAt.str_tuple z t p hu
  | @d0 a ha =>
    cases rx
    obtain ⟨_, ns, vs, kv, o, es, ep, ho, hx, hd, hk, hp, _⟩ := (show ObjOk X.prog X.w H s.heap a (.dK []) from I.hok a _ ha)
    obtain ⟨oc, od, dt, sl⟩ := o
    have e1 : oc = .type "dict" := hx.1
    have e2 : dt = .dict es ep := hd
    subst e1 e2
    exact SeqAt.k2_str_dict z t ho hu
/-- x in (texts), x not in (texts) -/
def rInStrs (neg : Bool) : R2 := fun x y H Q => ∃ (d : PyData) (p : Addr) (zs : List Str), Dat H x d ∧ y = .ref p ∧ H p = some (.tup (zs.map V.str)) ∧ Q (.bl (if neg then !zs.any fun z => eqStr z d else zs.any fun z => eqStr z d)) H
def eStr (d : PyData) : Value → Bool
  | .str z _ => eqStr z d
  | _ => false
theorem any_strs {d : PyData} : ∀ {zs : List Str} {its : List Value}, Vals (zs.map V.str) its → its.any (eStr d) = zs.any fun z => eqStr z d
  | [], _, .nil => rfl
  | z :: zs, _, .cons r rs => by
    obtain ⟨t, rfl⟩ := r
    rw [List.any_cons, List.any_cons, any_strs rs]
    rfl
theorem mem_strs {zs : List Str} {its : List Value} (r : Vals (zs.map V.str) its) : ∀ y ∈ its, ∃ z t, y = .str z t := by
  intro y hy
  obtain ⟨i, hi⟩ := List.mem_iff_getElem?.mp hy
  have hl := r.length
  have hlt := (List.getElem?_eq_some_iff.mp hi).1
  obtain ⟨x, hx⟩ : ∃ x, (zs.map V.str)[i]? = some x := ⟨_, List.getElem?_eq_getElem (by omega)⟩
  obtain ⟨u, hu, ru⟩ := r.get hx
  rw [hi] at hu
  cases hu
  rw [List.getElem?_map] at hx
  cases e : zs[i]? with
  | none =>
    rw [e] at hx
    cases hx
  | some z =>
    rw [e] at hx
    cases hx
    obtain ⟨t, rfl⟩ := ru
    exact ⟨z, t, rfl⟩
theorem op_notInStrs (hu : X.A.units + 1 < cLine) : OpR X (compareOp .NotIn) (rInStrs true) := by
  intro pins s σ H x y v u Q I rx ry h
  obtain ⟨d, p, zs, hd, rfl, hp, q⟩ := h
  cases ry
  obtain ⟨its, r, pl, _⟩ := I.tuple (SqT.of hp)
  refine SeqAt.notIn_tupleAt (eStr d) pl (fun w hw => ?_) ⟨.bl _, H, I, rfl, ?_⟩
  · obtain ⟨z, t, rfl⟩ := mem_strs r w (by simpa using hw)
    exact str_eqAt I hd rx hu z t
  · rw [show its.toArray.any (eStr d) = its.any (eStr d) by simp, any_strs r]
    exact q
theorem op_inStrs (hu : X.A.units + 1 < cLine) : OpR X (compareOp .In) (rInStrs false) := by
  intro pins s σ H x y v u Q I rx ry h
  obtain ⟨d, p, zs, hd, rfl, hp, q⟩ := h
  cases ry
  obtain ⟨its, r, pl, _⟩ := I.tuple (SqT.of hp)
  refine SeqAt.in_tupleAt (eStr d) pl (fun w hw => ?_) ⟨.bl _, H, I, rfl, ?_⟩
  · obtain ⟨z, t, rfl⟩ := mem_strs r w (by simpa using hw)
    exact str_eqAt I hd rx hu z t
  · rw [show its.toArray.any (eStr d) = its.any (eStr d) by simp, any_strs r]
    exact q
end
end K3
set_option maxRecDepth 100000
set_option maxHeartbeats 4000000
namespace K3
open PySem PySem.Spec PyProof.Rows L2
/-! ### orders -/
def orderB : Nat → PyData → Bool
  | 0, _ => false
  | n + 1, d => tupOf 2 2 d && (if eqStr "item" (at0 (tupItems d) 0) = true then nameB (at0 (tupItems d) 1)
      else ((eqStr "series" (at0 (tupItems d) 0) || eqStr "parallel" (at0 (tupItems d) 0)) && (tupOf 2 6 (at0 (tupItems d) 1) && (tupItems (at0 (tupItems d) 1)).all (orderB n))))
def spOrd (n : Nat) : Sp := fun vs H Q _ => ∃ (v : V) (d : PyData), vs = [v, .int n] ∧ Dat H v d ∧ ∀ H', Same H H' → Q (.bl (orderB n d)) H'
abbrev sOrd : Stmt := top 35
section
variable {P : Program} {w : World} {K : PySem.W.Frag} {mg : Str → Option Value} {base : Heap}
theorem scOrd : FnScope ["value", "depth", "word", "rest", "inner"] ["value", "depth"] (defScope sOrd) := ⟨rfl, rfl, rfl, by decide +kernel, rfl, by decide +kernel, by decide +kernel⟩
theorem fn_none {k : Nat} {f : Addr} {fd : FuncData} {ps : List Str} : FnOk P w K mg base CX0 k f fd ps (fun _ _ _ _ => False) := ⟨fun _ _ _ _ h => h.elim, fun _ _ _ _ _ _ _ _ _ _ _ _ _ h => h.elim⟩
/-- the body, with what is known of the def itself one level down -/
theorem ord_body {f : Addr} {fd : FuncData} {k : Nat} {sp : Sp} (F : Fun K "has_order_form" "has_order_form" sOrd f fd) (Y : Pre P w K mg base) (b : L2.Binds K fd ["value", "depth"] []) (g : mg "has_order_form" = some (.ref f))
    (G : FnOk P w K mg base CX0 (1 + k) f fd ["value", "depth"] sp) (n : Nat)
    (hn : ∀ m, n = m + 1 → ∀ (x : V) (d : PyData) (H : Hp) (R : VK), Dat H x d → (∀ H', Same H H' → R (.bl (orderB m d)) H') → sp [x, .int (((m + 1 : Nat) : Int) - 1)] H R E0) : FnOk P w K mg base CX0 (2 + k) f fd ["value", "depth"] (spOrd n) := by
  obtain ⟨t, z⟩ := Y.z.nested
  rw [show 2 + k = (1 + k) + 1 by omega]
  refine F.ok scOrd (fun vs H Q E h => ?_) (fun cdv A outer s H vs Q E hr h => ?_)
  · obtain ⟨v, d, rfl, _⟩ := h
    rfl
  · obtain ⟨v, d, rfl, hd, q⟩ := h
    have hu := hr.units
    have hu0 := hr.units0
    have hu1 := hu_of hr
    have hr1 : Room 1 _ := hr.mono (by omega)
    refine ⟨_, pss_cons (ps_if (PW.pt (pw_or (pt_cmpR op_eq (pv 1) pe_int (nomark _)) (pw_or1 (pt_not (pt_val (pe_call Y.GT hr1 rfl Y.T.g Y.T.F.kp Y.T.b .nil pass0 (pa_cons (pv 0) (pa_cons pe_int (pa_cons pe_int pa_nil))))))))) (pss_one (ps_ret pe_bl)) pss_nil)
      (pss_cons (ps_asg (pv 0) (pg_tup rfl (pgs_cons (pg_name (i := 2) scOrd.nd rfl (Or.inl rfl)) (pgs_cons (pg_name (i := 3) scOrd.nd rfl (Or.inl rfl)) pgs_nil))))
      (pss_cons (ps_if (pt_cmpR (op_eqStr hu0) (pv 2) pe_str (nomark _)) (pss_one (ps_ret (pe_call Y.GN hr1 rfl Y.N.g Y.N.F.kp Y.N.b .nil pass0 (pa_cons (pv 3) pa_nil)))) pss_nil)
      (pss_cons (ps_if (PW.pt (pw_or (pt_cmpR (op_notInStrs hu1) (pv 2) (pe_tup (pa_cons pe_str (pa_cons pe_str pa_nil))) rfl) (pw_or1 (pt_not (pt_val (pe_call Y.GT hr1 rfl Y.T.g Y.T.F.kp Y.T.b .nil pass0 (pa_cons (pv 3) (pa_cons pe_int (pa_cons (pe_glob (v := .int 6) rfl z ⟨_, rfl⟩) pa_nil))))))))) (pss_one (ps_ret pe_bl)) pss_nil)
      (pss_one (ps_ret (pe_callB (cr_all rfl) (by rfl) Y.nm.all boot_all (pa_cons (pe_lc (own := [("inner", 4)]) (g := gName 4) (tt := tYes) rfl scOrd.nd (pi_tup (pv 3)) (blkOk_by (N := ["value", "depth", "word", "rest", "inner"]) (sc := defScope sOrd) (by decide +kernel))
            (fun _ _ _ _ _ => pg_name (i := 4) scOrd.nd rfl (Or.inl rfl)) (fun _ _ _ _ _ => pts_nil) (fun _ _ _ _ _ => pe_call G hr rfl g F.kp b .nil pass0 (pa_cons (pv 4) (pa_cons (pe_op op_sub (pv 1) pe_int) pa_nil)))) pa_nil))))))), ?_⟩
    cases n with
    | zero =>
      refine ⟨_, rfl, rfl, _, rfl, ?_⟩
      refine if_t (by decide) (if_t rfl ?_)
      exact q H fun _ _ e => e
    | succ m =>
      have e0 : decide (V.int ((m + 1 : Nat) : Int) = V.int 0) = false := decide_eq_false fun e => by
        injection e with e
        omega
      refine ⟨_, rfl, rfl, _, rfl, if_f e0 ⟨_, rfl, v, d, 2, 2, rfl, hd, fun H1 S1 => ⟨_, rfl, ?_⟩⟩⟩
      have eO : orderB (m + 1) d = (tupOf 2 2 d && (if eqStr "item" (at0 (tupItems d) 0) = true then nameB (at0 (tupItems d) 1)
          else ((eqStr "series" (at0 (tupItems d) 0) || eqStr "parallel" (at0 (tupItems d) 0)) && (tupOf 2 6 (at0 (tupItems d) 1) && (tupItems (at0 (tupItems d) 1)).all (orderB m))))) := by rw [orderB]
      rw [eO] at q
      cases h : tupOf 2 2 d with
      | false =>
        rw [h] at q
        exact if_t rfl (q H1 S1)
      | true =>
        rw [h] at q
        obtain ⟨ds, rfl, l1, l2⟩ := tupOf_len h
        have hl : ds.length = 2 := by omega
        cases hd with
        | @tup a xs _ ha hx =>
         match ds, hl, hx with
         | [d0, d1], _, .cons (v := x0) c0 (.cons (v := x1) c1 .nil) =>
          refine if_f rfl ⟨_, rfl, a, _, rfl, SqT.of (S1 _ _ ha), rfl, _, _, rfl, _, _, rfl, rfl, ?_⟩
          have q1 : ∀ H', Same H H' → Q (.bl (true && (if eqStr "item" d0 = true then nameB d1 else ((eqStr "series" d0 || eqStr "parallel" d0) && (tupOf 2 6 d1 && (tupItems d1).all (orderB m)))))) H' := q
          refine ⟨_, rfl, d0, "item", c0.same S1, rfl, _, rfl, ?_⟩
          cases h0 : eqStr "item" d0 with
          | true =>
            rw [h0] at q1
            exact if_t rfl ⟨_, rfl, x1, d1, rfl, c1.same S1, fun H2 S2 => q1 H2 (S1.trans S2)⟩
          | false =>
            rw [h0] at q1
            refine if_f rfl ⟨_, rfl, (by show 2 ≤ sizeLine; decide), fun p np => ?_⟩
            have Sp := same_new (o := HO.tup [.str "series", .str "parallel"]) np
            have hp : upd H1 p (.tup [.str "series", .str "parallel"]) p = some (.tup [.str "series", .str "parallel"]) := upd_same
            generalize upd H1 p (.tup [.str "series", .str "parallel"]) = H2 at Sp hp ⊢
            have T2 := S1.trans Sp
            have eAny : (["series", "parallel"] : List Str).any (fun z => eqStr z d0) = (eqStr "series" d0 || eqStr "parallel" d0) := by
              rw [List.any_cons, List.any_cons, List.any_nil, Bool.or_false]
            refine ⟨d0, p, ["series", "parallel"], c0.same T2, rfl, hp, _, rfl, ?_⟩
            rw [eAny]
            cases h1 : (eqStr "series" d0 || eqStr "parallel" d0) with
            | false =>
              rw [h1] at q1
              exact if_t rfl (if_t rfl (q1 H2 T2))
            | true =>
              rw [h1] at q1
              refine if_f rfl ⟨_, rfl, x1, d1, 2, 6, rfl, c1.same T2, fun H3 S3 => ⟨_, rfl, ?_⟩⟩
              have T3 := T2.trans S3
              have q2 : ∀ H', Same H H' → Q (.bl (tupOf 2 6 d1 && (tupItems d1).all (orderB m))) H' := q1
              cases h2 : tupOf 2 6 d1 with
              | false =>
                rw [h2] at q2
                exact if_t rfl (q2 H3 T3)
              | true =>
                rw [h2] at q2
                obtain ⟨es, rfl, _, l6⟩ := tupOf_len h2
                cases c1 with
                | @tup a2 ys _ ha2 hx2 =>
                  have hl2 := hx2.len
                  refine if_f rfl ⟨_, rfl, a2, rfl, ⟨_, SqT.of (T3 _ _ ha2)⟩, fun D nD => lc_all (K := K) (a := a2) (xs := ys) (ds := es) (orderB m) (T3 _ _ ha2) (hx2.same T3) (by omega) nD (fun i x d Hx hi hdi td S R hR => ⟨rfl, _, rfl, _, rfl, _, _, rfl, rfl, hn m rfl x d Hx R td hR⟩) mono_name fun Hx S hD => ?_⟩
                  refine ⟨D, es.map (orderB m), rfl, SqL.of hD, ?_⟩
                  rw [List.all_map]
                  exact q2 Hx (T3.trans S)
/-- has_order_form(value, n) -/
theorem ok_ord {f : Addr} {fd : FuncData} (F : Fun K "has_order_form" "has_order_form" sOrd f fd) (Y : Pre P w K mg base) (b : L2.Binds K fd ["value", "depth"] []) (g : mg "has_order_form" = some (.ref f)) :
    ∀ n : Nat, FnOk P w K mg base CX0 (2 + n) f fd ["value", "depth"] (spOrd n)
  | 0 => ord_body (k := 0) (sp := fun _ _ _ _ => False) F Y b g fn_none 0 fun m e => by cases e
  | n + 1 => by
    have G := ok_ord F Y b g n
    rw [show 2 + n = 1 + (n + 1) by omega] at G
    refine ord_body (k := n + 1) F Y b g G (n + 1) fun m e x d H R hd hR => ?_
    obtain rfl : n = m := Nat.succ.inj e
    exact ⟨x, d, by rw [show (((n + 1 : Nat) : Int) - 1) = (n : Int) by omega], hd, hR⟩
end
end K3
set_option maxRecDepth 100000
set_option maxHeartbeats 4000000
/-! A set made of a list of texts, of any length below the model's line: how many texts it holds. -/
namespace S2
open PySem PySem.Spec PyProof.Rows
/-- the distinct texts among the first i -/
def cnt (xs : List Str) : Nat → Nat
  | 0 => 0
  | i + 1 => if (xs.take i).any (· == xs.getD i Str.empty) = true then cnt xs i else cnt xs i + 1
theorem cnt_le (xs : List Str) : ∀ i, cnt xs i ≤ i
  | 0 => Nat.le_refl _
  | i + 1 => by
    have h := cnt_le xs i
    unfold cnt
    split <;> omega
theorem any_next {xs : List Str} {i : Nat} (hi : i < xs.length) (k : Str) : ((xs.take i).any (· == k) || decide (k = xs.getD i Str.empty)) = (xs.take (i + 1)).any (· == k) := by
  have g : xs.getD i Str.empty = xs[i] := by rw [List.getD_eq_getElem?_getD, List.getElem?_eq_getElem hi]; rfl
  rw [List.take_add_one, List.getElem?_eq_getElem hi, List.any_append, g]
  congr 1
  show decide (k = xs[i]) = ([xs[i]].any (· == k))
  rw [List.any_cons, List.any_nil, Bool.or_false]
  by_cases e : k = xs[i]
  · rw [decide_eq_true e, e, beq_self_eq_true]
  · rw [decide_eq_false e, beq_eq_false_iff_ne.mpr (Ne.symm e)]
section
variable {prog : Program} {w : World} {A : Around} {R : Result → Shared → Prop} {I S : Addr} {fp wr : List Addr} {G : Array GenState → Array GenState → Prop} {n : Nat} {V : Nat → Value → Prop} {St : Nat → Shared → Prop}
/-- the state of the set behind i texts -/
def Has (prog : Program) (w : World) (S : Addr) (xs : List Str) (i : Nat) (h : Heap) : Prop := h.SetOf (PySem.strKind prog w) S (fun k => (xs.take i).any (· == k)) (cnt xs i)
theorem Has.moved {xs : List Str} {i : Nat} {s s' : Shared} (hm : Moved wr G s s') (hw : S ∉ wr) (h : Has prog w S xs i s.heap) : Has prog w S xs i s'.heap := by
  obtain ⟨o, es, ep, t, ho, more⟩ := h
  exact ⟨o, es, ep, t, hm.heap S _ hw ho, more⟩
theorem loop (W : WalksS prog w A.in1 I fp wr G n V St) (hf : S ∉ fp) {xs : List Str} (hl : xs.length = n) (hb : n + 1 < scanBound) (hv : ∀ i v, V i v → ∃ t, v = .str (xs.getD i Str.empty) t) :
    ∀ (k i : Nat) (s : Shared), k + i = n → St i s → Has prog w S xs i s.heap → (∀ s', Moved (S :: wr) G s s' → Has prog w S xs n s'.heap → R (.ok (.ret .none)) s') →
      codeAny (model prog w) A (.builtin "set.update.loop" ⟨[.ref S, .ref I], []⟩) R s := by
  have hw : S ∉ wr := fun z => hf (W.sub _ z)
  have up : ∀ b ∈ wr, b ∈ S :: wr := fun b z => List.mem_cons_of_mem _ z
  intro k
  induction k with
  | zero =>
    intro i s e st hS hR
    obtain rfl : i = n := by omega
    refine codeAny_builtin F.entry_set_update_loop ?_
    rw [Around.under_plainId F.plain_set_update_loop _]
    exact wpAny_bind (W.done s _ _ st fun s' hm => wpAny_pure (hR s' (hm.mono up) (hS.moved hm hw)))
  | succ k ih =>
    intro i s e st hS hR
    have hi : i < n := by omega
    refine codeAny_builtin F.entry_set_update_loop ?_
    rw [Around.under_plainId F.plain_set_update_loop _]
    refine wpAny_bind (W.item i s _ _ hi st fun v s' hP st' hm => ?_)
    obtain ⟨t, rfl⟩ := hv i v hP
    have hS' := hS.moved hm hw
    refine wpAny_bind (wpAny_holding ?_)
    unfold setAdd
    refine wpAny_holding (wpAny_bind ((PySem.strKind prog w).pyHash (k := xs.getD i Str.empty) (strKind_is _ _ _ _) ?_))
    refine wpAny_setAddHashed_of (knd := PySem.strKind prog w) (s := { s' with toks := s'.toks + 1 }) (strKind_is _ _ _ _) rfl hS' (by have := cnt_le xs i; omega) fun h' sb hN => ?_
    have hS2 : Has prog w S xs (i + 1) h' := SetOf_congr hN (fun c => any_next (by omega) c) rfl
    refine wpAny_pure ⟨plainId_quiet F.plain_set_update_loop _, ih (i + 1) _ (by omega) (W.frame _ s' _ _ st' (Nat.le_succ _) fun b z o q => ?_) hS2 fun s2 hm2 hS3 => ?_⟩
    · rw [sb.2 b fun y => hf (by rw [← y]; exact z)]
      exact q
    · refine hR s2 (Moved.trans W.gtrans ((hm.mono up).then_heap (Nat.le_succ _) fun b o z q => ?_) hm2) hS3
      rw [sb.2 b fun y => z (by rw [y]; exact List.mem_cons_self)]
      exact q
end
section
variable {prog : Program} {w : World} {A : Around} {E : Value → Shared → Prop} {s : Shared}
/-- the fresh set's object -/
abbrev raw (led : Bool) : Obj := { cls := .type "set", dict := none, data := .set #[] 0 (.fresh 0 0 led) }
/-- what a made set is worth -/
def Good (prog : Program) (w : World) (s : Shared) (xs : List Str) (h' : Heap) : Prop := Has prog w s.heap.objs.size xs xs.length h' ∧ ∀ b o, b < s.heap.objs.size → s.heap.get? b = some o → h'.get? b = some o
theorem init_run {l : Addr} {items : Array Value} {xs : List Str} {led : Bool} (hh : A.handled = none) (hl : s.heap.IsList l items) (hi : StrsAre items.toList xs) (hb : xs.length + 1 < scanBound) :
    codeAny (model prog w) A (.builtin "set.__init__" ⟨[.ref s.heap.objs.size, .ref l], []⟩) (wants (fun r s2 => r = .none ∧ ∃ h' tk, s2 = { s with heap := h', toks := tk } ∧ Good prog w s xs h') E) { s with heap := s.heap.push (raw led) } := by
  obtain ⟨⟨cl, dc, dt, sl⟩, ho, hc, nl, hd⟩ := hl
  simp only at hc hd
  subst hc hd
  have hp : (s.heap.push (raw led)).get? l = some { cls := .type "list", dict := dc, data := .seq items nl, slots := sl } := Heap.get?_push_of_some _ ho
  have hs : (s.heap.push (raw led)).get? s.heap.objs.size = some (raw led) := Heap.get?_push_size _ rfl
  have x1 := PySem.F.sub_list_set
  have x2 := PySem.F.sub_list_frozenset
  have x3 : (Value.type "list" == Value.type "dict") = false := by decide
  have isl : (s.heap.push (raw led)).IsList l items := ⟨_, hp, rfl, nl, rfl⟩
  have lS : l < s.heap.objs.size := Heap.lt_size ho
  have zz : (s.heap.push (raw led)).objs.size = s.heap.objs.size + 1 := Heap.size_push _ _
  have nl1 : l ≠ (s.heap.push (raw led)).objs.size := Nat.ne_of_lt (by rw [zz]; exact Nat.lt_succ_of_lt lS)
  have eL : xs.length = items.size := by rw [← StrsAre.len_eq hi, Array.length_toList]
  have fp : s.heap.objs.size ∉ [(s.heap.push (raw led)).objs.size, l] := fun z => by
    rcases List.mem_cons.mp z with z | z
    · rw [zz] at z
      exact Nat.ne_of_lt (Nat.lt_succ_self _) z
    · rcases List.mem_cons.mp z with z | z
      · exact Nat.ne_of_gt lS z
      · cases z
  refine codeAny_builtin PySem.F.entry_set_init ?_
  rw [Around.under_plainId PySem.F.called_set.init.plain _]
  unfold Builtin.«set.__init__» noKeywords Builtin.Frozenset.updateFrom
  generalize hI : pyIter = it
  wp_walk
  subst hI
  refine wpAny_pyIter_list isl (wpAny_bind (wpAny_runValue ?_))
  have at' : ∀ (i : Nat) (v : Value), items[i]? = some v → ∃ t, v = .str (xs.getD i Str.empty) t := fun i v hv => SS.strs_at hi i v (by rw [Array.getElem?_toList]; exact hv)
  have hid : ∀ B : Around, B.handled = A.handled → B.handled = none := fun B e => e.trans hh
  refine loop (W := (Walks.list (A := A.in1.in1) (hid A.in1.in1 rfl) _ l nl1 items).toS) fp eL (by rw [← eL]; exact hb) at' items.size 0 _ (by omega) ⟨⟨_, Heap.get?_push_size _ rfl, rfl, rfl⟩, isl.push _⟩ ?_ fun s' hm hN => ?_
  · have g : ((s.heap.push (raw led)).push { cls := .type "list_iterator", data := .fields #[.ref l, .int 0 0] }).get? s.heap.objs.size = some (raw led) := Heap.get?_push_of_some _ hs
    exact SetOf_congr ((setObjOf_fresh (knd := PySem.strKind prog w) led).setOf g (by unfold scanBound; omega)) (fun _ => rfl) rfl
  · obtain ⟨h', g', d', tk', os'⟩ := s'
    obtain rfl : g' = s.gens := hm.gens
    obtain rfl : d' = s.drawn := hm.drawn
    obtain rfl : os' = s.os := hm.os
    refine wpAny_pure (wpAny_pure ⟨rfl, h', tk', rfl, by rw [eL]; exact hN, fun b o hlt e => ?_⟩)
    refine hm.heap b o (fun z => ?_) (Heap.get?_push_of_some _ (Heap.get?_push_of_some _ e))
    rcases List.mem_cons.mp z with z | z
    · exact Nat.ne_of_lt hlt z
    · rcases List.mem_cons.mp z with z | z
      · rw [zz] at z
        exact Nat.ne_of_lt (Nat.lt_succ_of_lt hlt) z
      · cases z
set_option maxHeartbeats 8000000 in
/-- set(l), l a list of texts -/
theorem call_strs {l : Addr} {items : Array Value} {xs : List Str} {Q : Value → Shared → Prop} (hh : A.handled = none) (hl : s.heap.IsList l items) (hi : StrsAre items.toList xs) (hb : xs.length + 1 < scanBound)
    (q : ∀ (h' : Heap) (tk : Nat), Good prog w s xs h' → Q (.ref s.heap.objs.size) { s with heap := h', toks := tk }) : wpAny (model prog w) A (call (.type "set") [.ref l]) Q E s := by
  obtain ⟨c, tl, x0⟩ := PySem.F.called_set.mro
  have x1 := PySem.F.called_set.made
  have x2 := PySem.F.called_set.sub
  refine wpAny_call (codeAny_of_tree (wpAny_pure ⟨Code.quiet_builtin _ (by decide +kernel), codeAny_builtin PySem.F.entry_type_call ?_⟩))
  rw [Around.under_plain (weight_type_call_type "set" [.ref l] []) rfl]
  have x3 := PySem.F.called_set.notType
  have x4 := PySem.F.called_set.canCreate
  have x5 := F.typeCall_set_1 (.ref l)
  repeat (any_goals (first | assumption | wp_step))
  refine codeAny_mono (code_set_new_1 (.ref l) (E := E) (Q₁ := fun v s1 => ∃ led : Bool, v = .ref s.heap.objs.size ∧ s1 = { s with heap := s.heap.push (raw led) }) fun led => ⟨led, rfl, rfl⟩) fun r s1 hr => ?_
  cases r with
  | error e => exact hr
  | ok fl =>
    cases fl with
    | next => exact hr.elim
    | brk => exact hr.elim
    | cont => exact hr.elim
    | ret v =>
      obtain ⟨led, rfl, rfl⟩ := hr
      have y0 : (s.heap.push (raw led)).get? s.heap.objs.size = some (raw led) := Heap.get?_push_size _ rfl
      have y1 : Shared.TypeIs { s with heap := s.heap.push (raw led) } (.ref s.heap.objs.size) "set" := ⟨_, y0, rfl⟩
      have y2 := PySem.F.called_set.init.lookup
      have y3 := PySem.F.called_set.init.bind (.ref s.heap.objs.size)
      repeat (any_goals (first | assumption | wp_step))
      refine codeAny_mono (codeAny_call_builtin_code (R := wants (fun r s2 => r = .none ∧ ∃ h' tk, s2 = { s with heap := h', toks := tk } ∧ Good prog w s xs h') E) (Code.quiet_builtin _ (by decide +kernel)) (check_set_init_1 y1 (init_run (by exact hh) hl hi hb))) fun r2 s2 z => ?_
      cases r2 with
      | error e => exact z
      | ok f2 =>
        cases f2 with
        | next => exact z.elim
        | brk => exact z.elim
        | cont => exact z.elim
        | ret u =>
          obtain ⟨rfl, h', tk, rfl, hg⟩ := z
          repeat (any_goals (first | assumption | wp_step))
          exact q _ _ hg
end
end S2
namespace L2
open PySem PySem.Spec PyProof.Rows
section
variable {X : Cx}
/-- len(set(l)), l a list of texts -/
def tCnt (K : PySem.W.Frag) (ta : TE) : TE := fun σ H Q => ta σ H fun x H1 => ∃ (l : Addr) (zs : List Str), x = .ref l ∧ SqL K H1 l (zs.map V.str) ∧ zs.length ≤ 4000 ∧ Q (.int (S2.cnt zs zs.length : Nat)) H1
theorem pe_cnt {e : Expr} {te : TE} {p p2 pos2 pos : Pos} (hc : X.calm = true) (l1 : Gl X "len") (m1 : X.mg "len" = none) (l2 : Gl X "set") (m2 : X.mg "set" = none) (he : PE X e te)
    (hs : starEach [e] X.env = (false, eval e X.env) :: starEach [] X.env := by rfl) : PE X (.Call (.Name "len" p) [.Call (.Name "set" p2) [e] [] pos2] [] pos) (tCnt X.K te) := by
  constructor
  intro pins s σ H Q I h
  refine Call_ (ld_blt I l1 m1 PySem.boot_len (callWith_builtin1 (args_cons (Call_ (ld_blt I l2 m2 PyProof.Rows.boot_set ?_)) rfl) rfl rfl))
  refine callWith_type1 (args_cons (thn (he.run pins s σ H _ I h) fun v s1 z => args_nil ?_) hs) hs rfl
  obtain ⟨x, H1, I1, rx, l, zs, rfl, hq, hz, q⟩ := z
  cases rx
  obtain ⟨its, rv, pl, _⟩ := I1.list hq
  refine S2.call_strs (I1.ok.hd hc) pl.isList (xs := zs) (by simpa using strsAre_of rv) (by unfold scanBound; omega) fun h' tk hg => args_nil ?_
  obtain ⟨⟨o, es, ep, t, ho, hex, hd, _, _, _, hf, hn⟩, keep⟩ := hg
  have I2 : Inv X pins σ H1 { s1 with heap := h', toks := tk } := I1.kept fun b o e => keep b o (Heap.lt_size e) e
  have small : es.size < 4001 := by
    have z := S2.cnt_le zs zs.length
    omega
  exact call_len_set ho hex hd hf (by omega) ⟨.int (S2.cnt zs zs.length : Nat), H1, I2.tok _, ⟨_, by rw [hn]⟩, q⟩
end
end L2
set_option maxRecDepth 100000
set_option maxHeartbeats 4000000
namespace K3
open PySem PySem.Spec PyProof.Rows L2
/-! ### the names of an order -/
def strOf : PyData → Str
  | .str s => s
  | _ => Str.empty
def namesN : Nat → PyData → List Str
  | 0, _ => []
  | n + 1, d => if eqStr "item" (at0 (tupItems d) 0) = true then [strOf (at0 (tupItems d) 1)] else (tupItems (at0 (tupItems d) 1)).flatMap (namesN n)
theorem flat_len {f : PyData → List Str} {m : Nat} : ∀ {l : List PyData}, (∀ d ∈ l, (f d).length ≤ m) → (l.flatMap f).length ≤ l.length * m
  | [], _ => by simp
  | a :: l, h => by
    have h1 := h a (by simp)
    have h2 := flat_len (l := l) fun d hd => h d (by simp [hd])
    rw [List.flatMap_cons, List.length_append, List.length_cons, Nat.succ_mul]
    omega
/-- what orderB says, one level -/
theorem order_cases {n : Nat} {d : PyData} (h : orderB (n + 1) d = true) : ∃ d0 d1, d = .tuple [d0, d1] ∧ ((eqStr "item" d0 = true ∧ nameB d1 = true) ∨
    (eqStr "item" d0 = false ∧ ∃ es, d1 = .tuple es ∧ 2 ≤ es.length ∧ es.length ≤ 6 ∧ ∀ e ∈ es, orderB n e = true)) := by
  rw [orderB, Bool.and_eq_true] at h
  obtain ⟨ds, rfl, l1, l2⟩ := tupOf_len h.1
  match ds, (show ds.length = 2 by omega) with
  | [d0, d1], _ =>
    refine ⟨d0, d1, rfl, ?_⟩
    have h2 : (if eqStr "item" d0 = true then nameB d1 else ((eqStr "series" d0 || eqStr "parallel" d0) && (tupOf 2 6 d1 && (tupItems d1).all (orderB n)))) = true := h.2
    cases h0 : eqStr "item" d0 with
    | true =>
      rw [h0] at h2
      exact .inl ⟨rfl, h2⟩
    | false =>
      rw [h0] at h2
      have h3 : ((eqStr "series" d0 || eqStr "parallel" d0) && (tupOf 2 6 d1 && (tupItems d1).all (orderB n))) = true := h2
      rw [Bool.and_eq_true, Bool.and_eq_true] at h3
      obtain ⟨es, rfl, l3, l4⟩ := tupOf_len h3.2.1
      exact .inr ⟨rfl, es, rfl, by omega, by omega, List.all_eq_true.mp h3.2.2⟩
theorem names_len : ∀ (n : Nat) (d : PyData), orderB n d = true → (namesN n d).length ≤ 6 ^ n
  | 0, _, _ => by simp [namesN]
  | n + 1, d, h => by
    obtain ⟨d0, d1, rfl, hh⟩ := order_cases h
    have e : namesN (n + 1) (.tuple [d0, d1]) = if eqStr "item" d0 = true then [strOf d1] else (tupItems d1).flatMap (namesN n) := by rw [namesN]; rfl
    have p : 0 < 6 ^ n := Nat.pos_of_ne_zero (by simp)
    rw [e, Nat.pow_succ]
    rcases hh with ⟨h0, _⟩ | ⟨h0, es, rfl, _, l6, hes⟩
    · rw [h0, if_pos rfl]
      show 1 ≤ _
      omega
    · rw [h0, if_neg Bool.false_ne_true]
      have z := flat_len (l := es) fun e he => names_len n e (hes e he)
      have z2 : es.length * 6 ^ n ≤ 6 * 6 ^ n := Nat.mul_le_mul_right _ l6
      show (es.flatMap (namesN n)).length ≤ _
      omega
theorem flat_pre {f : PyData → List Str} {es : List PyData} {i : Nat} {e : PyData} (h : es[i]? = some e) : (es.take (i + 1)).flatMap f = (es.take i).flatMap f ++ f e := by
  rw [List.take_add_one, h]
  simp
theorem flat_take {f : PyData → List Str} (es : List PyData) (i : Nat) : ((es.take i).flatMap f).length ≤ (es.flatMap f).length := by
  have z : es.flatMap f = (es.take i).flatMap f ++ (es.drop i).flatMap f := by rw [← List.flatMap_append, List.take_append_drop]
  rw [z, List.length_append]
  omega
/-- the inner walk of a comprehension -/
theorem in_it {J : It} {n : Nat} {G : Hp → Prop} {Y : Nat → Hp → V → Hp → Prop} (w : Walk J n G Y) {Nx : Hp → Prop} {step : Nat → V → Hp → (Hp → Prop) → Prop} {H4 : Hp} (Pv : Nat → Hp → Prop) (h0 : Pv 0 H4) (hG : ∀ j H, j ≤ n → Pv j H → G H)
    (hs : ∀ j x H H', j < n → Pv j H → Y j H x H' → step j x H' (Pv (j + 1))) (hd : ∀ H, Pv n H → Nx H) :
    ∃ W1 : Nat → Nat → Hp → Prop, (∃ m, W1 0 m H4) ∧ ∀ j k H, W1 j k H → (J.stop j H ∧ Nx H) ∨ (J.go j H ∧ ∃ N1 : Hp → Prop, (∀ H', N1 H' → ∃ k', k' < k ∧ W1 (j + 1) k' H') ∧ ∀ x H', J.yld j H x H' → step j x H' N1) := by
  refine ⟨fun j k H => k + j = n ∧ Pv j H, ⟨n, rfl, h0⟩, fun j k H ⟨e, p⟩ => ?_⟩
  have g := hG j H (by omega) p
  by_cases hj : j < n
  · refine .inr ⟨w.goes j H hj g, Pv (j + 1), fun H' p' => ⟨n - (j + 1), by omega, by omega, p'⟩, fun x H' y => hs j x H H' hj p (w.yields j H x H' hj g y)⟩
  · obtain rfl : j = n := by omega
    exact .inl ⟨w.stops H g, hd H p⟩
def spNames (n : Nat) : Sp := fun vs H Q _ => ∃ (v : V) (d : PyData), vs = [v] ∧ n ≤ 6 ∧ Dat H v d ∧ orderB n d = true ∧ ∀ p H', Same H H' → H p = none → H' p = some (.lst ((namesN n d).map V.str)) → Q (.ref p) H'
abbrev sNames : Stmt := top 36
theorem dat_name {H : Hp} {v : V} {d : PyData} (h : Dat H v d) (hn : nameB d = true) : v = .str (strOf d) := by
  cases h with
  | str x _ => rfl
  | _ => cases hn
section
variable {P : Program} {w : World} {K : PySem.W.Frag} {mg : Str → Option Value} {base : Heap}
theorem scNames : FnScope ["order", "word", "rest", "inner", "name"] ["order"] (defScope sNames) := ⟨rfl, rfl, rfl, by decide +kernel, rfl, by decide +kernel, by decide +kernel⟩
theorem names_body {f : Addr} {fd : FuncData} {k : Nat} {sp : Sp} (F : Fun K "names_of" "names_of" sNames f fd) (b : L2.Binds K fd ["order"] []) (g : mg "names_of" = some (.ref f)) (G : FnOk P w K mg base CX0 k f fd ["order"] sp) (n : Nat)
    (hn : ∀ m, n = m + 1 → n ≤ 6 → ∀ (x : V) (d : PyData) (H : Hp) (R : VK), Dat H x d → orderB m d = true → (∀ p H', Same H H' → H p = none → H' p = some (.lst ((namesN m d).map V.str)) → R (.ref p) H') → sp [x] H R E0) : FnOk P w K mg base CX0 (k + 1) f fd ["order"] (spNames n) := by
  refine F.ok scNames (fun vs H Q E h => ?_) (fun cdv A outer s H vs Q E hr h => ?_)
  · obtain ⟨v, d, rfl, _⟩ := h
    rfl
  · obtain ⟨v, d, rfl, h6, hd, ho, q⟩ := h
    have hu0 := hr.units0
    refine ⟨_, pss_cons (ps_asg (pv 0) (pg_tup rfl (pgs_cons (pg_name (i := 1) scNames.nd rfl (Or.inl rfl)) (pgs_cons (pg_name (i := 2) scNames.nd rfl (Or.inl rfl)) pgs_nil))))
      (pss_cons (ps_if (pt_cmpR (op_eqStr hu0) (pv 1) pe_str (nomark _)) (pss_one (ps_ret (pe_lst (pa_cons (pv 2) pa_nil)))) pss_nil)
      (pss_one (ps_ret (pe_lc2 (own := [("inner", 3), ("name", 4)]) (vs1 := [4]) (g := gName 3) (tt := tYes) (wi1 := iList K (tCall sp [] E0 (tCons (tVar 3) tNil))) (g1 := gName 4) (tt1 := tYes) rfl scNames.nd (pi_tup (pv 2)) (blkOk_by (N := ["order", "word", "rest", "inner", "name"]) (sc := defScope sNames) (by decide +kernel)) (by decide)
          (fun _ _ _ _ _ => pg_name (i := 3) scNames.nd rfl (Or.inl rfl)) (fun _ _ _ _ _ => pts_nil) (fun _ _ _ _ _ => pi_list (pe_call G hr rfl g F.kp b .nil pass0 (pa_cons (pv 3) pa_nil)))
          (fun _ _ _ _ _ => pg_name (i := 4) scNames.nd rfl (Or.inl rfl)) (fun _ _ _ _ _ => pts_nil) (fun _ _ _ _ _ => pv 4))))), ?_⟩
    cases n with
    | zero => exact Bool.noConfusion ((show false = true from ho) : false = true)
    | succ m =>
      have hlen := names_len _ _ ho
      have h66 : 6 ^ (m + 1) ≤ 46656 := by
        have z : 6 ^ (m + 1) ≤ 6 ^ 6 := Nat.pow_le_pow_right (by decide) h6
        exact z
      obtain ⟨d0, d1, rfl, hh⟩ := order_cases ho
      have eN : namesN (m + 1) (.tuple [d0, d1]) = if eqStr "item" d0 = true then [strOf d1] else (tupItems d1).flatMap (namesN m) := by rw [namesN]; rfl
      rw [eN] at q hlen
      cases hd with
      | @tup a xs _ ha hx =>
        cases hx with
        | @cons x0 _ _ _ c0 t0 =>
          cases t0 with
          | @cons x1 _ _ _ c1 t1 =>
            cases t1
            refine ⟨_, rfl, a, _, rfl, SqT.of ha, rfl, _, _, rfl, _, _, rfl, rfl, _, rfl, d0, "item", c0, rfl, _, rfl, ?_⟩
            rcases hh with ⟨h0, hn1⟩ | ⟨h0, es, rfl, l2, l6, hes⟩
            · rw [h0] at q ⊢
              refine if_t rfl ⟨_, rfl, (by show 1 ≤ sizeLine; decide), fun p np => q p _ (same_new np) np ?_⟩
              rw [upd_same, dat_name c1 hn1]
              rfl
            · rw [h0] at q hlen ⊢
              have q1 : ∀ p H', Same H H' → H p = none → H' p = some (.lst ((es.flatMap (namesN m)).map V.str)) → Q (.ref p) H' := q
              have hlen1 : (es.flatMap (namesN m)).length ≤ 6 ^ (m + 1) := hlen
              cases c1 with
              | @tup a2 ys _ ha2 hx2 =>
                have hl2 := hx2.len
                refine if_f rfl ⟨_, rfl, a2, rfl, ⟨_, SqT.of ha2⟩, fun D nD => in_it (walk_tup (K := K) (a := a2) (xs := ys)) (fun i Hx => Same H Hx ∧ Hx D = some (.lst (((es.take i).flatMap (namesN m)).map V.str))) ⟨same_new nD, by rw [upd_same]; rfl⟩ (fun i Hx _ ⟨S, _⟩ => SqT.of (S _ _ ha2)) ?_ ?_⟩
                · rintro i x Hx Hy hi ⟨S, hD⟩ ⟨rfl, hxi⟩
                  obtain ⟨e, hei, te⟩ := hx2.get hxi
                  refine ⟨rfl, _, rfl, hn m rfl h6 x e Hy _ (te.same S) (hes e (List.mem_of_getElem? hei)) fun p H1 S1 np hp => ?_⟩
                  have pD : p ≠ D := fun z => by
                    rw [z, hD] at np
                    cases np
                  refine ⟨p, rfl, ⟨_, SqL.of hp⟩, in_it (walk_list (K := K) (a := p) (xs := (namesN m e).map V.str)) (fun j Hz => Same H Hz ∧ Hz p = some (.lst ((namesN m e).map V.str)) ∧ Hz D = some (.lst (((es.take i).flatMap (namesN m) ++ (namesN m e).take j).map V.str)))
                    ⟨S.trans S1, hp, by rw [List.take_zero, List.append_nil]; exact S1 _ _ hD⟩ (fun j Hz _ ⟨_, h, _⟩ => SqL.of h) ?_ ?_⟩
                  · rintro j y Hz Hz' hj ⟨S2, hp2, hD2⟩ ⟨rfl, hy⟩
                    rw [List.getElem?_map] at hy
                    obtain ⟨nm, hnm, rfl⟩ : ∃ nm, (namesN m e)[j]? = some nm ∧ y = V.str nm := by
                      cases hz : (namesN m e)[j]? with
                      | none =>
                        rw [hz] at hy
                        cases hy
                      | some nm =>
                        rw [hz] at hy
                        exact ⟨nm, rfl, (Option.some.inj hy).symm⟩
                    have hjl : j < (namesN m e).length := (List.getElem?_eq_some_iff.mp hnm).1
                    have tot := flat_take (f := namesN m) es (i + 1)
                    rw [flat_pre hei, List.length_append] at tot
                    refine ⟨rfl, _, rfl, _, hD2, ?_, grow nD S2, ?_, ?_⟩
                    · rw [List.length_map, List.length_append, List.length_take, sizeLine_eq]
                      omega
                    · rw [upd_ne pD]
                      exact hp2
                    · rw [upd_same, List.take_add_one, hnm]
                      simp
                  · rintro Hz ⟨S2, hp2, hD2⟩
                    refine ⟨S2, ?_⟩
                    rw [hD2, List.length_map, List.take_length, flat_pre hei]
                · rintro Hx ⟨S, hD⟩
                  refine q1 D Hx S nD ?_
                  rw [hD, hl2, List.take_length]
/-- names_of(d), d an order of at most n levels -/
theorem ok_names {f : Addr} {fd : FuncData} (F : Fun K "names_of" "names_of" sNames f fd) (b : L2.Binds K fd ["order"] []) (g : mg "names_of" = some (.ref f)) : ∀ n : Nat, FnOk P w K mg base CX0 (1 + n) f fd ["order"] (spNames n)
  | 0 => by
    have z := names_body (P := P) (w := w) (base := base) (k := 0) (sp := fun _ _ _ _ => False) F b g fn_none 0 fun m e => by cases e
    exact z
  | n + 1 => by
    have G := ok_names F b g n
    have z := names_body F b g G (n + 1) fun m e l6 x d H R hd ho hR => by
      obtain rfl : n = m := Nat.succ.inj e
      exact ⟨x, d, rfl, by omega, hd, ho, hR⟩
    rw [show 1 + (n + 1) = 1 + n + 1 by omega]
    exact z
end
end K3
set_option maxRecDepth 100000
set_option maxHeartbeats 4000000
namespace K3
open PySem PySem.Spec PyProof.Rows L2
def orderOk (d : PyData) : Bool := orderB 6 d && (decide (((namesN 6 d).length : Int) ≤ 400) && decide ((S2.cnt (namesN 6 d) (namesN 6 d).length : Int) = ((namesN 6 d).length : Int)))
def pArr (ds : List PyData) : Bool := orderOk (at0 ds 1)
def countOf (d : PyData) : Int := intOf (at0 (tupItems d) 1)
def letterOf (d : PyData) : PyData := at0 (tupItems d) 0
def countsB (d : PyData) : Bool := tupOf 1 6 d && (tupItems d).all countB && (decide (((tupItems d).map countOf).sum ≤ 400) && ascB ((tupItems d).map letterOf))
def pWord (ds : List PyData) : Bool := countsB (at0 ds 1)
abbrev sIsOrder : Stmt := top 34
abbrev sArr : Stmt := top 46
abbrev sCounts : Stmt := top 44
abbrev sWord : Stmt := top 43
/-- [e(x) for x in a tuple], the values known -/
theorem lc_vals {K : PySem.W.Frag} {H : Hp} {a : Addr} {xs : List V} {g : TG} {te : TE} {vs : List Nat} {σ : L2.St} {D : Addr} {Qd : Hp → Prop} (out : Nat → V) (ha : H a = some (.tup xs)) (hz : xs.length ≤ 1000000) (nD : H D = none)
    (hs : ∀ (i : Nat) (x : V) (Hx : Hp), xs[i]? = some x → Same H Hx → ∀ R : VK, (∀ H', Same Hx H' → R (out i) H') → g x (wipe σ vs) Hx fun σ2 H2 => wipe σ2 vs = wipe σ vs ∧ te σ2 H2 R)
    (mono : ∀ (x : V) (Hx : Hp) (A B : L2.St → Hp → Prop), (∀ σ2 H2, A σ2 H2 → B σ2 H2) → g x (wipe σ vs) Hx A → g x (wipe σ vs) Hx B)
    (hd : ∀ Hx, Same H Hx → Hx D = some (.lst ((List.range xs.length).map out)) → Qd Hx) :
    ∃ W : Nat → Nat → Hp → Prop, (∃ m, W 0 m (upd H D (.lst []))) ∧ ∀ i m H, W i m H →
      ((Itt K a).stop i H ∧ Qd H) ∨ ((Itt K a).go i H ∧ ∃ Nx : Hp → Prop, (∀ H', Nx H' → ∃ m', m' < m ∧ W (i + 1) m' H') ∧ ∀ x H', (Itt K a).yld i H x H' → g x (wipe σ vs) H' fun σ2 H2 => wipe σ2 vs = wipe σ vs ∧ tYes σ2 H2 fun b H3 =>
        if b = true then te σ2 H3 fun y H4 => ∃ acc, H4 D = some (.lst acc) ∧ acc.length < sizeLine ∧ Nx (upd H4 D (.lst (acc ++ [y]))) else Nx H3) := by
  refine lc_tup (K := K) (a := a) (xs := xs) (fun j Hx => Same H Hx ∧ Hx D = some (.lst ((List.range j).map out))) ⟨same_new nD, upd_same⟩ (fun j Hx _ ⟨S, _⟩ => SqT.of (S _ _ ha)) ?_ fun Hx ⟨S, hD⟩ => hd Hx S hD
  rintro i x Hx hi ⟨S, hD⟩
  refine mono x Hx _ _ (fun σ2 H2 h => ⟨h.1, ?_⟩) (hs i x Hx hi S (fun y H4 => ∃ acc, H4 D = some (.lst acc) ∧ acc.length < sizeLine ∧ Same H (upd H4 D (.lst (acc ++ [y]))) ∧ upd H4 D (.lst (acc ++ [y])) D = some (.lst ((List.range (i + 1)).map out))) fun H' S' => ?_)
  · dsimp only [tYes]
    first
      | exact if_t rfl h.2
      | exact h.2
  · have hi' : i < xs.length := (List.getElem?_eq_some_iff.mp hi).1
    refine ⟨_, S' _ _ hD, ?_, grow nD (S.trans S'), ?_⟩
    · rw [List.length_map, List.length_range, sizeLine_eq]
      omega
    · rw [upd_same, List.range_succ, List.map_append]
      rfl
theorem range_map {α : Type} (ds : List PyData) (f : PyData → α) (g : Nat → α) (h : ∀ i d, ds[i]? = some d → g i = f d) : (List.range ds.length).map g = ds.map f := by
  apply List.ext_getElem?
  intro i
  rw [List.getElem?_map, List.getElem?_map]
  by_cases hi : i < ds.length
  · rw [List.getElem?_range hi, List.getElem?_eq_getElem hi]
    show some (g i) = some (f ds[i])
    rw [h i ds[i] (List.getElem?_eq_getElem hi)]
  · rw [List.getElem?_eq_none (by rw [List.length_range]; omega), List.getElem?_eq_none (by omega)]
    rfl
section
variable {P : Program} {w : World} {K : PySem.W.Frag} {mg : Str → Option Value} {base : Heap}
theorem scIsOrder : FnScope ["value", "names"] ["value"] (defScope sIsOrder) := ⟨rfl, rfl, rfl, by decide +kernel, rfl, by decide +kernel, by decide +kernel⟩
theorem scArr : FnScope ["space"] ["space"] (defScope sArr) := ⟨rfl, rfl, rfl, by decide +kernel, rfl, by decide +kernel, by decide +kernel⟩
theorem scCounts : FnScope ["counts", "pair"] ["counts"] (defScope sCounts) := ⟨rfl, rfl, rfl, by decide +kernel, rfl, by decide +kernel, by decide +kernel⟩
theorem scWord : FnScope ["space"] ["space"] (defScope sWord) := ⟨rfl, rfl, rfl, by decide +kernel, rfl, by decide +kernel, by decide +kernel⟩
theorem dec_int (i j : Int) : decide (V.int i = V.int j) = decide (i = j) := by
  by_cases h : i = j
  · rw [h, decide_eq_true rfl, decide_eq_true rfl]
  · rw [decide_eq_false h]
    exact decide_eq_false fun z => h (by injection z)
theorem ok_order {f fO fN : Addr} {fd fdO fdN : FuncData} (F : Fun K "is_order" "is_order" sIsOrder f fd) (Y : Pre P w K mg base) (O : DefOk K mg "has_order_form" sOrd ["value", "depth"] fO fdO) (N : DefOk K mg "names_of" sNames ["order"] fN fdN) : FnOk P w K mg base CX0 9 f fd ["value"] (spP orderOk) := by
  obtain ⟨t, z⟩ := Y.z.deepest
  obtain ⟨t2, z2⟩ := Y.z.places
  have GO : FnOk P w K mg base CX0 8 fO fdO ["value", "depth"] (spOrd 6) := ok_ord O.F Y O.b O.g 6
  have GN : FnOk P w K mg base CX0 7 fN fdN ["order"] (spNames 6) := ok_names N.F N.b N.g 6
  refine F.ok scIsOrder (fun vs H Q E h => ?_) (fun cdv A outer s H vs Q E hr h => ?_)
  · obtain ⟨v, d, rfl, _⟩ := h
    rfl
  · obtain ⟨v, d, rfl, hd, q⟩ := h
    have hr7 : Room 7 _ := hr.mono (by decide)
    refine ⟨_, pss_cons (ps_if (pt_not (pt_val (pe_call GO hr rfl O.g O.F.kp O.b .nil pass0 (pa_cons (pv 0) (pa_cons (pe_glob (v := .int 6) rfl z ⟨_, rfl⟩) pa_nil))))) (pss_one (ps_ret pe_bl)) pss_nil)
      (pss_cons (ps_set (i := 1) scIsOrder.nd rfl (Or.inl rfl) (pe_call GN hr7 rfl N.g N.F.kp N.b .nil pass0 (pa_cons (pv 0) pa_nil)))
      (pss_one (ps_ret (pe_and (pe_cmpR op_le (pe_callB call_len_seq (by rfl) Y.nm.len PySem.boot_len (pa_cons (pv 1) pa_nil)) (pe_glob (v := .int 400) rfl z2 ⟨_, rfl⟩) (nomark _))
        (pe_one (pe_cmpR op_eq (pe_cnt rfl rfl Y.nm.len rfl Y.nm.set (pv 1)) (pe_callB call_len_seq (by rfl) Y.nm.len PySem.boot_len (pa_cons (pv 1) pa_nil)) (nomark _))))))), ?_⟩
    refine ⟨_, rfl, v, d, rfl, hd, fun H1 S1 => ⟨_, rfl, ?_⟩⟩
    unfold orderOk at q
    cases h : orderB 6 d with
    | false =>
      rw [h] at q
      exact if_t rfl (q H1 S1)
    | true =>
      rw [h] at q
      refine if_f rfl ⟨_, rfl, v, d, rfl, Nat.le_refl _, hd.same S1, h, fun p H2 S2 np hp => ?_⟩
      have T2 := S1.trans S2
      have q2 := q H2 T2
      generalize namesN 6 d = zs at hp q2
      have hlen : ((zs.map V.str).length : Int) = (zs.length : Int) := by rw [List.length_map]
      refine ⟨_, rfl, p, zs.map V.str, rfl, .inl (SqL.of hp), _, _, rfl, rfl, _, rfl, ?_⟩
      rw [hlen]
      by_cases h4 : (zs.length : Int) ≤ 400
      · rw [decide_eq_true h4] at q2 ⊢
        refine if_t rfl ⟨_, rfl, p, zs, rfl, SqL.of hp, by omega, _, rfl, p, zs.map V.str, rfl, .inl (SqL.of hp), rfl, ?_⟩
        rw [hlen, dec_int]
        exact q2
      · rw [decide_eq_false h4] at q2 ⊢
        exact if_f rfl q2
theorem ok_arr {f fO : Addr} {fd fdO : FuncData} (F : Fun K "is_arrangement" "is_arrangement" sArr f fd) (O : DefOk K mg "is_order" sIsOrder ["value"] fO fdO) (G : FnOk P w K mg base CX0 9 fO fdO ["value"] (spP orderOk)) : FnOk P w K mg base CX0 10 f fd ["space"] (spT 2 pArr) := by
  refine F.ok scArr (fun vs H Q E h => ?_) (fun cdv A outer s H vs Q E hr h => ?_)
  · obtain ⟨a, xs, ds, rfl, _⟩ := h
    rfl
  · obtain ⟨a, xs, ds, rfl, ha, hx, hl, q⟩ := h
    obtain ⟨x1, g1, td⟩ := hx.at (j := 1) (List.getElem?_eq_getElem (by omega))
    refine ⟨_, pss_one (ps_ret (pe_call G hr rfl O.g O.F.kp O.b .nil pass0 (pa_cons (pe_ix ix_tup (pv 0) pe_int (fun _ _ => rfl)) pa_nil))), ?_⟩
    refine ⟨_, rfl, a, _, _, _, rfl, rfl, SqT.of ha, atI_nat (j := 1) g1, x1, _, rfl, td, fun H' S => ?_⟩
    have q' := q H' S
    unfold pArr at q'
    rw [at_of (List.getElem?_eq_getElem (by omega))] at q'
    exact q'
/-- what countB says -/
theorem count_cases {d : PyData} (h : countB d = true) : ∃ d0 i, d = .tuple [d0, .int i] ∧ nameB d0 = true ∧ 1 ≤ i ∧ i ≤ 400 := by
  unfold countB at h
  rw [Bool.and_eq_true, Bool.and_eq_true] at h
  obtain ⟨ds, rfl, l1, l2⟩ := tupOf_len h.1
  match ds, (show ds.length = 2 by omega), h with
  | [d0, d1], _, h =>
    obtain ⟨i, e, i1, i2⟩ := btw_int (show btw 1 400 d1 = true from h.2.2)
    subst e
    exact ⟨d0, i, rfl, h.2.1, i1, i2⟩
theorem name_str {d : PyData} (h : nameB d = true) : ∃ s, d = .str s ∧ s.length ≤ 6 := by
  cases d with
  | str s =>
    have h' : (decide (1 ≤ (s.length : Int)) && decide ((s.length : Int) ≤ 6) && s.cps.toList.all azB) = true := h
    rw [Bool.and_eq_true, Bool.and_eq_true] at h'
    have z := of_decide_eq_true h'.1.2
    exact ⟨s, rfl, by omega⟩
  | _ => cases h
theorem datAll_strs {H : Hp} : ∀ {ds : List PyData}, (∀ d ∈ ds, ∃ s, d = .str s ∧ s.length ≤ 6) → DatAll H (ds.map fun d => V.str (strOf d)) ds
  | [], _ => .nil
  | d :: ds, h => by
    obtain ⟨s, rfl, hs⟩ := h d (by simp)
    exact .cons (.str s (by omega)) (datAll_strs fun e he => h e (by simp [he]))
theorem ok_counts {f fC : Addr} {fd fdC : FuncData} (F : Fun K "are_counts" "are_counts" sCounts f fd) (Y : Pre P w K mg base) (C : DefOk K mg "is_count" sIsCount ["pair"] fC fdC) (GC : FnOk P w K mg base CX0 3 fC fdC ["pair"] (spP countB)) : FnOk P w K mg base CX0 4 f fd ["counts"] (spP countsB) := by
  obtain ⟨t, z⟩ := Y.z.letters
  obtain ⟨t2, z2⟩ := Y.z.places
  refine F.ok scCounts (fun vs H Q E h => ?_) (fun cdv A outer s H vs Q E hr h => ?_)
  · obtain ⟨v, d, rfl, _⟩ := h
    rfl
  · obtain ⟨v, d, rfl, hd, q⟩ := h
    have hr1 : Room 1 _ := hr.mono (by decide)
    refine ⟨_, pss_cons (ps_if (PW.pt (pw_or (pt_not (pt_val (pe_call Y.GT hr1 rfl Y.T.g Y.T.F.kp Y.T.b .nil pass0 (pa_cons (pv 0) (pa_cons pe_int (pa_cons (pe_glob (v := .int 6) rfl z ⟨_, rfl⟩) pa_nil))))))
          (pw_or1 (pt_not (pt_val (pe_callB (cr_all rfl) (by rfl) Y.nm.all boot_all (pa_cons (pe_lc (own := [("pair", 1)]) (g := gName 1) (tt := tYes) rfl scCounts.nd (pi_tup (pv 0)) (blkOk_by (N := ["counts", "pair"]) (sc := defScope sCounts) (by decide +kernel))
            (fun _ _ _ _ _ => pg_name (i := 1) scCounts.nd rfl (Or.inl rfl)) (fun _ _ _ _ _ => pts_nil) (fun _ _ _ _ _ => pe_call GC hr rfl C.g C.F.kp C.b .nil pass0 (pa_cons (pv 1) pa_nil))) pa_nil))))))) (pss_one (ps_ret pe_bl)) pss_nil)
      (pss_cons (ps_if (pt_cmpR op_gt (pe_callB (cr_sum rfl) (by rfl) Y.nm.sum PyProof.Rows.boot_sum (pa_cons (pe_lc (own := [("pair", 1)]) (g := gName 1) (tt := tYes) (te := tOp (rIxT K) (tVar 1) (tC (.int 1))) rfl scCounts.nd (pi_tup (pv 0)) (blkOk_by (N := ["counts", "pair"]) (sc := defScope sCounts) (by decide +kernel))
            (fun _ _ _ _ _ => pg_name (i := 1) scCounts.nd rfl (Or.inl rfl)) (fun _ _ _ _ _ => pts_nil) (fun _ _ _ _ _ => pe_ix ix_tup (pv 1) pe_int (fun _ _ => rfl))) pa_nil)) (pe_glob (v := .int 400) rfl z2 ⟨_, rfl⟩) (nomark _)) (pss_one (ps_ret pe_bl)) pss_nil)
      (pss_one (ps_ret (pe_call Y.GA hr1 rfl Y.A.g Y.A.F.kp Y.A.b .nil pass0 (pa_cons (pe_lc (own := [("pair", 1)]) (g := gName 1) (tt := tYes) (te := tOp (rIxT K) (tVar 1) (tC (.int 0))) rfl scCounts.nd (pi_tup (pv 0)) (blkOk_by (N := ["counts", "pair"]) (sc := defScope sCounts) (by decide +kernel))
            (fun _ _ _ _ _ => pg_name (i := 1) scCounts.nd rfl (Or.inl rfl)) (fun _ _ _ _ _ => pts_nil) (fun _ _ _ _ _ => pe_ix ix_tup (pv 1) pe_int (fun _ _ => rfl))) pa_nil))))), ?_⟩
    refine ⟨_, rfl, v, d, 1, 6, rfl, hd, fun H1 S1 => ⟨_, rfl, ?_⟩⟩
    unfold countsB at q
    cases h : tupOf 1 6 d with
    | false =>
      rw [h] at q
      exact if_t rfl (if_t rfl (q H1 S1))
    | true =>
      rw [h] at q
      obtain ⟨ds, rfl, l1, l6⟩ := tupOf_len h
      cases hd with
      | @tup a xs _ ha hx =>
        have hl := hx.len
        refine if_f rfl ⟨_, rfl, a, rfl, ⟨_, SqT.of (S1 _ _ ha)⟩, fun D nD => lc_all (K := K) (a := a) (xs := xs) (ds := ds) countB (S1 _ _ ha) (hx.same S1) (by omega) nD (fun i x d Hx hi hdi td S R hR => ⟨rfl, _, rfl, x, d, rfl, td, hR⟩) mono_name fun Hx S hD => ?_⟩
        have T2 := S1.trans S
        have q2 : ∀ H', Same H H' → Q (.bl (true && ds.all countB && (decide ((ds.map countOf).sum ≤ 400) && ascB (ds.map letterOf)))) H' := q
        refine ⟨D, ds.map countB, rfl, SqL.of hD, _, rfl, ?_⟩
        have eA : (ds.map countB).all id = ds.all countB := by
          rw [List.all_map]
          rfl
        rw [eA]
        cases h2 : ds.all countB with
        | false =>
          rw [h2] at q2
          exact if_t rfl (q2 Hx T2)
        | true =>
          rw [h2] at q2
          have hall := List.all_eq_true.mp h2
          have q3 : ∀ H', Same H H' → Q (.bl (decide ((ds.map countOf).sum ≤ 400) && ascB (ds.map letterOf))) H' := q2
          -- each item is a pair of a text and an int
          have item : ∀ (i : Nat) (x : V) (Hy : Hp), xs[i]? = some x → Same H Hy → ∃ (b : Addr) (d : PyData) (s : Str) (n : Int), x = .ref b ∧ ds[i]? = some d ∧ d = .tuple [.str s, .int n] ∧ s.length ≤ 6 ∧ Hy b = some (.tup [.str s, .int n]) := by
            intro i x Hy hi S'
            obtain ⟨d, hdi, td⟩ := hx.get hi
            obtain ⟨d0, n, rfl, hn, _, _⟩ := count_cases (hall d (List.mem_of_getElem? hdi))
            obtain ⟨s, rfl, hs⟩ := name_str hn
            cases td with
            | @tup b ys _ hb hy =>
              cases hy with
              | cons e0 t0 =>
                cases t0 with
                | cons e1 t1 =>
                  cases t1
                  cases e0
                  cases e1
                  exact ⟨b, _, s, n, rfl, hdi, rfl, hs, S' _ _ hb⟩
          refine if_f rfl ⟨_, rfl, a, rfl, ⟨_, SqT.of (T2 _ _ ha)⟩, fun D2 nD2 => lc_vals (K := K) (a := a) (xs := xs) (fun i => V.int (countOf (ds.getD i .none))) (T2 _ _ ha) (by omega) nD2 (fun i x Hy hi S' R hR => ?_) mono_name fun Hy S' hD2 => ?_⟩
          · obtain ⟨b, d, s, n, rfl, hdi, rfl, _, hb⟩ := item i x Hy hi (T2.trans S')
            have g0 : countOf (ds.getD i .none) = n := by rw [List.getD_eq_getElem?_getD, hdi]; rfl
            refine ⟨rfl, _, rfl, b, _, _, _, rfl, rfl, SqT.of hb, atI_nat (j := 1) rfl, ?_⟩
            have z := hR Hy (fun _ _ e => e)
            rw [g0] at z
            exact z
          · have T3 := T2.trans S'
            have eL : (List.range xs.length).map (fun i => V.int (countOf (ds.getD i .none))) = (ds.map countOf).map V.int := by
              rw [hl, List.map_map]
              exact range_map ds _ _ fun i d hdi => by rw [List.getD_eq_getElem?_getD, hdi]; rfl
            rw [eL] at hD2
            refine ⟨D2, ds.map countOf, rfl, SqL.of hD2, _, _, rfl, rfl, _, rfl, ?_⟩
            by_cases h4 : (ds.map countOf).sum ≤ 400
            · rw [decide_eq_true h4] at q3
              refine if_f (decide_eq_false (by omega)) ⟨_, rfl, a, rfl, ⟨_, SqT.of (T3 _ _ ha)⟩, fun D3 nD3 => lc_vals (K := K) (a := a) (xs := xs) (fun i => V.str (strOf (letterOf (ds.getD i .none)))) (T3 _ _ ha) (by omega) nD3 (fun i x Hz hi S2 R hR => ?_) mono_name fun Hz S2 hD3 => ?_⟩
              · obtain ⟨b, d, s, n, rfl, hdi, rfl, _, hb⟩ := item i x Hz hi (T3.trans S2)
                have g0 : strOf (letterOf (ds.getD i .none)) = s := by rw [List.getD_eq_getElem?_getD, hdi]; rfl
                refine ⟨rfl, _, rfl, b, _, _, _, rfl, rfl, SqT.of hb, atI_nat (j := 0) rfl, ?_⟩
                have z := hR Hz (fun _ _ e => e)
                rw [g0] at z
                exact z
              · have T4 := T3.trans S2
                have hstrs : ∀ d ∈ ds.map letterOf, ∃ s, d = .str s ∧ s.length ≤ 6 := by
                  intro d hd
                  obtain ⟨e, he, rfl⟩ := List.mem_map.mp hd
                  obtain ⟨d0, n, rfl, hn, _, _⟩ := count_cases (hall e he)
                  exact name_str hn
                have eS : (List.range xs.length).map (fun i => V.str (strOf (letterOf (ds.getD i .none)))) = (ds.map letterOf).map fun d => V.str (strOf d) := by
                  rw [hl, List.map_map]
                  exact range_map ds _ _ fun i d hdi => by rw [List.getD_eq_getElem?_getD, hdi]; rfl
                rw [eS] at hD3
                exact asc_lst hD3 (datAll_strs hstrs) (by rw [List.length_map, List.length_map]; omega) (asc_strs fun d hd => let ⟨s, e, _⟩ := hstrs d hd; ⟨s, e⟩) fun H5 S5 => q3 H5 (T4.trans S5)
            · rw [decide_eq_false h4] at q3
              exact if_t (decide_eq_true (by omega)) (q3 Hy T3)
theorem ok_word {f fC : Addr} {fd fdC : FuncData} (F : Fun K "is_word" "is_word" sWord f fd) (C : DefOk K mg "are_counts" sCounts ["counts"] fC fdC) (G : FnOk P w K mg base CX0 4 fC fdC ["counts"] (spP countsB)) : FnOk P w K mg base CX0 5 f fd ["space"] (spT 2 pWord) := by
  refine F.ok scWord (fun vs H Q E h => ?_) (fun cdv A outer s H vs Q E hr h => ?_)
  · obtain ⟨a, xs, ds, rfl, _⟩ := h
    rfl
  · obtain ⟨a, xs, ds, rfl, ha, hx, hl, q⟩ := h
    obtain ⟨x1, g1, td⟩ := hx.at (j := 1) (List.getElem?_eq_getElem (by omega))
    refine ⟨_, pss_one (ps_ret (pe_call G hr rfl C.g C.F.kp C.b .nil pass0 (pa_cons (pe_ix ix_tup (pv 0) pe_int (fun _ _ => rfl)) pa_nil))), ?_⟩
    refine ⟨_, rfl, a, _, _, _, rfl, rfl, SqT.of ha, atI_nat (j := 1) g1, x1, _, rfl, td, fun H' S => ?_⟩
    have q' := q H' S
    unfold pWord at q'
    rw [at_of (List.getElem?_eq_getElem (by omega))] at q'
    exact q'
end
end K3
set_option maxRecDepth 100000
set_option maxHeartbeats 4000000
namespace K3
open PySem PySem.Spec PyProof.Rows L2
def startOf (d : PyData) : PyData := .tuple [at0 (tupItems d) 0, at0 (tupItems d) 1]
def lettersOf (d : PyData) : List Str := (tupItems d).map fun m => strOf (at0 (tupItems m) 1)
def movesB (d : PyData) : Bool := tupOf 0 48 d && (tupItems d).all moveB && (ascB ((tupItems d).map startOf) && decide ((S2.cnt (lettersOf d) (lettersOf d).length : Int) ≤ 6))
def autoB (d : PyData) : Bool := tupOf 2 2 d && (movesB (at0 (tupItems d) 0) && statesB (at0 (tupItems d) 1))
def pString (ds : List PyData) : Bool := btw 0 60 (at0 ds 2) && autoB (at0 ds 1)
abbrev sMoves : Stmt := top 27
abbrev sAuto : Stmt := top 26
abbrev sString : Stmt := top 52
theorem move_cases {d : PyData} (h : moveB d = true) : ∃ (s : Int) (l : Str) (r : Int), d = .tuple [.int s, .str l, .int r] ∧ 0 ≤ s ∧ s ≤ 7 ∧ 0 ≤ r ∧ r ≤ 7 ∧ nameB (.str l) = true ∧ l.length ≤ 6 := by
  unfold moveB at h
  rw [Bool.and_eq_true, Bool.and_eq_true, Bool.and_eq_true] at h
  obtain ⟨ds, rfl, l1, l2⟩ := tupOf_len h.1
  match ds, (show ds.length = 3 by omega), h with
  | [d0, d1, d2], _, h =>
    obtain ⟨s, e0, s0, s7⟩ := btw_int (show btw 0 7 d0 = true from h.2.1)
    obtain ⟨r, e2, r0, r7⟩ := btw_int (show btw 0 7 d2 = true from h.2.2.2)
    have hn : nameB d1 = true := h.2.2.1
    obtain ⟨l, e1, hl⟩ := name_str hn
    subst e0 e1 e2
    exact ⟨s, l, r, rfl, s0, s7, r0, r7, hn, hl⟩
theorem datAll_of {H : Hp} : ∀ {ts : List V} {es : List PyData}, ts.length = es.length → (∀ (k : Nat) (y : V), ts[k]? = some y → ∃ d : PyData, es[k]? = some d ∧ Dat H y d) → DatAll H ts es
  | [], [], _, _ => .nil
  | y :: ts, e :: es, hl, h => by
    obtain ⟨d, hd, td⟩ := h 0 y rfl
    have hd' : e = d := Option.some.inj hd
    subst hd'
    exact .cons td (datAll_of (by simpa using hl) fun k z hz => h (k + 1) z hz)
theorem asc_starts {ds : List PyData} (h : ∀ d ∈ ds, moveB d = true) : AscOk (ds.map startOf) := fun i hi => by
  rw [List.length_map] at hi
  have g : ∀ j, j < ds.length → ∃ s l, (ds.map startOf).getD j .none = .tuple [.int s, .str l] := fun j hj => by
    obtain ⟨s, l, r, e, _⟩ := move_cases (h ds[j] (List.getElem_mem hj))
    refine ⟨s, l, ?_⟩
    rw [List.getD_eq_getElem?_getD, List.getElem?_map, List.getElem?_eq_getElem hj, e]
    rfl
  obtain ⟨s1, l1, e1⟩ := g i (by omega)
  obtain ⟨s2, l2, e2⟩ := g (i + 1) hi
  rw [e1, e2]
  exact ⟨by simp [PySem.W.alike, PySem.W.alikeAll], by simp, by simp [PyData.depth, PyData.depthAll]⟩
section
variable {P : Program} {w : World} {K : PySem.W.Frag} {mg : Str → Option Value} {base : Heap}
theorem scMoves : FnScope ["moves", "letters", "starts", "move"] ["moves"] (defScope sMoves) := ⟨rfl, rfl, rfl, by decide +kernel, rfl, by decide +kernel, by decide +kernel⟩
theorem scAuto : FnScope ["value", "moves", "accepting"] ["value"] (defScope sAuto) := ⟨rfl, rfl, rfl, by decide +kernel, rfl, by decide +kernel, by decide +kernel⟩
theorem scString : FnScope ["space", "automaton", "n"] ["space"] (defScope sString) := ⟨rfl, rfl, rfl, by decide +kernel, rfl, by decide +kernel, by decide +kernel⟩
theorem ok_moves {f fM : Addr} {fd fdM : FuncData} (F : Fun K "are_moves" "are_moves" sMoves f fd) (Y : Pre P w K mg base) (M : DefOk K mg "is_move" sIsMove ["move"] fM fdM) (GM : FnOk P w K mg base CX0 4 fM fdM ["move"] (spP moveB)) : FnOk P w K mg base CX0 5 f fd ["moves"] (spP movesB) := by
  obtain ⟨t, z⟩ := Y.z.moves
  obtain ⟨t2, z2⟩ := Y.z.letters
  refine F.ok scMoves (fun vs H Q E h => ?_) (fun cdv A outer s H vs Q E hr h => ?_)
  · obtain ⟨v, d, rfl, _⟩ := h
    rfl
  · obtain ⟨v, d, rfl, hd, q⟩ := h
    have hr1 : Room 1 _ := hr.mono (by decide)
    refine ⟨_, pss_cons (ps_if (PW.pt (pw_or (pt_not (pt_val (pe_call Y.GT hr1 rfl Y.T.g Y.T.F.kp Y.T.b .nil pass0 (pa_cons (pv 0) (pa_cons pe_int (pa_cons (pe_glob (v := .int 48) rfl z ⟨_, rfl⟩) pa_nil))))))
          (pw_or1 (pt_not (pt_val (pe_callB (cr_all rfl) (by rfl) Y.nm.all boot_all (pa_cons (pe_lc (own := [("move", 3)]) (g := gName 3) (tt := tYes) rfl scMoves.nd (pi_tup (pv 0)) (blkOk_by (N := ["moves", "letters", "starts", "move"]) (sc := defScope sMoves) (by decide +kernel))
            (fun _ _ _ _ _ => pg_name (i := 3) scMoves.nd rfl (Or.inl rfl)) (fun _ _ _ _ _ => pts_nil) (fun _ _ _ _ _ => pe_call GM hr rfl M.g M.F.kp M.b .nil pass0 (pa_cons (pv 3) pa_nil))) pa_nil))))))) (pss_one (ps_ret pe_bl)) pss_nil)
      (pss_cons (ps_setLc (i := 1) (own := [("move", 3)]) (g := gName 3) (tt := tYes) (te := tOp (rIxT K) (tVar 3) (tC (.int 1))) rfl scMoves.nd rfl rfl (sw_true rfl rfl rfl (by decide +kernel)) (pi_tup (pv 0)) (blkOk_by (N := ["moves", "letters", "starts", "move"]) (sc := defScope sMoves) (by decide +kernel))
            (fun _ _ _ _ _ => pg_name (i := 3) scMoves.nd rfl (Or.inl rfl)) (fun _ _ _ _ _ => pts_nil) (fun _ _ _ _ _ => pe_ix ix_tup (pv 3) pe_int (fun _ _ => rfl)))
      (pss_cons (ps_setLc (i := 2) (own := [("move", 3)]) (g := gName 3) (tt := tYes) (te := tTup (tCons (tOp (rIxT K) (tVar 3) (tC (.int 0))) (tCons (tOp (rIxT K) (tVar 3) (tC (.int 1))) tNil))) rfl scMoves.nd rfl rfl (sw_true rfl rfl rfl (by decide +kernel)) (pi_tup (pv 0)) (blkOk_by (N := ["moves", "letters", "starts", "move"]) (sc := defScope sMoves) (by decide +kernel))
            (fun _ _ _ _ _ => pg_name (i := 3) scMoves.nd rfl (Or.inl rfl)) (fun _ _ _ _ _ => pts_nil) (fun _ _ _ _ _ => pe_tup (pa_cons (pe_ix ix_tup (pv 3) pe_int (fun _ _ => rfl)) (pa_cons (pe_ix ix_tup (pv 3) pe_int (fun _ _ => rfl)) pa_nil))))
      (pss_one (ps_ret (pe_and (pe_call Y.GA hr1 rfl Y.A.g Y.A.F.kp Y.A.b .nil pass0 (pa_cons (pv 2) pa_nil)) (pe_one (pe_cmpR op_le (pe_cnt rfl rfl Y.nm.len rfl Y.nm.set (pv 1)) (pe_glob (v := .int 6) rfl z2 ⟨_, rfl⟩) (nomark _)))))))), ?_⟩
    refine ⟨_, rfl, v, d, 0, 48, rfl, hd, fun H1 S1 => ⟨_, rfl, ?_⟩⟩
    unfold movesB at q
    cases h : tupOf 0 48 d with
    | false =>
      rw [h] at q
      exact if_t rfl (if_t rfl (q H1 S1))
    | true =>
      rw [h] at q
      obtain ⟨ds, rfl, l1, l6⟩ := tupOf_len h
      cases hd with
      | @tup a xs _ ha hx =>
        have hl := hx.len
        refine if_f rfl ⟨_, rfl, a, rfl, ⟨_, SqT.of (S1 _ _ ha)⟩, fun D nD => lc_all (K := K) (a := a) (xs := xs) (ds := ds) moveB (S1 _ _ ha) (hx.same S1) (by omega) nD (fun i x d Hx hi hdi td S R hR => ⟨rfl, _, rfl, x, d, rfl, td, hR⟩) mono_name fun Hx S hD => ?_⟩
        have T2 := S1.trans S
        have q2 : ∀ H', Same H H' → Q (.bl (true && ds.all moveB && (ascB (ds.map startOf) && decide ((S2.cnt (lettersOf (.tuple ds)) (lettersOf (.tuple ds)).length : Int) ≤ 6)))) H' := q
        refine ⟨D, ds.map moveB, rfl, SqL.of hD, _, rfl, ?_⟩
        have eA : (ds.map moveB).all id = ds.all moveB := by
          rw [List.all_map]
          rfl
        rw [eA]
        cases h2 : ds.all moveB with
        | false =>
          rw [h2] at q2
          exact if_t rfl (q2 Hx T2)
        | true =>
          rw [h2] at q2
          have hall := List.all_eq_true.mp h2
          have q3 : ∀ H', Same H H' → Q (.bl (ascB (ds.map startOf) && decide ((S2.cnt (lettersOf (.tuple ds)) (lettersOf (.tuple ds)).length : Int) ≤ 6))) H' := q2
          have item : ∀ (i : Nat) (x : V) (Hy : Hp), xs[i]? = some x → Same H Hy → ∃ (b : Addr) (s : Int) (l : Str) (r : Int), x = .ref b ∧ ds[i]? = some (.tuple [.int s, .str l, .int r]) ∧ l.length ≤ 6 ∧ Hy b = some (.tup [.int s, .str l, .int r]) := by
            intro i x Hy hi S'
            obtain ⟨d, hdi, td⟩ := hx.get hi
            obtain ⟨s, l, r, rfl, _, _, _, _, _, hll⟩ := move_cases (hall d (List.mem_of_getElem? hdi))
            cases td with
            | @tup b ys _ hb hy =>
              cases hy with
              | cons e0 t0 =>
                cases t0 with
                | cons e1 t1 =>
                  cases t1 with
                  | cons e2 t2 =>
                    cases t2
                    cases e0
                    cases e1
                    cases e2
                    exact ⟨b, s, l, r, rfl, hdi, hll, S' _ _ hb⟩
          refine if_f rfl ⟨_, rfl, a, rfl, ⟨_, SqT.of (T2 _ _ ha)⟩, fun D2 nD2 => lc_vals (K := K) (a := a) (xs := xs) (fun i => V.str (strOf (at0 (tupItems (ds.getD i .none)) 1))) (T2 _ _ ha) (by omega) nD2 (fun i x Hy hi S' R hR => ?_) mono_name fun Hy S' hD2 => ?_⟩
          · obtain ⟨b, s, l, r, rfl, hdi, _, hb⟩ := item i x Hy hi (T2.trans S')
            have g0 : strOf (at0 (tupItems (ds.getD i .none)) 1) = l := by rw [List.getD_eq_getElem?_getD, hdi]; rfl
            refine ⟨rfl, _, rfl, b, _, _, _, rfl, rfl, SqT.of hb, atI_nat (j := 1) rfl, ?_⟩
            have z := hR Hy (fun _ _ e => e)
            rw [g0] at z
            exact z
          · have T3 := T2.trans S'
            have eL : (List.range xs.length).map (fun i => V.str (strOf (at0 (tupItems (ds.getD i .none)) 1))) = (lettersOf (.tuple ds)).map V.str := by
              rw [hl]
              show _ = (ds.map fun m => strOf (at0 (tupItems m) 1)).map V.str
              rw [List.map_map]
              exact range_map ds _ _ fun i d hdi => by rw [List.getD_eq_getElem?_getD, hdi]; rfl
            rw [eL] at hD2
            have hll : (lettersOf (.tuple ds)).length = ds.length := List.length_map _
            refine ⟨_, rfl, a, rfl, ⟨_, SqT.of (T3 _ _ ha)⟩, fun D3 nD3 => lc_tup (K := K) (a := a) (xs := xs) (fun j Hz => Same Hy Hz ∧ ∃ ts : List V, Hz D3 = some (.lst ts) ∧ ts.length = j ∧ ∀ (k : Nat) (y : V), ts[k]? = some y → ∃ (T : Addr) (s : Int) (l : Str) (r : Int), y = .ref T ∧ T ≠ D3 ∧ l.length ≤ 6 ∧ ds[k]? = some (.tuple [.int s, .str l, .int r]) ∧ Hz T = some (.tup [.int s, .str l]))
              ⟨same_new nD3, [], upd_same, rfl, fun k y e => by cases e⟩ (fun j Hz _ ⟨S, _⟩ => SqT.of (S _ _ (T3 _ _ ha))) ?_ ?_⟩
            · rintro i x Hz hi ⟨S2, ts, hD3, htl, hts⟩
              obtain ⟨b, s, l, r, rfl, hdi, hll6, hb⟩ := item i x Hz hi (T3.trans S2)
              have hi' : i < xs.length := (List.getElem?_eq_some_iff.mp hi).1
              refine ⟨rfl, _, rfl, b, _, _, _, rfl, rfl, SqT.of hb, atI_nat (j := 0) rfl, _, rfl, b, _, _, _, rfl, rfl, SqT.of hb, atI_nat (j := 1) rfl, (by show 2 ≤ sizeLine; decide), fun U nU => ?_⟩
              have SU := same_new (o := HO.tup [.int s, .str l]) nU
              have UD : U ≠ D3 := fun e => by
                rw [e, hD3] at nU
                cases nU
              refine ⟨ts, SU _ _ hD3, by rw [sizeLine_eq]; omega, grow nD3 (S2.trans SU), _, upd_same, by rw [List.length_append, htl]; rfl, fun k y hk => ?_⟩
              by_cases hkl : k < ts.length
              · rw [List.getElem?_append_left hkl] at hk
                obtain ⟨T', s', l', r', h1, h2, h3, h4, h5⟩ := hts k y hk
                exact ⟨T', s', l', r', h1, h2, h3, h4, by rw [upd_ne h2]; exact SU _ _ h5⟩
              · have ek : k = ts.length := by
                  have w := (List.getElem?_eq_some_iff.mp hk).1
                  rw [List.length_append] at w
                  have : ([V.ref U] : List V).length = 1 := rfl
                  omega
                subst ek
                rw [List.getElem?_append_right (Nat.le_refl _), Nat.sub_self] at hk
                have hy : V.ref U = y := Option.some.inj hk
                exact ⟨U, s, l, r, hy.symm, UD, hll6, by rw [htl]; exact hdi, by rw [upd_ne UD, upd_same]⟩
            · rintro Hz ⟨S2, ts, hD3, htl, hts⟩
              have T4 := T3.trans S2
              have dat : DatAll Hz ts (ds.map startOf) := datAll_of (by rw [htl, hl, List.length_map]) fun k y hk => by
                obtain ⟨T', s', l', r', rfl, _, h3, h4, h5⟩ := hts k y hk
                refine ⟨startOf (.tuple [.int s', .str l', .int r']), by rw [List.getElem?_map, h4]; rfl, ?_⟩
                exact .tup h5 (.cons (.int s') (.cons (.str l' (by omega)) .nil))
              refine ⟨_, rfl, asc_lst hD3 dat (by omega) (asc_starts hall) fun H5 S5 => ⟨_, rfl, ?_⟩⟩
              have q5 := q3 H5 (T4.trans S5)
              cases h5 : ascB (ds.map startOf) with
              | false =>
                rw [h5] at q5
                exact if_f rfl q5
              | true =>
                rw [h5] at q5
                exact if_t rfl ⟨_, rfl, D2, lettersOf (.tuple ds), rfl, SqL.of (S5 _ _ (S2 _ _ hD2)), by omega, _, _, rfl, rfl, q5⟩
theorem ok_auto {f fM fS : Addr} {fd fdM fdS : FuncData} (F : Fun K "is_automaton" "is_automaton" sAuto f fd) (Y : Pre P w K mg base) (M : DefOk K mg "are_moves" sMoves ["moves"] fM fdM) (GM : FnOk P w K mg base CX0 5 fM fdM ["moves"] (spP movesB))
    (S : DefOk K mg "are_states" sAreStates ["value"] fS fdS) (GS : FnOk P w K mg base CX0 4 fS fdS ["value"] (spP statesB)) : FnOk P w K mg base CX0 6 f fd ["value"] (spP autoB) := by
  refine F.ok scAuto (fun vs H Q E h => ?_) (fun cdv A outer s H vs Q E hr h => ?_)
  · obtain ⟨v, d, rfl, _⟩ := h
    rfl
  · obtain ⟨v, d, rfl, hd, q⟩ := h
    have hr1 : Room 1 _ := hr.mono (by decide)
    have hr4 : Room 4 _ := hr.mono (by decide)
    refine ⟨_, pss_cons (ps_if (pt_not (pt_val (pe_call Y.GT hr1 rfl Y.T.g Y.T.F.kp Y.T.b .nil pass0 (pa_cons (pv 0) (pa_cons pe_int (pa_cons pe_int pa_nil)))))) (pss_one (ps_ret pe_bl)) pss_nil)
      (pss_cons (ps_asg (pv 0) (pg_tup rfl (pgs_cons (pg_name (i := 1) scAuto.nd rfl (Or.inl rfl)) (pgs_cons (pg_name (i := 2) scAuto.nd rfl (Or.inl rfl)) pgs_nil))))
      (pss_one (ps_ret (pe_and (pe_call GM hr rfl M.g M.F.kp M.b .nil pass0 (pa_cons (pv 1) pa_nil)) (pe_one (pe_call GS hr4 rfl S.g S.F.kp S.b .nil pass0 (pa_cons (pv 2) pa_nil))))))), ?_⟩
    refine ⟨_, rfl, v, d, 2, 2, rfl, hd, fun H1 S1 => ⟨_, rfl, ?_⟩⟩
    unfold autoB at q
    cases h : tupOf 2 2 d with
    | false =>
      rw [h] at q
      exact if_t rfl (q H1 S1)
    | true =>
      rw [h] at q
      obtain ⟨ds, rfl, l1, l2⟩ := tupOf_len h
      have hl : ds.length = 2 := by omega
      cases hd with
      | @tup a xs _ ha hx =>
       match ds, hl, hx with
       | [d0, d1], _, .cons (v := x0) c0 (.cons (v := x1) c1 .nil) =>
        refine if_f rfl ⟨_, rfl, a, _, rfl, SqT.of (S1 _ _ ha), rfl, _, _, rfl, _, _, rfl, rfl, ?_⟩
        refine ⟨_, rfl, x0, d0, rfl, c0.same S1, fun H2 S2 => ⟨_, rfl, ?_⟩⟩
        have T2 := S1.trans S2
        have q2 : ∀ H', Same H H' → Q (.bl (true && (movesB d0 && statesB d1))) H' := q
        cases h2 : movesB d0 with
        | false =>
          rw [h2] at q2
          exact if_f rfl (q2 H2 T2)
        | true =>
          rw [h2] at q2
          exact if_t rfl ⟨_, rfl, x1, d1, rfl, c1.same T2, fun H3 S3 => q2 H3 (T2.trans S3)⟩
theorem ok_string {f fA : Addr} {fd fdA : FuncData} (F : Fun K "is_string" "is_string" sString f fd) (Y : Pre P w K mg base) (A' : DefOk K mg "is_automaton" sAuto ["value"] fA fdA) (GA : FnOk P w K mg base CX0 6 fA fdA ["value"] (spP autoB)) : FnOk P w K mg base CX0 7 f fd ["space"] (spT 3 pString) := by
  obtain ⟨t, z⟩ := Y.z.steps
  refine F.ok scString (fun vs H Q E h => ?_) (fun cdv A outer s H vs Q E hr h => ?_)
  · obtain ⟨a, xs, ds, rfl, _⟩ := h
    rfl
  · obtain ⟨a, xs, ds, rfl, ha, hx, hl, q⟩ := h
    have hr2 : Room 2 _ := hr.mono (by decide)
    match ds, hl, hx with
    | [d0, d1, d2], _, .cons (v := x0) t0 (.cons (v := x1) t1 (.cons (v := x2) t2 .nil)) =>
      refine ⟨_, pss_cons (ps_asg (pe_slice sl_tupA (pv 0) (po_some pe_int) po_none) (pg_tup rfl (pgs_cons (pg_name (i := 1) scString.nd rfl (Or.inl rfl)) (pgs_cons (pg_name (i := 2) scString.nd rfl (Or.inl rfl)) pgs_nil))))
        (pss_one (ps_ret (pe_and (pe_call Y.GB hr2 rfl Y.B.g Y.B.F.kp Y.B.b .nil pass0 (pa_cons (pv 2) (pa_cons pe_int (pa_cons (pe_glob (v := .int 60) rfl z ⟨_, rfl⟩) pa_nil))))
          (pe_one (pe_call GA hr rfl A'.g A'.F.kp A'.b .nil pass0 (pa_cons (pv 1) pa_nil)))))), ?_⟩
      refine ⟨_, rfl, 1, rfl, ?_⟩
      dsimp only [tNoPart]
      refine slK_of 1 ha fun b Hb Sb hb => ?_
      refine ⟨b, [x1, x2], rfl, SqT.of hb, rfl, _, _, rfl, _, _, rfl, rfl, ?_⟩
      refine ⟨_, rfl, x2, d2, 0, 60, rfl, t2.same Sb, fun H' S => ⟨_, rfl, ?_⟩⟩
      have T2 := Sb.trans S
      have q2 : ∀ H', Same H H' → Q (.bl (btw 0 60 d2 && autoB d1)) H' := q
      cases h : btw 0 60 d2 with
      | false =>
        rw [h] at q2
        exact if_f rfl (q2 H' T2)
      | true =>
        rw [h] at q2
        exact if_t rfl ⟨_, rfl, x1, d1, rfl, t1.same T2, fun H3 S3 => q2 H3 (T2.trans S3)⟩
end
end K3
set_option maxRecDepth 100000
set_option maxHeartbeats 4000000
namespace L2
open PySem PySem.Spec PyProof.Rows
section
variable {X : Cx} {d : Addr} {es : Array DictEntry} {n : Nat}
/-- d[key], d a written dict of the module -/
def rIxKd (K : PySem.W.Frag) (d : Addr) : R2 := fun x y H Q => ∃ (z : Str) (u0 : Value) (v0 : V), x = .ref d ∧ y = .str z ∧ PySem.W.nsIn K d z = some (some u0) ∧ RelV v0 u0 ∧ Q v0 H
theorem ix_kd (D : KDict X.K X.w d es n) : IxR X (rIxKd X.K d) := by
  intro value slice pins s σ H x y v u Q I rx ry h hs
  have h2 := op_item_kd D pins s σ H x y v u Q I rx ry h
  obtain ⟨z, u0, v0, rfl, _⟩ := h
  cases rx
  exact tail_any (kd_type D I) PySem.F.slot_dict_getitem.lookup h2 hs
def rNotInKd (K : PySem.W.Frag) (d : Addr) : R2 := fun x y H Q => ∃ (z : Str) (r : Option Value), x = .str z ∧ y = .ref d ∧ PySem.W.nsIn K d z = some r ∧ Q (.bl (!r.isSome)) H
theorem op_notInKd (D : KDict X.K X.w d es n) : OpR X (compareOp .NotIn) (rNotInKd X.K d) := op_notIn_kd D
end
end L2
namespace K3
open PySem PySem.Spec PyProof.Rows L2
/-- one kind of space: its length, its check -/
structure Kind where
  len : Nat
  f : Addr
  p : List PyData → Bool
def kindP (T : Str → Option Kind) : PyData → Bool
  | .tuple (.str z :: ds) => match T z with
    | some c => decide (ds.length + 1 = c.len) && c.p (.str z :: ds)
    | none => false
  | _ => false
abbrev sPart : Stmt := top 41
section
variable {P : Program} {w : World} {K : PySem.W.Frag} {mg : Str → Option Value} {base : Heap}
theorem scPart : FnScope ["value", "kind", "check"] ["value"] (defScope sPart) := ⟨rfl, rfl, rfl, by decide +kernel, rfl, by decide +kernel, by decide +kernel⟩
/-- what is known of the two dicts: S tells the promise of the def at an address -/
structure Kinds (P : Program) (w : World) (K : PySem.W.Frag) (mg : Str → Option Value) (base : Heap) (T : Str → Option Kind) (dL dC : Addr) (S : Addr → Option Sp) : Prop where
  gL : mg "LENGTHS" = some (.ref dL)
  gC : mg "CHECKS" = some (.ref dC)
  kL : ∃ es n, KDict K w dL es n
  kC : ∃ es n, KDict K w dC es n
  L0 : ∀ z, T z = none → PySem.W.nsIn K dL z = some none
  L1 : ∀ z c, T z = some c → ∃ t, PySem.W.nsIn K dL z = some (some (.int c.len t))
  C1 : ∀ z c, T z = some c → PySem.W.nsIn K dC z = some (some (.ref c.f))
  held : ∀ f sp, S f = some sp → Held P w K mg base 10 f sp
  at_ : ∀ z c, T z = some c → ∃ sp, S c.f = some sp ∧ ∀ (H : Hp) (a : Addr) (xs : List V) (ds : List PyData) (Q : VK), H a = some (.tup xs) → DatAll H xs ds → ds.length = c.len → ds.head? = some (.str z) → (∀ H', Same H H' → Q (.bl (c.p ds)) H') → sp [.ref a] H Q E0
theorem ok_part {f : Addr} {fd : FuncData} {T : Str → Option Kind} {dL dC : Addr} {S : Addr → Option Sp} (F : Fun K "is_part" "is_part" sPart f fd) (Y : Pre P w K mg base) (Z : Kinds P w K mg base T dL dC S) : FnOk P w K mg base CX0 11 f fd ["value"] (spP (kindP T)) := by
  obtain ⟨esL, nL, DL⟩ := Z.kL
  obtain ⟨esC, nC, DC⟩ := Z.kC
  refine F.ok scPart (fun vs H Q E h => ?_) (fun cdv A outer s H vs Q E hr h => ?_)
  · obtain ⟨v, d, rfl, _⟩ := h
    rfl
  · obtain ⟨v, d, rfl, hd, q⟩ := h
    have q0 := q H fun _ _ e => e
    refine ⟨_, pss_cons (ps_if (PW.pt (pw_or (pt_not (pt_val (pe_callB call_isi (by rfl) Y.nm.isinstance boot_isinstance (pa_cons (pv 0) (pa_cons (pe_bltn (v := .ty "tuple") rfl Y.nm.tuple (by decide +kernel) rfl) pa_nil)))))
          (pw_or1 (pt_cmpR op_eq (pe_callB call_len_seq (by rfl) Y.nm.len PySem.boot_len (pa_cons (pv 0) pa_nil)) pe_int (nomark _))))) (pss_one (ps_ret pe_bl)) pss_nil)
      (pss_cons (ps_set (i := 1) scPart.nd rfl (Or.inl rfl) (pe_ix ix_tup (pv 0) pe_int (fun _ _ => rfl)))
      (pss_cons (ps_if (PW.pt (pw_or (pt_not (pt_val (pe_callB call_isi (by rfl) Y.nm.isinstance boot_isinstance (pa_cons (pv 1) (pa_cons (pe_bltn (v := .ty "str") rfl Y.nm.str (by decide +kernel) rfl) pa_nil)))))
          (pw_or (pt_cmpR (op_notInKd (X := _) DL) (pv 1) (pe_glob (v := .ref dL) rfl Z.gL rfl) rfl)
          (pw_or1 (pt_cmpR op_ne (pe_callB call_len_seq (by rfl) Y.nm.len PySem.boot_len (pa_cons (pv 0) pa_nil)) (pe_ix (ix_kd (X := _) DL) (pe_glob (v := .ref dL) rfl Z.gL rfl) (pv 1) (fun _ _ => rfl)) (nomark _)))))) (pss_one (ps_ret pe_bl)) pss_nil)
      (pss_cons (ps_set (i := 2) scPart.nd rfl (Or.inl rfl) (pe_ix (ix_kd (X := _) DC) (pe_glob (v := .ref dC) rfl Z.gC rfl) (pv 1) (fun _ _ => rfl)))
      (pss_one (ps_ret (pe_callA (i := 2) (S := S) Z.held hr rfl (Or.inl rfl) (pa_cons (pv 0) pa_nil))))))), ?_⟩
    refine ⟨_, rfl, v, .ty "tuple", _, _, _, rfl, .ty _, hd.ty, kit_tuple _ d, _, rfl, ?_⟩
    cases d with
    | tuple ds =>
      cases hd with
      | @tup a xs _ ha hx =>
        have hl := hx.len
        refine if_f rfl ⟨_, rfl, a, xs, rfl, .inr (SqT.of ha), rfl, _, rfl, ?_⟩
        cases hx with
        | nil => exact if_t rfl q0
        | @cons x0 xs' d0 ds' c0 cs =>
          have ne : decide (V.int (((x0 :: xs').length : Nat) : Int) = V.int 0) = false := decide_eq_false fun e => by
            injection e with e
            rw [List.length_cons] at e
            omega
          refine if_f ne ⟨_, rfl, a, _, _, x0, rfl, rfl, SqT.of ha, atI_nat (j := 0) rfl, _, rfl, x0, .ty "str", _, _, _, rfl, .ty _, c0.ty, kit_str _ d0, _, rfl, ?_⟩
          cases d0 with
          | str z =>
            cases c0 with
            | str _ hz =>
              have eP : kindP T (.tuple (.str z :: ds')) = match T z with
                | some c => decide (ds'.length + 1 = c.len) && c.p (.str z :: ds')
                | none => false := rfl
              rw [eP] at q q0
              cases hT : T z with
              | none =>
                rw [hT] at q0
                exact if_f rfl ⟨_, rfl, z, none, rfl, rfl, Z.L0 z hT, _, rfl, if_t rfl (if_t rfl q0)⟩
              | some c =>
                rw [hT] at q
                have q1 : ∀ H', Same H H' → Q (.bl (decide (ds'.length + 1 = c.len) && c.p (.str z :: ds'))) H' := q
                obtain ⟨t, gL⟩ := Z.L1 z c hT
                have gC := Z.C1 z c hT
                refine if_f rfl ⟨_, rfl, z, _, rfl, rfl, gL, _, rfl, if_f rfl ⟨_, rfl, a, .str z :: xs', rfl, .inr (SqT.of ha), _, rfl, z, .int c.len t, .int c.len, rfl, rfl, gL, ⟨_, rfl⟩, rfl, _, rfl, ?_⟩⟩
                have el : (V.str z :: xs').length = ds'.length + 1 := hl
                by_cases hlen : ds'.length + 1 = c.len
                · have e1 : decide (V.int (((V.str z :: xs').length : Nat) : Int) = V.int (c.len : Int)) = true := decide_eq_true (by rw [el, hlen])
                  rw [decide_eq_true hlen] at q1
                  rw [e1]
                  refine if_f rfl ⟨_, rfl, z, .ref c.f, .ref c.f, rfl, rfl, gC, rfl, ?_⟩
                  obtain ⟨sp, hS, hsp⟩ := Z.at_ z c hT
                  exact ⟨c.f, sp, rfl, hS, _, rfl, hsp H a (.str z :: xs') (.str z :: ds') _ ha (.cons (.str z hz) cs) hlen rfl q1⟩
                · have e1 : decide (V.int (((V.str z :: xs').length : Nat) : Int) = V.int (c.len : Int)) = false := decide_eq_false fun e => by
                    injection e with e
                    rw [el] at e
                    exact hlen (by omega)
                  rw [decide_eq_false hlen] at q1
                  rw [e1]
                  exact if_t rfl (q1 H fun _ _ e => e)
          | int i => exact if_t rfl (if_t rfl q0)
          | bool b => exact if_t rfl (if_t rfl q0)
          | none => exact if_t rfl (if_t rfl q0)
          | list l => exact if_t rfl (if_t rfl q0)
          | tuple l => exact if_t rfl (if_t rfl q0)
          | dict l => exact if_t rfl (if_t rfl q0)
    | int i => exact if_t rfl (if_t rfl q0)
    | bool b => exact if_t rfl (if_t rfl q0)
    | none => exact if_t rfl (if_t rfl q0)
    | str x => exact if_t rfl (if_t rfl q0)
    | list l => exact if_t rfl (if_t rfl q0)
    | dict kv => exact if_t rfl (if_t rfl q0)
end
end K3
set_option maxRecDepth 100000
set_option maxHeartbeats 4000000
namespace K3
open PySem PySem.Spec PyProof.Rows L2
/-! ### decorated spaces; the kinds by their words; what stands in a space -/
def pDeco (ds : List PyData) : Bool := countsB (at0 ds 1) && tupOf ((tupItems (at0 ds 1)).length : Int) ((tupItems (at0 ds 1)).length : Int) (at0 ds 2)
def kinds : List (Str × Nat × (List PyData → Bool)) := [("subset", 3, pSubset), ("word", 2, pWord), ("arrangement", 2, pArr), ("walk", 6, pWalk), ("cycle", 2, pCycle), ("matching", 2, pMatching), ("permutation", 3, pPerm), ("tree", 2, pTree), ("string", 3, pString),
  ("product", 2, pRow), ("choice", 2, pRow), ("power", 3, pPower), ("decorated", 3, pDeco)]
/-- a part, whatever the nested spaces in it are -/
def partB : PyData → Bool
  | .tuple (.str z :: ds) => match kinds.lookup z with
    | some c => decide (ds.length + 1 = c.1) && c.2 (.str z :: ds)
    | none => false
  | _ => false
def nestedD (d : PyData) : List PyData :=
  if eqStr "product" (at0 (tupItems d) 0) = true then tupItems (at0 (tupItems d) 1) else if eqStr "choice" (at0 (tupItems d) 0) = true then tupItems (at0 (tupItems d) 1)
  else if eqStr "power" (at0 (tupItems d) 0) = true then [at0 (tupItems d) 2] else if eqStr "decorated" (at0 (tupItems d) 0) = true then tupItems (at0 (tupItems d) 2) else []
abbrev sDeco : Stmt := top 55
abbrev sNested : Stmt := top 40
abbrev sWell : Stmt := top 39
def spNested : Sp := fun vs H Q _ => ∃ (v : V) (d : PyData) (G : Hp), vs = [v] ∧ Same G H ∧ Dat G v d ∧ partB d = true ∧ ∀ (p : Addr) (ys : List V) (H' : Hp), Same H H' → H' p = some (.tup ys) → DatAll G ys (nestedD d) → Q (.ref p) H'
/-- the shape of a part by its word -/
theorem part_cases {d : PyData} (h : partB d = true) : ∃ (z : Str) (ds : List PyData), d = .tuple (.str z :: ds) ∧ (z = "product" → ∃ es, ds = [.tuple es] ∧ es.length ≤ 6) ∧ (z = "choice" → ∃ es, ds = [.tuple es] ∧ es.length ≤ 6) ∧ (z = "power" → ∃ n e, ds = [n, e]) ∧ (z = "decorated" → ∃ c es, ds = [c, .tuple es] ∧ es.length ≤ 6) := by
  match d, h with
  | .tuple (.str z :: ds), h =>
    have h' : (match kinds.lookup z with
      | some c => decide (ds.length + 1 = c.1) && c.2 (.str z :: ds)
      | none => false) = true := h
    refine ⟨z, ds, rfl, fun e => ?_, fun e => ?_, fun e => ?_, fun e => ?_⟩
    · subst e
      have e2 : kinds.lookup ("product" : Str) = some (2, pRow) := by rfl
      rw [e2, Bool.and_eq_true] at h'
      match ds, of_decide_eq_true h'.1, h'.2 with
      | [d1], _, h2 =>
        obtain ⟨es, e, _, h6⟩ := tupOf_len (show tupOf 1 6 d1 = true from h2)
        exact ⟨es, by rw [e], by omega⟩
    · subst e
      have e2 : kinds.lookup ("choice" : Str) = some (2, pRow) := by rfl
      rw [e2, Bool.and_eq_true] at h'
      match ds, of_decide_eq_true h'.1, h'.2 with
      | [d1], _, h2 =>
        obtain ⟨es, e, _, h6⟩ := tupOf_len (show tupOf 1 6 d1 = true from h2)
        exact ⟨es, by rw [e], by omega⟩
    · subst e
      have e2 : kinds.lookup ("power" : Str) = some (3, pPower) := by rfl
      rw [e2, Bool.and_eq_true] at h'
      match ds, of_decide_eq_true h'.1 with
      | [d1, d2], _ => exact ⟨d1, d2, rfl⟩
    · subst e
      have e2 : kinds.lookup ("decorated" : Str) = some (3, pDeco) := by rfl
      rw [e2, Bool.and_eq_true] at h'
      match ds, of_decide_eq_true h'.1, h'.2 with
      | [d1, d2], _, h2 =>
        have h3 : (countsB d1 && tupOf ((tupItems d1).length : Int) ((tupItems d1).length : Int) d2) = true := h2
        rw [Bool.and_eq_true] at h3
        obtain ⟨es, e, _, hn⟩ := tupOf_len h3.2
        have hc := h3.1
        unfold countsB at hc
        rw [Bool.and_eq_true, Bool.and_eq_true] at hc
        obtain ⟨cs, ec, _, h6⟩ := tupOf_len hc.1.1
        have el : (tupItems d1).length = cs.length := by rw [ec]; rfl
        exact ⟨d1, es, by rw [e], by omega⟩
section
variable {P : Program} {w : World} {K : PySem.W.Frag} {mg : Str → Option Value} {base : Heap}
theorem scDeco : FnScope ["space", "counts", "spaces"] ["space"] (defScope sDeco) := ⟨rfl, rfl, rfl, by decide +kernel, rfl, by decide +kernel, by decide +kernel⟩
theorem scNested : FnScope ["space", "kind"] ["space"] (defScope sNested) := ⟨rfl, rfl, rfl, by decide +kernel, rfl, by decide +kernel, by decide +kernel⟩
theorem ok_deco {f fC : Addr} {fd fdC : FuncData} (F : Fun K "is_decorated" "is_decorated" sDeco f fd) (Y : Pre P w K mg base) (C : DefOk K mg "are_counts" sCounts ["counts"] fC fdC) (G : FnOk P w K mg base CX0 4 fC fdC ["counts"] (spP countsB)) : FnOk P w K mg base CX0 5 f fd ["space"] (spT 3 pDeco) := by
  refine F.ok scDeco (fun vs H Q E h => ?_) (fun cdv A outer s H vs Q E hr h => ?_)
  · obtain ⟨a, xs, ds, rfl, _⟩ := h
    rfl
  · obtain ⟨a, xs, ds, rfl, ha, hx, hl, q⟩ := h
    have hr1 : Room 1 _ := hr.mono (by decide)
    match ds, hl, hx with
    | [d0, d1, d2], _, .cons (v := x0) t0 (.cons (v := x1) t1 (.cons (v := x2) t2 .nil)) =>
      refine ⟨_, pss_cons (ps_asg (pe_slice sl_tupA (pv 0) (po_some pe_int) po_none) (pg_tup rfl (pgs_cons (pg_name (i := 1) scDeco.nd rfl (Or.inl rfl)) (pgs_cons (pg_name (i := 2) scDeco.nd rfl (Or.inl rfl)) pgs_nil))))
        (pss_one (ps_ret (pe_and (pe_call G hr rfl C.g C.F.kp C.b .nil pass0 (pa_cons (pv 1) pa_nil))
          (pe_one (pe_call Y.GT hr1 rfl Y.T.g Y.T.F.kp Y.T.b .nil pass0 (pa_cons (pv 2) (pa_cons (pe_callB call_len_seq (by rfl) Y.nm.len PySem.boot_len (pa_cons (pv 1) pa_nil)) (pa_cons (pe_callB call_len_seq (by rfl) Y.nm.len PySem.boot_len (pa_cons (pv 1) pa_nil)) pa_nil)))))))), ?_⟩
      refine ⟨_, rfl, 1, rfl, ?_⟩
      dsimp only [tNoPart]
      refine slK_of 1 ha fun b Hb Sb hb => ?_
      refine ⟨b, [x1, x2], rfl, SqT.of hb, rfl, _, _, rfl, _, _, rfl, rfl, ?_⟩
      refine ⟨_, rfl, x1, d1, rfl, t1.same Sb, fun H' S => ⟨_, rfl, ?_⟩⟩
      have T2 := Sb.trans S
      have q2 : ∀ H', Same H H' → Q (.bl (countsB d1 && tupOf ((tupItems d1).length : Int) ((tupItems d1).length : Int) d2)) H' := q
      cases h : countsB d1 with
      | false =>
        rw [h] at q2
        exact if_f rfl (q2 H' T2)
      | true =>
        rw [h] at q2
        have h1 := h
        unfold countsB at h1
        rw [Bool.and_eq_true, Bool.and_eq_true] at h1
        obtain ⟨es, rfl, _⟩ := tupOf_len h1.1.1
        cases t1 with
        | @tup a1 ys _ ha1 hy =>
          have el := hy.len
          refine if_t rfl ⟨_, rfl, _, rfl, a1, ys, rfl, .inr (SqT.of (T2 _ _ ha1)), _, rfl, a1, ys, rfl, .inr (SqT.of (T2 _ _ ha1)), x2, d2, _, _, rfl, t2.same T2, fun H3 S3 => ?_⟩
          have q3 : Q (.bl (tupOf (es.length : Int) (es.length : Int) d2)) H3 := q2 H3 (T2.trans S3)
          rw [el]
          exact q3
theorem ok_nested {f : Addr} {fd : FuncData} (F : Fun K "nested_spaces" "nested_spaces" sNested f fd) : FnOk P w K mg base CX0 1 f fd ["space"] spNested := by
  refine F.ok scNested (fun vs H Q E h => ?_) (fun cdv A outer s H vs Q E hr h => ?_)
  · obtain ⟨v, d, G, rfl, _⟩ := h
    rfl
  · obtain ⟨v, d, G, rfl, S0, hd, hp, q⟩ := h
    have hu0 := hr.units0
    have hu1 := hu_of hr
    refine ⟨_, pss_cons (ps_set (i := 1) scNested.nd rfl (Or.inl rfl) (pe_ix ix_tup (pv 0) pe_int (fun _ _ => rfl)))
      (pss_cons (ps_if (pt_cmpR (op_inStrs hu1) (pv 1) (pe_tup (pa_cons pe_str (pa_cons pe_str pa_nil))) rfl) (pss_one (ps_ret (pe_ix ix_tup (pv 0) pe_int (fun _ _ => rfl)))) pss_nil)
      (pss_cons (ps_if (pt_cmpR (op_eqStr hu0) (pv 1) pe_str (nomark _)) (pss_one (ps_ret (pe_tup (pa_cons (pe_ix ix_tup (pv 0) pe_int (fun _ _ => rfl)) pa_nil)))) pss_nil)
      (pss_cons (ps_if (pt_cmpR (op_eqStr hu0) (pv 1) pe_str (nomark _)) (pss_one (ps_ret (pe_ix ix_tup (pv 0) pe_int (fun _ _ => rfl)))) pss_nil)
      (pss_one (ps_ret (pe_tup pa_nil)))))), ?_⟩
    obtain ⟨z, ds, rfl, k1, k2, k3, k4⟩ := part_cases hp
    cases hd with
    | @tup a xs _ ha hx =>
      cases hx with
      | @cons x0 xs' _ _ c0 cs =>
        cases c0 with
        | str _ hz =>
          refine ⟨_, rfl, a, _, _, _, rfl, rfl, SqT.of (S0 _ _ ha), atI_nat (j := 0) rfl, _, rfl, (by show 2 ≤ sizeLine; decide), fun p np => ?_⟩
          have Sp := same_new (o := HO.tup [.str "product", .str "choice"]) np
          have hpp : upd H p (.tup [.str "product", .str "choice"]) p = some (.tup [.str "product", .str "choice"]) := upd_same
          generalize upd H p (.tup [.str "product", .str "choice"]) = H1 at Sp hpp ⊢
          refine ⟨.str z, p, ["product", "choice"], .str z hz, rfl, hpp, _, rfl, ?_⟩
          have eAny : (["product", "choice"] : List Str).any (fun y => eqStr y (.str z)) = ((z == "product") || (z == "choice")) := by
            rw [List.any_cons, List.any_cons, List.any_nil, Bool.or_false]
            rfl
          show (if (["product", "choice"] : List Str).any (fun y => eqStr y (.str z)) = true then _ else _)
          rw [eAny]
          have q1 : ∀ (p : Addr) (ys : List V) (H' : Hp), Same H H' → H' p = some (.tup ys) → DatAll G ys (if (z == "product") = true then tupItems (at0 (.str z :: ds) 1) else if (z == "choice") = true then tupItems (at0 (.str z :: ds) 1)
              else if (z == "power") = true then [at0 (.str z :: ds) 2] else if (z == "decorated") = true then tupItems (at0 (.str z :: ds) 2) else []) → Q (.ref p) H' := q
          cases b1 : (z == "product") with
          | true =>
            rw [b1] at q1
            obtain ⟨es, rfl, _⟩ := k1 (beq_iff_eq.mp b1)
            cases cs with
            | cons c1 c2 =>
              cases c2
              cases c1 with
              | @tup a1 ys _ ha1 hy =>
                exact if_t rfl ⟨_, rfl, a, _, _, _, rfl, rfl, SqT.of (Sp _ _ (S0 _ _ ha)), atI_nat (j := 1) rfl, q1 a1 ys H1 Sp (Sp _ _ (S0 _ _ ha1)) hy⟩
          | false =>
            rw [b1] at q1
            cases b2 : (z == "choice") with
            | true =>
              rw [b2] at q1
              obtain ⟨es, rfl, _⟩ := k2 (beq_iff_eq.mp b2)
              cases cs with
              | cons c1 c2 =>
                cases c2
                cases c1 with
                | @tup a1 ys _ ha1 hy =>
                  exact if_t rfl ⟨_, rfl, a, _, _, _, rfl, rfl, SqT.of (Sp _ _ (S0 _ _ ha)), atI_nat (j := 1) rfl, q1 a1 ys H1 Sp (Sp _ _ (S0 _ _ ha1)) hy⟩
            | false =>
              rw [b2] at q1
              refine if_f rfl ⟨_, rfl, .str z, "power", .str z hz, rfl, _, rfl, ?_⟩
              show (if (z == "power") = true then _ else _)
              cases b3 : (z == "power") with
              | true =>
                rw [b3] at q1
                obtain ⟨n, e, rfl⟩ := k3 (beq_iff_eq.mp b3)
                cases cs with
                | @cons y1 _ _ _ c1 c2 =>
                  cases c2 with
                  | @cons y2 _ _ _ c3 c4 =>
                    cases c4
                    refine if_t rfl ⟨_, rfl, a, _, _, _, rfl, rfl, SqT.of (Sp _ _ (S0 _ _ ha)), atI_nat (j := 2) rfl, (by show 1 ≤ sizeLine; decide), fun p2 np2 => ?_⟩
                    have S2 := Sp.trans (same_new (o := HO.tup [y2]) np2)
                    exact q1 p2 [y2] _ S2 upd_same (.cons c3 .nil)
              | false =>
                rw [b3] at q1
                refine if_f rfl ⟨_, rfl, .str z, "decorated", .str z hz, rfl, _, rfl, ?_⟩
                show (if (z == "decorated") = true then _ else _)
                cases b4 : (z == "decorated") with
                | true =>
                  rw [b4] at q1
                  obtain ⟨c, es, rfl, _⟩ := k4 (beq_iff_eq.mp b4)
                  cases cs with
                  | @cons y1 _ _ _ c1 c2 =>
                    cases c2 with
                    | @cons y2 _ _ _ c3 c4 =>
                      cases c4
                      cases c3 with
                      | @tup a1 ys _ ha1 hy =>
                        exact if_t rfl ⟨_, rfl, a, _, _, _, rfl, rfl, SqT.of (Sp _ _ (S0 _ _ ha)), atI_nat (j := 2) rfl, q1 a1 ys H1 Sp (Sp _ _ (S0 _ _ ha1)) hy⟩
                | false =>
                  rw [b4] at q1
                  refine if_f rfl ⟨(by show 0 ≤ sizeLine; decide), fun p2 np2 => ?_⟩
                  exact q1 p2 [] _ (Sp.trans (same_new np2)) upd_same .nil
end
end K3
set_option maxRecDepth 100000
set_option maxHeartbeats 8000000
namespace K3
open PySem PySem.Spec PyProof.Rows L2
theorem nested_len {d : PyData} (h : partB d = true) : (nestedD d).length ≤ 6 := by
  obtain ⟨z, ds, rfl, k1, k2, k3, k4⟩ := part_cases h
  show (if (z == "product") = true then tupItems (at0 (.str z :: ds) 1) else if (z == "choice") = true then tupItems (at0 (.str z :: ds) 1)
    else if (z == "power") = true then [at0 (.str z :: ds) 2] else if (z == "decorated") = true then tupItems (at0 (.str z :: ds) 2) else []).length ≤ 6
  split
  · rename_i e
    obtain ⟨es, rfl, h6⟩ := k1 (beq_iff_eq.mp e)
    exact h6
  · split
    · rename_i e
      obtain ⟨es, rfl, h6⟩ := k2 (beq_iff_eq.mp e)
      exact h6
    · split
      · show 1 ≤ 6
        decide
      · split
        · rename_i e
          obtain ⟨c, es, rfl, h6⟩ := k4 (beq_iff_eq.mp e)
          exact h6
        · show 0 ≤ 6
          decide
/-- level by level -/
def wfB : Nat → Nat → List PyData → Bool
  | 0, _, l => l.isEmpty
  | k + 1, p, l => if p + l.length > 40 then false else if l.all partB = false then false else wfB k (p + l.length) (l.flatMap nestedD)
def isWf (d : PyData) : Bool := wfB 6 0 [d]
/-- [p(x) for x in a list] -/
theorem lc_allL {K : PySem.W.Frag} {H : Hp} {a : Addr} {xs : List V} {ds : List PyData} {g : TG} {te : TE} {vs : List Nat} {σ : L2.St} {D : Addr} {Qd : Hp → Prop} (p : PyData → Bool) (ha : H a = some (.lst xs)) (hx : DatAll H xs ds) (hz : xs.length ≤ 1000000) (nD : H D = none)
    (hs : ∀ (i : Nat) (x : V) (d : PyData) (Hx : Hp), xs[i]? = some x → ds[i]? = some d → Dat Hx x d → Same H Hx → ∀ R : VK, (∀ H', Same Hx H' → R (.bl (p d)) H') → g x (wipe σ vs) Hx fun σ2 H2 => wipe σ2 vs = wipe σ vs ∧ te σ2 H2 R)
    (mono : ∀ (x : V) (Hx : Hp) (A B : L2.St → Hp → Prop), (∀ σ2 H2, A σ2 H2 → B σ2 H2) → g x (wipe σ vs) Hx A → g x (wipe σ vs) Hx B)
    (hd : ∀ Hx, Same H Hx → Hx D = some (.lst ((ds.map p).map V.bl)) → Qd Hx) :
    ∃ W : Nat → Nat → Hp → Prop, (∃ m, W 0 m (upd H D (.lst []))) ∧ ∀ i m H, W i m H →
      ((Itl K a).stop i H ∧ Qd H) ∨ ((Itl K a).go i H ∧ ∃ Nx : Hp → Prop, (∀ H', Nx H' → ∃ m', m' < m ∧ W (i + 1) m' H') ∧ ∀ x H', (Itl K a).yld i H x H' → g x (wipe σ vs) H' fun σ2 H2 => wipe σ2 vs = wipe σ vs ∧ tYes σ2 H2 fun b H3 =>
        if b = true then te σ2 H3 fun y H4 => ∃ acc, H4 D = some (.lst acc) ∧ acc.length < sizeLine ∧ Nx (upd H4 D (.lst (acc ++ [y]))) else Nx H3) := by
  refine lc_list (K := K) (a := a) (xs := xs) (fun j Hx => Same H Hx ∧ Hx D = some (.lst (((ds.take j).map p).map V.bl))) ⟨same_new nD, upd_same⟩ (fun j Hx _ ⟨S, _⟩ => SqL.of (S _ _ ha)) ?_ ?_
  · rintro i x Hx hi ⟨S, hD⟩
    obtain ⟨d, hdi, td⟩ := hx.get hi
    refine mono x Hx _ _ (fun σ2 H2 h => ⟨h.1, ?_⟩) (hs i x d Hx hi hdi (td.same S) S (fun y H4 => ∃ acc, H4 D = some (.lst acc) ∧ acc.length < sizeLine ∧ Same H (upd H4 D (.lst (acc ++ [y]))) ∧ upd H4 D (.lst (acc ++ [y])) D = some (.lst (((ds.take (i + 1)).map p).map V.bl))) fun H' S' => ?_)
    · dsimp only [tYes]
      first
        | exact if_t rfl h.2
        | exact h.2
    · have hi' : i < xs.length := (List.getElem?_eq_some_iff.mp hi).1
      refine ⟨_, S' _ _ hD, ?_, grow nD (S.trans S'), ?_⟩
      · rw [List.length_map, List.length_map, List.length_take, sizeLine_eq]
        omega
      · rw [upd_same, List.take_add_one, hdi]
        simp
  · rintro Hx ⟨S, hD⟩
    refine hd Hx S ?_
    rw [hD, hx.len, List.take_of_length_le (Nat.le_refl _)]
theorem flatD_len {m : Nat} {f : PyData → List PyData} : ∀ {l : List PyData}, (∀ d ∈ l, (f d).length ≤ m) → (l.flatMap f).length ≤ l.length * m
  | [], _ => by simp
  | a :: l, h => by
    have h1 := h a (by simp)
    have h2 := flatD_len (l := l) fun d hd => h d (by simp [hd])
    rw [List.flatMap_cons, List.length_append, List.length_cons, Nat.succ_mul]
    omega
theorem datAll_append {H : Hp} : ∀ {xs ys : List V} {ds es : List PyData}, DatAll H xs ds → DatAll H ys es → DatAll H (xs ++ ys) (ds ++ es)
  | _, _, _, _, .nil, t => t
  | _, _, _, _, .cons h t, u => .cons h (datAll_append t u)
section
variable {P : Program} {w : World} {K : PySem.W.Frag} {mg : Str → Option Value} {base : Heap}
theorem scWell : FnScope ["value", "level", "parts", "_", "part", "inner"] ["value"] (defScope sWell) := ⟨rfl, rfl, rfl, by decide +kernel, rfl, by decide +kernel, by decide +kernel⟩
theorem ok_well {f fP fN : Addr} {fd fdP fdN : FuncData} (F : Fun K "is_well_formed" "is_well_formed" sWell f fd) (Y : Pre P w K mg base) (Pt : DefOk K mg "is_part" sPart ["value"] fP fdP) (GP : FnOk P w K mg base CX0 11 fP fdP ["value"] (spP partB))
    (N : DefOk K mg "nested_spaces" sNested ["space"] fN fdN) (GN : FnOk P w K mg base CX0 1 fN fdN ["space"] spNested) : FnOk P w K mg base CX0 12 f fd ["value"] (spP isWf) := by
  obtain ⟨t, z⟩ := Y.z.deepest
  obtain ⟨t2, z2⟩ := Y.z.parts
  refine F.ok scWell (fun vs H Q E h => ?_) (fun cdv A outer s H vs Q E hr h => ?_)
  · obtain ⟨v, d, rfl, _⟩ := h
    rfl
  · obtain ⟨v, d, rfl, hd, q⟩ := h
    have hr1 : Room 1 _ := hr.mono (by decide)
    refine ⟨_, pss_cons (ps_set (i := 1) scWell.nd rfl (Or.inl rfl) (pe_lst (pa_cons (pv 0) pa_nil)))
      (pss_cons (ps_set (i := 2) scWell.nd rfl (Or.inl rfl) pe_int)
      (pss_cons (ps_for PassesOwn.never rfl (pi_range1 rfl Y.nm.range (pa_cons (pe_glob (v := .int 6) rfl z ⟨_, rfl⟩) pa_nil)) (pg_name (i := 3) scWell.nd rfl (Or.inl rfl))
        (pss_cons (ps_set (i := 2) scWell.nd rfl (Or.inl rfl) (pe_op op_add (pv 2) (pe_callB call_len_seq (by rfl) Y.nm.len PySem.boot_len (pa_cons (pv 1) pa_nil))))
        (pss_cons (ps_if (PW.pt (pw_or (pt_cmpR op_gt (pv 2) (pe_glob (v := .int 40) rfl z2 ⟨_, rfl⟩) (nomark _)) (pw_or1 (pt_not (pt_val (pe_callB (cr_all rfl) (by rfl) Y.nm.all boot_all (pa_cons (pe_lc (own := [("part", 4)]) (g := gName 4) (tt := tYes) rfl scWell.nd (pi_list (pv 1)) (blkOk_by (N := ["value", "level", "parts", "_", "part", "inner"]) (sc := defScope sWell) (by decide +kernel))
            (fun _ _ _ _ _ => pg_name (i := 4) scWell.nd rfl (Or.inl rfl)) (fun _ _ _ _ _ => pts_nil) (fun _ _ _ _ _ => pe_call GP hr rfl Pt.g Pt.F.kp Pt.b .nil pass0 (pa_cons (pv 4) pa_nil))) pa_nil))))))) (pss_one (ps_ret pe_bl)) pss_nil)
        (pss_one (ps_setLc2 (i := 1) (own := [("part", 4), ("inner", 5)]) (vs1 := [5]) (g := gName 4) (tt := tYes) (wi1 := iTup K (tCall spNested [] E0 (tCons (tVar 4) tNil))) (g1 := gName 5) (tt1 := tYes) rfl scWell.nd rfl rfl (sw_true rfl rfl rfl (by decide +kernel)) (pi_list (pv 1)) (blkOk_by (N := ["value", "level", "parts", "_", "part", "inner"]) (sc := defScope sWell) (by decide +kernel)) (by decide)
            (fun _ _ _ _ _ => pg_name (i := 4) scWell.nd rfl (Or.inl rfl)) (fun _ _ _ _ _ => pts_nil) (fun _ _ _ _ _ => pi_tup (pe_call GN hr1 rfl N.g N.F.kp N.b .nil pass0 (pa_cons (pv 4) pa_nil)))
            (fun _ _ _ _ _ => pg_name (i := 5) scWell.nd rfl (Or.inl rfl)) (fun _ _ _ _ _ => pts_nil) (fun _ _ _ _ _ => pv 5))))))
      (pss_one (ps_ret (pe_cmpR op_eq (pe_callB call_len_seq (by rfl) Y.nm.len PySem.boot_len (pa_cons (pv 1) pa_nil)) pe_int (nomark _)))))), ?_⟩
    refine ⟨_, rfl, (by show 1 ≤ sizeLine; decide), fun l0 n0 => ?_⟩
    have S0 := same_new (o := HO.lst [v]) n0
    have e0 : upd H l0 (.lst [v]) l0 = some (.lst [v]) := upd_same
    generalize upd H l0 (.lst [v]) = H0 at S0 e0 ⊢
    refine ⟨6, rfl, by decide, by decide, for_range (n := 6) (fun i σ Hx => ∃ (lv : Addr) (c : Int) (x3 : Option V) (p : Nat) (xs : List V) (l : List PyData), σ = [some v, some (.ref lv), some (.int c), x3, none, none] ∧ c = (p : Int) ∧ p ≤ 40 ∧ xs.length ≤ 240 ∧ Hx lv = some (.lst xs) ∧ DatAll H xs l ∧ Same H Hx ∧ wfB (6 - i) p l = isWf d)
      ⟨l0, 0, none, 0, [v], [d], rfl, rfl, by decide, (by show 1 ≤ 240; decide), e0, .cons hd .nil, S0, rfl⟩ ?_ ?_⟩
    · rintro i σ H1 hi ⟨lv, c, x3, p, xs, l, rfl, rfl, hp40, hx240, hlv, hx, S1, hw⟩
      have hxl := hx.len
      obtain ⟨k, hk⟩ : ∃ k, 6 - i = k + 1 := ⟨5 - i, by omega⟩
      have hk' : 6 - (i + 1) = k := by omega
      rw [hk, wfB] at hw
      refine ⟨_, rfl, _, rfl, lv, xs, rfl, .inl (SqL.of hlv), _, _, rfl, rfl, ?_⟩
      refine ⟨_, rfl, _, _, rfl, rfl, _, rfl, ?_⟩
      by_cases h40 : p + l.length > 40
      · rw [if_pos h40] at hw
        have q1 := q H1 S1
        rw [← hw] at q1
        exact if_t (decide_eq_true (by omega)) (if_t rfl q1)
      · rw [if_neg h40] at hw
        refine if_f (decide_eq_false (by omega)) ⟨_, rfl, lv, rfl, ⟨_, SqL.of hlv⟩, fun D nD => lc_allL (K := K) (a := lv) (xs := xs) (ds := l) partB hlv (hx.same S1) (by omega) nD (fun i x d Hx hi hdi td S R hR => ⟨rfl, _, rfl, x, d, rfl, td, hR⟩) mono_name fun H2 S2 hD => ?_⟩
        refine ⟨D, l.map partB, rfl, SqL.of hD, _, rfl, ?_⟩
        have eA : (l.map partB).all id = l.all partB := by
          rw [List.all_map]
          rfl
        rw [eA]
        have T2 := S1.trans S2
        cases hall : l.all partB with
        | false =>
          rw [if_pos hall] at hw
          have q1 := q H2 T2
          rw [← hw] at q1
          exact if_t rfl q1
        | true =>
          rw [if_neg (by rw [hall]; decide)] at hw
          have hparts := List.all_eq_true.mp hall
          have hlv2 := S2 _ _ hlv
          have f6 := flatD_len (f := nestedD) (l := l) fun e he => nested_len (hparts e he)
          refine if_f rfl ⟨_, rfl, lv, rfl, ⟨_, SqL.of hlv2⟩, fun E2 nE => in_it (walk_list (K := K) (a := lv) (xs := xs)) (fun i Hx => Same H2 Hx ∧ ∃ ys : List V, Hx E2 = some (.lst ys) ∧ DatAll H ys ((l.take i).flatMap nestedD))
            ⟨same_new nE, [], upd_same, by rw [List.take_zero]; exact .nil⟩ (fun i Hx _ ⟨S, _⟩ => SqL.of (S _ _ hlv2)) ?_ ?_⟩
          · rintro j x Hx Hy hj ⟨S3, ys, hE, hys⟩ ⟨rfl, hxj⟩
            obtain ⟨e, hej, te⟩ := hx.get hxj
            have T3 := T2.trans S3
            refine ⟨rfl, _, rfl, x, e, H, rfl, T3, te, hparts e (List.mem_of_getElem? hej), fun pp zs H4 S4 hpp hzs => ?_⟩
            have hE4 := S4 _ _ hE
            have pE : pp ≠ E2 := fun z => by
              rw [z, hE4] at hpp
              cases hpp
            have ft : (l.take (j + 1)).flatMap nestedD = (l.take j).flatMap nestedD ++ nestedD e := by
              rw [List.take_add_one, hej]
              simp
            have le : ((l.take (j + 1)).flatMap nestedD).length ≤ (l.flatMap nestedD).length := by
              have zz : l.flatMap nestedD = (l.take (j + 1)).flatMap nestedD ++ (l.drop (j + 1)).flatMap nestedD := by rw [← List.flatMap_append, List.take_append_drop]
              rw [zz, List.length_append]
              omega
            rw [ft, List.length_append] at le
            have lys := hys.len
            have lzs := hzs.len
            refine ⟨pp, rfl, ⟨_, SqT.of hpp⟩, in_it (walk_tup (K := K) (a := pp) (xs := zs)) (fun m Hz => Same H2 Hz ∧ Hz pp = some (.tup zs) ∧ Hz E2 = some (.lst (ys ++ zs.take m)))
              ⟨S3.trans S4, hpp, by rw [List.take_zero, List.append_nil]; exact hE4⟩ (fun m Hz _ ⟨_, h, _⟩ => SqT.of h) ?_ ?_⟩
            · rintro m y Hz Hz' hm ⟨S5, hp5, hE5⟩ ⟨rfl, hy⟩
              refine ⟨rfl, _, rfl, _, hE5, ?_, grow nE S5, ?_, ?_⟩
              · rw [List.length_append, List.length_take, sizeLine_eq]
                omega
              · rw [upd_ne pE]
                exact hp5
              · rw [upd_same, List.take_add_one, hy]
                simp
            · rintro Hz ⟨S5, hp5, hE5⟩
              refine ⟨S5, ys ++ zs, by rw [hE5, List.take_length], ?_⟩
              rw [ft]
              exact datAll_append hys hzs
          · rintro Hx ⟨S3, ys, hE, hys⟩
            rw [hxl, List.take_length] at hys
            have lys := hys.len
            refine ⟨E2, _, _, p + l.length, ys, l.flatMap nestedD, rfl, ?_, by omega, by omega, hE, hys, T2.trans S3, by rw [hk']; exact hw⟩
            rw [hxl]
            omega
    · rintro σ H1 ⟨lv, c, x3, p, xs, l, rfl, rfl, _, _, hlv, hx, S1, hw⟩
      refine ⟨_, rfl, lv, xs, rfl, .inl (SqL.of hlv), rfl, ?_⟩
      have q1 := q H1 S1
      rw [← hw] at q1
      have e1 : decide (V.int ((xs.length : Nat) : Int) = V.int 0) = l.isEmpty := by
        rw [dec_int, hx.len]
        cases l with
        | nil => rfl
        | cons a r =>
          refine decide_eq_false fun e => ?_
          rw [List.length_cons] at e
          omega
      rw [e1]
      exact q1
end
end K3
set_option maxRecDepth 100000
set_option maxHeartbeats 4000000
namespace K3
open PySem PySem.Spec PyProof.Rows L2
/-! ### powers, by squares: a base up to 400, an exponent up to 4,000 -/
abbrev sRaise : Stmt := top 3
theorem pow_small {b k : Nat} (hb : b ≤ 400) (h : k ≤ 4096) : ((b : Int) ^ k).natAbs < 2 ^ 36865 := by
  have e : ((b : Int) ^ k).natAbs = b ^ k := by rw [Int.natAbs_pow]; rfl
  rw [e]
  have h1 : b ^ k ≤ 512 ^ k := Nat.pow_le_pow_left (by omega) k
  have h2 : 512 ^ k = 2 ^ (9 * k) := by rw [Nat.pow_mul]
  have h3 : 2 ^ (9 * k) < 2 ^ 36865 := Nat.pow_lt_pow_right (by decide) (by omega)
  exact Nat.lt_of_le_of_lt h1 (by rw [h2]; exact h3)
def spRaise : Sp := fun vs H Q _ => ∃ b e : Nat, vs = [.int b, .int e] ∧ b ≤ 400 ∧ e ≤ 4000 ∧ Q (.int ((b ^ e : Nat) : Int)) H
section
variable {P : Program} {w : World} {K : PySem.W.Frag} {mg : Str → Option Value} {base : Heap}
theorem scRaise : FnScope ["base", "exponent", "result", "square", "rest"] ["base", "exponent"] (defScope sRaise) := ⟨rfl, rfl, rfl, by decide +kernel, rfl, by decide +kernel, by decide +kernel⟩
theorem ok_raise {f : Addr} {fd : FuncData} (F : Fun K "raise_to" "raise_to" sRaise f fd) : FnOk P w K mg base CX0 1 f fd ["base", "exponent"] spRaise := by
  refine F.ok scRaise (fun vs H Q E h => ?_) (fun cdv A outer s H vs Q E hr h => ?_)
  · obtain ⟨b, e, rfl, _⟩ := h
    rfl
  · obtain ⟨b, e, rfl, hb, he, q⟩ := h
    refine ⟨_, pss_cons (ps_set (i := 2) scRaise.nd rfl (Or.inl rfl) pe_int)
      (pss_cons (ps_set (i := 3) scRaise.nd rfl (Or.inl rfl) (pv 0))
      (pss_cons (ps_set (i := 4) scRaise.nd rfl (Or.inl rfl) (pv 1))
      (pss_cons (ps_while PassesOwn.never (pt_cmpR op_gt (pv 4) pe_int (nomark _))
        (pss_cons (ps_if (pt_cmpR op_eq (pe_op op_odd (pv 4) pe_int) pe_int (nomark _)) (pss_one (ps_set (i := 2) scRaise.nd rfl (Or.inl rfl) (pe_op op_mulW (pv 2) (pv 3)))) pss_nil)
        (pss_cons (ps_set (i := 3) scRaise.nd rfl (Or.inl rfl) (pe_op op_mulW (pv 3) (pv 3)))
        (pss_one (ps_set (i := 4) scRaise.nd rfl (Or.inl rfl) (pe_op op_fdiv (pv 4) pe_int))))))
      (pss_one (ps_ret (pv 2)))))), ?_⟩
    have start : [some (V.int b), some (V.int e), some (V.int 1), some (V.int b), some (V.int e)] = [some (V.int b), some (V.int e), some (V.int ((b : Int) ^ (e % 2 ^ 0))), some (V.int ((b : Int) ^ 2 ^ 0)), some (V.int ((e / 2 ^ 0 : Nat) : Int))] := by
      rw [Nat.pow_zero, Nat.mod_one, Nat.div_one, Int.pow_zero, Int.pow_succ, Int.pow_zero, Int.one_mul]
    refine ⟨_, rfl, _, rfl, while_by (fun σ Hx => ∃ i : Nat, i ≤ 12 ∧ Hx = H ∧ σ = [some (.int b), some (.int e), some (.int ((b : Int) ^ (e % 2 ^ i))), some (.int ((b : Int) ^ 2 ^ i)), some (.int ((e / 2 ^ i : Nat) : Int))])
      (fun σ _ => match σ with | [_, _, _, _, some (.int n)] => n.toNat | _ => 0) ⟨0, by decide, rfl, start⟩ ?_ ?_⟩
    · rintro σ Hx ⟨i, hi, rfl, rfl⟩
      refine ⟨_, rfl, _, _, rfl, rfl, _, rfl, ?_⟩
      by_cases pos : 0 < e / 2 ^ i
      · have hpw : 0 < 2 ^ i := Nat.pow_pos (by decide)
        have a4 : 2 ^ i ≤ e := by
          rcases Nat.lt_or_ge e (2 ^ i) with z | z
          · rw [Nat.div_eq_of_lt z] at pos
            omega
          · exact z
        have i12 : i < 12 := by
          rcases Nat.lt_or_ge i 12 with z | z
          · exact z
          · have y : 2 ^ 12 ≤ 2 ^ i := Nat.pow_le_pow_right (by decide) z
            omega
        have a5 : e % 2 ^ i ≤ 4000 := Nat.le_trans (Nat.mod_le _ _) he
        have am : e % 2 ^ (i + 1) = e % 2 ^ i + 2 ^ i * (e / 2 ^ i % 2) := Nat.mod_pow_succ
        have a3 : e / 2 ^ i / 2 = e / 2 ^ (i + 1) := by rw [Nat.div_div_eq_div_mul, Nat.pow_succ]
        have e2 : ((b : Int) ^ 2 ^ i * (b : Int) ^ 2 ^ i) = (b : Int) ^ 2 ^ (i + 1) := by rw [← Int.pow_add, Nat.pow_succ, Nat.mul_two]
        have e3 : ((e / 2 ^ i : Nat) : Int) / 2 = ((e / 2 ^ (i + 1) : Nat) : Int) := by
          rw [← a3]
          rfl
        have sq : CMulW ((b : Int) ^ 2 ^ i) ((b : Int) ^ 2 ^ i) := wide_mul (pow_small hb (by omega)) (pow_small hb (by omega)) (by decide) (by decide) (by decide)
        have mu : ∀ x : Int, x = ((e / 2 ^ (i + 1) : Nat) : Int) → x.toNat < ((e / 2 ^ i : Nat) : Int).toNat := fun x hx => by
          rw [hx, ← a3, Int.toNat_natCast, Int.toNat_natCast]
          omega
        refine if_t (decide_eq_true (by omega)) ⟨_, rfl, e / 2 ^ i, rfl, rfl, rfl, _, rfl, ?_⟩
        by_cases odd : e / 2 ^ i % 2 = 1
        · have e1 : ((b : Int) ^ (e % 2 ^ i) * (b : Int) ^ 2 ^ i) = (b : Int) ^ (e % 2 ^ (i + 1)) := by rw [← Int.pow_add, am, odd, Nat.mul_one]
          refine if_t (decide_eq_true (by rw [odd]; rfl)) ⟨_, rfl, _, rfl, _, _, rfl, rfl, wide_mul (pow_small hb (by omega)) (pow_small hb (by omega)) (by decide) (by decide) (by decide), ?_⟩
          refine ⟨_, rfl, _, rfl, _, _, rfl, rfl, sq, _, rfl, _, _, rfl, rfl, ⟨by decide, by decide⟩, ⟨i + 1, by omega, rfl, ?_⟩, mu _ e3⟩
          show [some (V.int b), some (V.int e), some (V.int ((b : Int) ^ (e % 2 ^ i) * (b : Int) ^ 2 ^ i)), some (V.int ((b : Int) ^ 2 ^ i * (b : Int) ^ 2 ^ i)), some (V.int (((e / 2 ^ i : Nat) : Int) / 2))] = _
          rw [e1, e2, e3]
        · have even : e / 2 ^ i % 2 = 0 := by omega
          have e1 : e % 2 ^ (i + 1) = e % 2 ^ i := by rw [am, even, Nat.mul_zero, Nat.add_zero]
          refine if_f (decide_eq_false fun z => odd ?_) ?_
          · injection z with z
            omega
          refine ⟨_, rfl, _, rfl, _, _, rfl, rfl, sq, _, rfl, _, _, rfl, rfl, ⟨by decide, by decide⟩, ⟨i + 1, by omega, rfl, ?_⟩, mu _ e3⟩
          show [some (V.int b), some (V.int e), some (V.int ((b : Int) ^ (e % 2 ^ i))), some (V.int ((b : Int) ^ 2 ^ i * (b : Int) ^ 2 ^ i)), some (V.int (((e / 2 ^ i : Nat) : Int) / 2))] = _
          rw [e1, e2, e3]
      · have z0 : e / 2 ^ i = 0 := Nat.le_zero.mp (Nat.not_lt.mp pos)
        have small : e % 2 ^ i = e := by
          rcases Nat.lt_or_ge e (2 ^ i) with z | z
          · exact Nat.mod_eq_of_lt z
          · exact absurd (Nat.div_pos z (Nat.pow_pos (by decide))) pos
        refine if_f (decide_eq_false (by rw [z0]; decide)) ⟨_, rfl, ?_⟩
        rw [small]
        have ee : ((b ^ e : Nat) : Int) = (b : Int) ^ e := Int.natCast_pow b e
        rw [ee] at q
        exact q
    · rintro σ Hx Q1 Q2 h ⟨v, hv, i, j, e1, e2, k, ek, hq⟩
      exact ⟨v, hv, i, j, e1, e2, k, ek, h _ _ hq⟩
end
end K3
set_option maxRecDepth 100000
set_option maxHeartbeats 4000000
namespace L2
open PySem PySem.Spec PyProof.Rows
section
variable {X : Cx}
/-- comb(a, b) -/
def rComb : List V → Hp → VK → Prop := fun xs H Q => ∃ a b : Nat, xs = [.int a, .int b] ∧ a ≤ 18000 ∧ Q (.int (PySem.W.mcComb a b)) H
theorem cr_comb : CallR X (.builtin "math.comb") rComb := by
  intro pins s σ H xs us Q I r h
  obtain ⟨a, b, rfl, ha, q⟩ := h
  obtain ⟨u1, u2, rfl, ⟨t1, rfl⟩, ⟨t2, rfl⟩⟩ := vals2 r
  exact call_function_meets PySem.W.MGF.kind_comb PySem.W.MGF.plain_comb PySem.W.MGF.entry_comb (PySem.W.MGF.args_comb _ _) (PySem.W.mc_gives_comb t1 t2 (by omega) (by omega) (by omega) (.inr (by omega))).meets ⟨.int (PySem.W.mcComb a b), H, I.tok _, ⟨_, rfl⟩, q⟩
/-- factorial(n) -/
def rFact : List V → Hp → VK → Prop := fun xs H Q => ∃ n : Nat, xs = [.int n] ∧ n ≤ 400 ∧ Q (.int (Builtin.Math.factorialNat n : Nat)) H
theorem fact_le : ∀ n : Nat, n ≤ 400 → Builtin.Math.factorialNat n ≤ 2 ^ (9 * n)
  | 0, _ => by decide
  | n + 1, h => by
    rw [PySem.W.mc_fac_succ]
    have z := fact_le n (by omega)
    have e : 2 ^ (9 * (n + 1)) = 2 ^ (9 * n) * 512 := by rw [Nat.mul_succ, Nat.pow_add]
    rw [e]
    exact Nat.mul_le_mul z (by omega)
theorem cr_fact : CallR X (.builtin "math.factorial") rFact := by
  intro pins s σ H xs us Q I r h
  obtain ⟨n, rfl, hn, q⟩ := h
  obtain ⟨u, rfl, ⟨t, rfl⟩⟩ := vals1 r
  have hs : (((Builtin.Math.factorialNat ((n : Nat) : Int).toNat : Nat) : Int)).natAbs.log2 < bitsLine := by
    rw [Int.toNat_natCast, Int.natAbs_natCast]
    have z : Builtin.Math.factorialNat n < 2 ^ 3601 := Nat.lt_of_le_of_lt (fact_le n hn) (Nat.pow_lt_pow_right (by decide) (by omega))
    have y : (Builtin.Math.factorialNat n).log2 < 3601 := PySem.Flt.log2_lt_of (by decide) z
    exact Nat.lt_of_lt_of_le y (by decide)
  refine PySem.W.mg_factorial (by show ¬ (n : Int) > 2 ^ 63 - 1; omega) (by omega) (by show ¬ (n : Int) > 20000; omega) hs ⟨.int (Builtin.Math.factorialNat n : Nat), H, I.tok _, ⟨_, by rw [Int.toNat_natCast]⟩, q⟩
end
end L2
namespace K3
open PySem PySem.Spec PyProof.Rows L2
/-! ### sizes of leaves without tables -/
/-- the size of a leaf that is well formed -/
def spSize (m : Nat) (p : List PyData → Bool) (sz : List PyData → Int) : Sp := fun vs H Q _ => ∃ (a : Addr) (xs : List V) (ds : List PyData), vs = [.ref a] ∧ H a = some (.tup xs) ∧ DatAll H xs ds ∧ ds.length = m ∧ p ds = true ∧ ∀ H', Same H H' → Q (.int (sz ds)) H'
abbrev sSubSize : Stmt := top 62
abbrev sCycSize : Stmt := top 67
abbrev sTreeSize : Stmt := top 70
def zSubset (ds : List PyData) : Int := PySem.W.mcComb (intOf (at0 ds 1)) (intOf (at0 ds 2))
def zCycle (ds : List PyData) : Int := (Builtin.Math.factorialNat (intOf (at0 ds 1) - 1).toNat : Nat)
def zTree (ds : List PyData) : Int := (((intOf (at0 ds 1)).toNat ^ ((intOf (at0 ds 1)).toNat - 2) : Nat) : Int)
section
variable {P : Program} {w : World} {K : PySem.W.Frag} {mg : Str → Option Value} {base : Heap}
theorem scSubSize : FnScope ["space", "n", "k"] ["space"] (defScope sSubSize) := ⟨rfl, rfl, rfl, by decide +kernel, rfl, by decide +kernel, by decide +kernel⟩
theorem scCycSize : FnScope ["space"] ["space"] (defScope sCycSize) := ⟨rfl, rfl, rfl, by decide +kernel, rfl, by decide +kernel, by decide +kernel⟩
theorem scTreeSize : FnScope ["space", "n"] ["space"] (defScope sTreeSize) := ⟨rfl, rfl, rfl, by decide +kernel, rfl, by decide +kernel, by decide +kernel⟩
theorem ok_subsize {f : Addr} {fd : FuncData} (F : Fun K "subset_size" "subset_size" sSubSize f fd) (c : mg "comb" = some (.builtin "math.comb")) : FnOk P w K mg base CX0 1 f fd ["space"] (spSize 3 pSubset zSubset) := by
  refine F.ok scSubSize (fun vs H Q E h => ?_) (fun cdv A outer s H vs Q E hr h => ?_)
  · obtain ⟨a, xs, ds, rfl, _⟩ := h
    rfl
  · obtain ⟨a, xs, ds, rfl, ha, hx, hl, hp, q⟩ := h
    match ds, hl, hx with
    | [d0, d1, d2], _, .cons (v := x0) t0 (.cons (v := x1) t1 (.cons (v := x2) t2 .nil)) =>
      have hp' : (btw 0 400 d1 && btw 0 (intOf d1) d2) = true := hp
      rw [Bool.and_eq_true] at hp'
      obtain ⟨n, rfl, n0, n4⟩ := btw_int hp'.1
      obtain ⟨k, rfl, k0, kn⟩ := btw_int hp'.2
      obtain rfl := dat_int t1
      obtain rfl := dat_int t2
      obtain ⟨n', rfl⟩ : ∃ m : Nat, n = m := ⟨n.toNat, by omega⟩
      obtain ⟨k', rfl⟩ : ∃ m : Nat, k = m := ⟨k.toNat, by omega⟩
      refine ⟨_, pss_cons (ps_asg (pe_slice sl_tupA (pv 0) (po_some pe_int) po_none) (pg_tup rfl (pgs_cons (pg_name (i := 1) scSubSize.nd rfl (Or.inl rfl)) (pgs_cons (pg_name (i := 2) scSubSize.nd rfl (Or.inl rfl)) pgs_nil))))
        (pss_one (ps_ret (pe_callBfun cr_comb rfl c (pa_cons (pv 1) (pa_cons (pv 2) pa_nil))))), ?_⟩
      refine ⟨_, rfl, 1, rfl, ?_⟩
      dsimp only [tNoPart]
      refine slK_of 1 ha fun b Hb Sb hb => ?_
      exact ⟨b, [.int n', .int k'], rfl, SqT.of hb, rfl, _, _, rfl, _, _, rfl, rfl, _, rfl, _, rfl, n', k', rfl, by omega, q Hb Sb⟩
theorem ok_cycsize {f : Addr} {fd : FuncData} (F : Fun K "cycle_size" "cycle_size" sCycSize f fd) (c : mg "factorial" = some (.builtin "math.factorial")) : FnOk P w K mg base CX0 1 f fd ["space"] (spSize 2 pCycle zCycle) := by
  refine F.ok scCycSize (fun vs H Q E h => ?_) (fun cdv A outer s H vs Q E hr h => ?_)
  · obtain ⟨a, xs, ds, rfl, _⟩ := h
    rfl
  · obtain ⟨a, xs, ds, rfl, ha, hx, hl, hp, q⟩ := h
    match ds, hl, hx with
    | [d0, d1], _, .cons (v := x0) t0 (.cons (v := x1) t1 .nil) =>
      obtain ⟨n, rfl, n0, n4⟩ := btw_int (show btw 1 400 d1 = true from hp)
      obtain rfl := dat_int t1
      obtain ⟨n', hn'⟩ : ∃ m : Nat, n - 1 = m := ⟨(n - 1).toNat, by omega⟩
      refine ⟨_, pss_one (ps_ret (pe_callBfun cr_fact rfl c (pa_cons (pe_op op_sub (pe_ix ix_tup (pv 0) pe_int (fun _ _ => rfl)) pe_int) pa_nil))), ?_⟩
      have q0 := q H fun _ _ e => e
      have ez : zCycle [d0, .int n] = (Builtin.Math.factorialNat n' : Nat) := by
        show ((Builtin.Math.factorialNat (n - 1).toNat : Nat) : Int) = _
        rw [hn', Int.toNat_natCast]
      rw [ez] at q0
      exact ⟨_, rfl, a, _, _, _, rfl, rfl, SqT.of ha, atI_nat (j := 1) rfl, _, _, rfl, rfl, n', (by show [V.int (n - 1)] = _; rw [hn']), by omega, q0⟩
theorem ok_treesize {f fR : Addr} {fd fdR : FuncData} (F : Fun K "tree_size" "tree_size" sTreeSize f fd) (m : mg "max" = none) (R : DefOk K mg "raise_to" sRaise ["base", "exponent"] fR fdR) : FnOk P w K mg base CX0 2 f fd ["space"] (spSize 2 pTree zTree) := by
  have GR : FnOk P w K mg base CX0 1 fR fdR ["base", "exponent"] spRaise := ok_raise R.F
  refine F.ok scTreeSize (fun vs H Q E h => ?_) (fun cdv A outer s H vs Q E hr h => ?_)
  · obtain ⟨a, xs, ds, rfl, _⟩ := h
    rfl
  · obtain ⟨a, xs, ds, rfl, ha, hx, hl, hp, q⟩ := h
    match ds, hl, hx with
    | [d0, d1], _, .cons (v := x0) t0 (.cons (v := x1) t1 .nil) =>
      obtain ⟨n, rfl, n0, n4⟩ := btw_int (show btw 1 400 d1 = true from hp)
      obtain rfl := dat_int t1
      obtain ⟨n', rfl⟩ : ∃ m : Nat, n = m := ⟨n.toNat, by omega⟩
      refine ⟨_, pss_cons (ps_set (i := 1) scTreeSize.nd rfl (Or.inl rfl) (pe_ix ix_tup (pv 0) pe_int (fun _ _ => rfl)))
        (pss_one (ps_ret (pe_call GR hr rfl R.g R.F.kp R.b .nil pass0 (pa_cons (pv 1) (pa_cons (pe_callB (call_max2 rfl) (by rfl) m (by decide +kernel) (pa_cons (pe_op op_sub (pv 1) pe_int) (pa_cons pe_int pa_nil))) pa_nil))))), ?_⟩
      have q0 := q H fun _ _ e => e
      have e1 : (if (0 : Int) > (n' : Int) - 2 then 0 else (n' : Int) - 2) = ((n' - 2 : Nat) : Int) := by
        split <;> omega
      have ez : zTree [d0, .int n'] = ((n' ^ (n' - 2) : Nat) : Int) := rfl
      rw [ez] at q0
      refine ⟨_, rfl, a, _, _, _, rfl, rfl, SqT.of ha, atI_nat (j := 1) rfl, _, rfl, _, rfl, _, _, rfl, rfl, _, _, rfl, n', n' - 2, ?_, by omega, by omega, q0⟩
      show [V.int (n' : Int), V.int (if (0 : Int) > (n' : Int) - 2 then 0 else (n' : Int) - 2)] = _
      rw [e1]
end
end K3
set_option maxRecDepth 100000
set_option maxHeartbeats 4000000
namespace K3
open PySem PySem.Spec PyProof.Rows L2
/-! ### multinomial: total and ways so far -/
def multN : Nat → Int → List Nat → Int
  | _, w, [] => w
  | t, w, c :: r => multN (t + c) (w * PySem.W.mcComb ((t + c : Nat) : Int) (c : Int)) r
theorem fp_le {n : Nat} : ∀ k : Nat, k ≤ n → Builtin.Math.fallingProduct (n : Int) k ≤ ((n ^ k : Nat) : Int)
  | 0, _ => by
    rw [PySem.W.mc_fp_zero]
    exact Int.le_refl _
  | k + 1, h => by
    have z := fp_le (n := n) k (by omega)
    have p := PySem.W.mc_fp_pos (n := (n : Int)) k (by omega)
    rw [PySem.W.mc_fp_succ, Nat.pow_succ, Int.natCast_mul]
    exact Int.mul_le_mul z (by omega) (by omega) (by omega)
theorem comb_le {a b : Nat} (hb : b ≤ a) : 1 ≤ PySem.W.mcComb (a : Int) (b : Int) ∧ PySem.W.mcComb (a : Int) (b : Int) ≤ ((a ^ b : Nat) : Int) := by
  refine ⟨PySem.W.mcComb_pos (by omega) (by omega), ?_⟩
  rcases Nat.eq_zero_or_pos a with h0 | h0
  · have hb0 : b = 0 := by omega
    subst h0 hb0
    have e : PySem.W.mcComb ((0 : Nat) : Int) ((0 : Nat) : Int) = 1 := PySem.W.mcComb_ends (a := 0) (b := 0) (by decide) (by decide) (.inl rfl)
    rw [e]
    decide
  · rw [PySem.W.mcComb_at (a := (a : Int)) (b := (b : Int)) (by omega) (by omega) rfl]
    obtain ⟨m, hm⟩ : ∃ m : Nat, min (b : Int) ((a : Int) - (b : Int)) = m := ⟨(min (b : Int) ((a : Int) - (b : Int))).toNat, by omega⟩
    rw [hm, Int.toNat_natCast]
    have h1 := PySem.W.mc_fp_pos (n := (a : Int)) m (by omega)
    have h2 := Int.ediv_le_self (a := Builtin.Math.fallingProduct (a : Int) m) (Builtin.Math.fallingProduct (m : Int) m) (by omega)
    have h3 := fp_le (n := a) m (by omega)
    have h4 : a ^ m ≤ a ^ b := Nat.pow_le_pow_right h0 (by omega)
    omega
def spMulti : Sp := fun vs H Q _ => ∃ (a : Addr) (ns : List Nat), vs = [.ref a] ∧ H a = some (.lst (ns.map fun n : Nat => V.int (n : Int))) ∧ ns.sum ≤ 400 ∧ (1 ≤ multN 0 1 ns → multN 0 1 ns ≤ ((400 ^ 400 : Nat) : Int) → Q (.int (multN 0 1 ns)) H)
abbrev sMulti : Stmt := top 4
section
variable {P : Program} {w : World} {K : PySem.W.Frag} {mg : Str → Option Value} {base : Heap}
theorem scMulti : FnScope ["counts", "ways", "total", "count"] ["counts"] (defScope sMulti) := ⟨rfl, rfl, rfl, by decide +kernel, rfl, by decide +kernel, by decide +kernel⟩
theorem ok_multi {f : Addr} {fd : FuncData} (F : Fun K "multinomial" "multinomial" sMulti f fd) (c : mg "comb" = some (.builtin "math.comb")) : FnOk P w K mg base CX0 1 f fd ["counts"] spMulti := by
  refine F.ok scMulti (fun vs H Q E h => ?_) (fun cdv A outer s H vs Q E hr h => ?_)
  · obtain ⟨a, ns, rfl, _⟩ := h
    rfl
  · obtain ⟨a, ns, rfl, ha, hs, q⟩ := h
    refine ⟨_, pss_cons (ps_set (i := 1) scMulti.nd rfl (Or.inl rfl) pe_int)
      (pss_cons (ps_set (i := 2) scMulti.nd rfl (Or.inl rfl) pe_int)
      (pss_cons (ps_for PassesOwn.never rfl (pi_list (pv 0)) (pg_name (i := 3) scMulti.nd rfl (Or.inl rfl))
        (pss_cons (ps_set (i := 2) scMulti.nd rfl (Or.inl rfl) (pe_op op_add (pv 2) (pv 3)))
        (pss_one (ps_set (i := 1) scMulti.nd rfl (Or.inl rfl) (pe_op op_mulW (pv 1) (pe_callBfun cr_comb rfl c (pa_cons (pv 2) (pa_cons (pv 3) pa_nil))))))))
      (pss_one (ps_ret (pv 1))))), ?_⟩
    refine ⟨_, rfl, a, rfl, ⟨_, SqL.of ha⟩, for_list (K := K) (a := a) (xs := ns.map fun n : Nat => V.int (n : Int)) (fun i σ Hx => ∃ (x3 : Option V) (t : Nat) (z : Int), σ = [some (.ref a), some (.int z), some (.int (t : Int)), x3] ∧ Hx = H ∧ t = (ns.take i).sum ∧ 1 ≤ z ∧ z ≤ ((400 ^ t : Nat) : Int) ∧ multN t z (ns.drop i) = multN 0 1 ns)
      ⟨none, 0, 1, rfl, rfl, rfl, by decide, by decide, rfl⟩ (fun i σ Hx _ ⟨_, _, _, _, e, _⟩ => by rw [e]; exact SqL.of ha) ?_ ?_⟩
    · rintro i y σ Hx hi ⟨x3, t, z, rfl, rfl, ht, z1, z2, hm⟩
      rw [List.getElem?_map] at hi
      obtain ⟨n, hn, rfl⟩ : ∃ n, ns[i]? = some n ∧ y = V.int (n : Int) := by
        cases h : ns[i]? with
        | none =>
          rw [h] at hi
          cases hi
        | some n =>
          rw [h] at hi
          exact ⟨n, rfl, (Option.some.inj hi).symm⟩
      have hil : i < ns.length := (List.getElem?_eq_some_iff.mp hn).1
      have et : (ns.take (i + 1)).sum = t + n := by
        rw [List.take_add_one, hn, List.sum_append, ht]
        simp
      have le : t + n ≤ 400 := by
        have e : ns.sum = (ns.take (i + 1)).sum + (ns.drop (i + 1)).sum := by rw [← List.sum_append, List.take_append_drop]
        omega
      have ed : ns.drop i = n :: ns.drop (i + 1) := by
        rw [List.drop_eq_getElem_cons hil]
        congr 1
        exact (List.getElem?_eq_some_iff.mp hn).2
      rw [ed, multN] at hm
      obtain ⟨c1, c2⟩ := comb_le (a := t + n) (b := n) (by omega)
      have c3 : (t + n) ^ n ≤ 400 ^ n := Nat.pow_le_pow_left le n
      have big : ∀ k : Nat, k ≤ 400 → (400 ^ k : Nat) < 2 ^ 3601 := fun k hk => by
        have a1 : 400 ^ k ≤ 512 ^ k := Nat.pow_le_pow_left (by decide) k
        have a2 : 512 ^ k = 2 ^ (9 * k) := by rw [Nat.pow_mul]
        have a3 : 2 ^ (9 * k) < 2 ^ 3601 := Nat.pow_lt_pow_right (by decide) (by omega)
        exact Nat.lt_of_le_of_lt a1 (by rw [a2]; exact a3)
      have b1 : z.natAbs < 2 ^ 3601 := Nat.lt_of_le_of_lt (by omega) (big t (by omega))
      have b2 : (PySem.W.mcComb ((t + n : Nat) : Int) (n : Int)).natAbs < 2 ^ 3601 := Nat.lt_of_le_of_lt (by omega) (big n (by omega))
      refine ⟨_, rfl, _, rfl, _, _, rfl, rfl, _, rfl, _, rfl, _, rfl, t + n, n, rfl, by omega, _, _, rfl, rfl, wide_mul b1 b2 (by decide) (by decide) (by decide), ?_⟩
      refine ⟨_, t + n, z * PySem.W.mcComb ((t + n : Nat) : Int) (n : Int), rfl, rfl, et.symm, ?_, ?_, hm⟩
      · have m1 := Int.mul_le_mul z1 c1 (by decide) (by omega)
        omega
      · have m2 := Int.mul_le_mul z2 (Int.le_trans c2 (Int.ofNat_le.mpr c3)) (by omega) (by omega)
        rw [Nat.pow_add, Int.natCast_mul]
        exact m2
    · rintro σ Hx ⟨x3, t, z, rfl, rfl, ht, z1, z2, hm⟩
      rw [List.length_map, List.drop_length, multN] at hm
      rw [List.length_map, List.take_length] at ht
      subst hm
      have up : (400 ^ t : Nat) ≤ 400 ^ 400 := Nat.pow_le_pow_right (by decide) (by omega)
      exact ⟨_, rfl, q z1 (Int.le_trans z2 (Int.ofNat_le.mpr up))⟩
end
end K3
set_option maxRecDepth 100000
set_option maxHeartbeats 4000000
namespace K3
open PySem PySem.Spec PyProof.Rows L2
/-! ### the size of a word; of a matching's and a permutation's neighbours later -/
def countsN (d : PyData) : List Nat := (tupItems d).map fun e => (countOf e).toNat
def zWord (ds : List PyData) : Int := multN 0 1 (countsN (at0 ds 1))
abbrev sWordSize : Stmt := top 63
/-- the counts of a word or a decorated space -/
def spWordSize : Sp := fun vs H Q _ => ∃ (a : Addr) (xs : List V) (ds : List PyData), vs = [.ref a] ∧ H a = some (.tup xs) ∧ DatAll H xs ds ∧ 2 ≤ ds.length ∧ countsB (at0 ds 1) = true ∧ ∀ H', Same H H' → 1 ≤ zWord ds → zWord ds ≤ ((400 ^ 400 : Nat) : Int) → Q (.int (zWord ds)) H'
theorem sum_nat : ∀ {ds : List PyData}, (∀ d ∈ ds, countB d = true) → ((ds.map fun e => (countOf e).toNat).sum : Int) = (ds.map countOf).sum
  | [], _ => rfl
  | d :: ds, h => by
    have z := sum_nat (ds := ds) fun e he => h e (by simp [he])
    obtain ⟨d0, n, rfl, _, n1, _⟩ := count_cases (h d (by simp))
    have e : countOf (.tuple [d0, .int n]) = n := rfl
    rw [List.map_cons, List.map_cons, List.sum_cons, List.sum_cons, e]
    omega
section
variable {P : Program} {w : World} {K : PySem.W.Frag} {mg : Str → Option Value} {base : Heap}
theorem scWordSize : FnScope ["space", "pair"] ["space"] (defScope sWordSize) := ⟨rfl, rfl, rfl, by decide +kernel, rfl, by decide +kernel, by decide +kernel⟩
theorem ok_wordsize {f fM : Addr} {fd fdM : FuncData} (F : Fun K "word_size" "word_size" sWordSize f fd) (M : DefOk K mg "multinomial" sMulti ["counts"] fM fdM) (c : mg "comb" = some (.builtin "math.comb")) : FnOk P w K mg base CX0 2 f fd ["space"] spWordSize := by
  have GM : FnOk P w K mg base CX0 1 fM fdM ["counts"] spMulti := ok_multi M.F c
  refine F.ok scWordSize (fun vs H Q E h => ?_) (fun cdv A outer s H vs Q E hr h => ?_)
  · obtain ⟨a, xs, ds, rfl, _⟩ := h
    rfl
  · obtain ⟨a, xs, ds, rfl, ha, hx, hl, hc, q⟩ := h
    refine ⟨_, pss_one (ps_ret (pe_call GM hr rfl M.g M.F.kp M.b .nil pass0 (pa_cons (pe_lc (own := [("pair", 1)]) (g := gName 1) (tt := tYes) (te := tOp (rIxT K) (tVar 1) (tC (.int 1))) rfl scWordSize.nd (pi_tup (pe_ix ix_tup (pv 0) pe_int (fun _ _ => rfl))) (blkOk_by (N := ["space", "pair"]) (sc := defScope sWordSize) (by decide +kernel))
            (fun _ _ _ _ _ => pg_name (i := 1) scWordSize.nd rfl (Or.inl rfl)) (fun _ _ _ _ _ => pts_nil) (fun _ _ _ _ _ => pe_ix ix_tup (pv 1) pe_int (fun _ _ => rfl))) pa_nil))), ?_⟩
    obtain ⟨x1, g1, td⟩ := hx.at (j := 1) (List.getElem?_eq_getElem (by omega))
    have e1 : at0 ds 1 = ds[1] := at_of (List.getElem?_eq_getElem (by omega))
    have hc1 : countsB ds[1] = true := by rw [← e1]; exact hc
    have hc2 := hc1
    unfold countsB at hc2
    rw [Bool.and_eq_true, Bool.and_eq_true, Bool.and_eq_true] at hc2
    obtain ⟨es, ees, _, h6⟩ := tupOf_len hc2.1.1
    rw [ees] at td hc2
    have hall := List.all_eq_true.mp (show es.all countB = true from hc2.1.2)
    have hsum : (es.map countOf).sum ≤ 400 := of_decide_eq_true hc2.2.1
    have eN : countsN (at0 ds 1) = es.map fun e => (countOf e).toNat := by
      rw [e1, ees]
      rfl
    cases td with
    | @tup b ys _ hb hy =>
      have hyl := hy.len
      refine ⟨_, rfl, a, _, _, _, rfl, rfl, SqT.of ha, atI_nat (j := 1) g1, b, rfl, ⟨_, SqT.of hb⟩, fun D nD => lc_vals (K := K) (a := b) (xs := ys) (fun i => V.int (countOf (es.getD i .none))) hb (by omega) nD (fun i x Hx hi S R hR => ?_) mono_name fun Hx S hD => ?_⟩
      · obtain ⟨d, hdi, tdd⟩ := hy.get hi
        obtain ⟨d0, n, rfl, hn, n1, _⟩ := count_cases (hall d (List.mem_of_getElem? hdi))
        have g0 : countOf (es.getD i .none) = n := by rw [List.getD_eq_getElem?_getD, hdi]; rfl
        cases tdd with
        | @tup b2 zs _ hb2 hz =>
          cases hz with
          | cons z0 t0 =>
            cases t0 with
            | cons z1 t1 =>
              cases t1
              cases z1
              refine ⟨rfl, _, rfl, b2, _, _, _, rfl, rfl, SqT.of (S _ _ hb2), atI_nat (j := 1) rfl, ?_⟩
              have z := hR Hx fun _ _ e => e
              rw [g0] at z
              exact z
      · have eL : (List.range ys.length).map (fun i => V.int (countOf (es.getD i .none))) = (es.map fun e => (countOf e).toNat).map fun n : Nat => V.int (n : Int) := by
          rw [hyl, List.map_map]
          refine range_map es _ _ fun i d hdi => ?_
          obtain ⟨d0, n, rfl, _, n1, _⟩ := count_cases (hall d (List.mem_of_getElem? hdi))
          have g0 : es.getD i .none = .tuple [d0, .int n] := by rw [List.getD_eq_getElem?_getD, hdi]; rfl
          show V.int (countOf (es.getD i .none)) = V.int (((countOf (.tuple [d0, .int n])).toNat : Nat) : Int)
          rw [g0]
          have e : countOf (.tuple [d0, .int n]) = n := rfl
          rw [e]
          congr 1
          omega
        rw [eL] at hD
        have sm := sum_nat hall
        refine ⟨D, es.map fun e => (countOf e).toNat, rfl, hD, by omega, fun z1 z2 => ?_⟩
        have q' := q Hx S
        unfold zWord at q'
        rw [eN] at q'
        exact q' z1 z2
end
end K3
set_option maxRecDepth 100000
set_option maxHeartbeats 4000000
namespace K3
open PySem PySem.Spec PyProof.Rows L2
/-! ### permutations by the positions that are held -/
def sgn : Nat → Int
  | 0 => 1
  | h + 1 => -sgn h
def permN (n m : Nat) : Nat → Int
  | 0 => 0
  | h + 1 => permN n m h + sgn h * PySem.W.mcComb (m : Int) (h : Int) * ((Builtin.Math.factorialNat (n - h) : Nat) : Int)
def zPerm (ds : List PyData) : Int := permN (intOf (at0 ds 1)).toNat (tupItems (at0 ds 2)).length ((tupItems (at0 ds 2)).length + 1)
abbrev sPermSize : Stmt := top 69
abbrev sMoved : Stmt := top 5
/-- count_moved(n, m) -/
def spMoved : Sp := fun vs H Q _ => ∃ n m : Nat, vs = [.int n, .int m] ∧ m ≤ n ∧ n ≤ 60 ∧ Q (.int (permN n m (m + 1))) H
theorem sgn_abs : ∀ h, (sgn h).natAbs = 1
  | 0 => rfl
  | h + 1 => by
    show (-sgn h).natAbs = 1
    rw [Int.natAbs_neg, sgn_abs h]
theorem perm_term {n m h : Nat} (hm : h ≤ m) (h60 : m ≤ 60) (hn : n ≤ 60) : (PySem.W.mcComb (m : Int) (h : Int)).natAbs < 2 ^ 361 ∧ (((Builtin.Math.factorialNat (n - h) : Nat) : Int)).natAbs < 2 ^ 541 := by
  obtain ⟨c1, c2⟩ := comb_le hm
  have a1 : m ^ h ≤ 64 ^ h := Nat.pow_le_pow_left (by omega) h
  have a2 : 64 ^ h = 2 ^ (6 * h) := by rw [Nat.pow_mul]
  have a3 : 2 ^ (6 * h) < 2 ^ 361 := Nat.pow_lt_pow_right (by decide) (by omega)
  have b1 := fact_le (n - h) (by omega)
  have b2 : 2 ^ (9 * (n - h)) < 2 ^ 541 := Nat.pow_lt_pow_right (by decide) (by omega)
  refine ⟨Nat.lt_of_le_of_lt (show _ ≤ m ^ h by omega) (Nat.lt_of_le_of_lt a1 (by rw [a2]; exact a3)), ?_⟩
  rw [Int.natAbs_natCast]
  exact Nat.lt_of_le_of_lt b1 b2
theorem perm_abs {n m : Nat} (h60 : m ≤ 60) (hn : n ≤ 60) : ∀ h, h ≤ m + 1 → (permN n m h).natAbs ≤ h * 2 ^ 904
  | 0, _ => Nat.zero_le _
  | h + 1, hh => by
    have z := perm_abs h60 hn h (by omega)
    obtain ⟨t1, t2⟩ := perm_term (n := n) (m := m) (h := h) (by omega) h60 hn
    have s1 : (sgn h * PySem.W.mcComb (m : Int) (h : Int)).natAbs < 2 ^ (2 + 361) := wide_lt (by rw [sgn_abs]; decide) t1
    have s2 : (sgn h * PySem.W.mcComb (m : Int) (h : Int) * ((Builtin.Math.factorialNat (n - h) : Nat) : Int)).natAbs < 2 ^ (2 + 361 + 541) := wide_lt s1 t2
    have s3 : (permN n m (h + 1)).natAbs ≤ (permN n m h).natAbs + (sgn h * PySem.W.mcComb (m : Int) (h : Int) * ((Builtin.Math.factorialNat (n - h) : Nat) : Int)).natAbs := Int.natAbs_add_le _ _
    rw [Nat.succ_mul]
    have s4 : 2 ^ (2 + 361 + 541) = 2 ^ 904 := rfl
    rw [s4] at s2
    exact Nat.le_trans s3 (Nat.add_le_add z (Nat.le_of_lt s2))
section
variable {P : Program} {w : World} {K : PySem.W.Frag} {mg : Str → Option Value} {base : Heap}
theorem scPermSize : FnScope ["space", "n", "moved"] ["space"] (defScope sPermSize) := ⟨rfl, rfl, rfl, by decide +kernel, rfl, by decide +kernel, by decide +kernel⟩
theorem scMoved : FnScope ["n", "moved", "total", "sign", "kept"] ["n", "moved"] (defScope sMoved) := ⟨rfl, rfl, rfl, by decide +kernel, rfl, by decide +kernel, by decide +kernel⟩
theorem ok_moved {f : Addr} {fd : FuncData} (F : Fun K "count_moved" "count_moved" sMoved f fd) (T : Nm mg) (c : mg "comb" = some (.builtin "math.comb")) (c2 : mg "factorial" = some (.builtin "math.factorial")) : FnOk P w K mg base CX0 1 f fd ["n", "moved"] spMoved := by
  refine F.ok scMoved (fun vs H Q E h => ?_) (fun cdv A outer s H vs Q E hr h => ?_)
  · obtain ⟨n, m, rfl, _⟩ := h
    rfl
  · obtain ⟨n', m', rfl, len', n60, q⟩ := h
    refine ⟨_, pss_cons (ps_set (i := 2) scMoved.nd rfl (Or.inl rfl) pe_int)
      (pss_cons (ps_set (i := 3) scMoved.nd rfl (Or.inl rfl) pe_int)
      (pss_cons (ps_for PassesOwn.never rfl (pi_range1 rfl T.range (pa_cons (pe_op op_add (pv 1) pe_int) pa_nil)) (pg_name (i := 4) scMoved.nd rfl (Or.inl rfl))
        (pss_cons (ps_set (i := 2) scMoved.nd rfl (Or.inl rfl) (pe_op op_add (pv 2) (pe_op op_mulW (pe_op op_mulW (pv 3) (pe_callBfun cr_comb rfl c (pa_cons (pv 1) (pa_cons (pv 4) pa_nil))))
            (pe_callBfun cr_fact rfl c2 (pa_cons (pe_op op_sub (pv 0) (pv 4)) pa_nil)))))
        (pss_one (ps_set (i := 3) scMoved.nd rfl (Or.inl rfl) (pe_un un_neg (pv 3))))))
      (pss_one (ps_ret (pv 2))))), ?_⟩
    refine ⟨_, rfl, _, _, rfl, rfl, (m' : Int) + 1, rfl, by omega, by omega, ?_⟩
    rw [show ((m' : Int) + 1).toNat = m' + 1 by omega]
    refine for_range (n := m' + 1) (fun i σ Hx => ∃ x5 : Option V, σ = [some (.int n'), some (.int m'), some (.int (permN n' m' i)), some (.int (sgn i)), x5] ∧ Hx = H) ⟨none, rfl, rfl⟩ ?_ ?_
    · rintro i σ Hx hi ⟨x5, rfl, rfl⟩
      obtain ⟨c1, c3⟩ := perm_term (n := n') (m := m') (h := i) (by omega) (by omega) (by omega)
      have w1 : CMulW (sgn i) (PySem.W.mcComb (m' : Int) (i : Int)) := wide_mul (a := 2) (by rw [sgn_abs]; decide) c1 (by decide) (by decide) (by decide)
      have s1 : (sgn i * PySem.W.mcComb (m' : Int) (i : Int)).natAbs < 2 ^ (2 + 361) := wide_lt (by rw [sgn_abs]; decide) c1
      have w2 : CMulW (sgn i * PySem.W.mcComb (m' : Int) (i : Int)) ((Builtin.Math.factorialNat (n' - i) : Nat) : Int) := wide_mul s1 c3 (by decide) (by decide) (by decide)
      refine ⟨_, rfl, _, rfl, _, rfl, _, rfl, m', i, ?_, by omega, _, _, rfl, rfl, w1, _, rfl, _, rfl, _, _, rfl, rfl, n' - i, ?_, by omega, _, _, rfl, rfl, w2, _, _, rfl, rfl, ?_⟩
      · show [V.int (m' : Int), V.int (0 + (i : Int))] = _
        rw [Int.zero_add]
      · show [V.int ((n' : Int) - (0 + (i : Int)))] = _
        rw [show (n' : Int) - (0 + (i : Int)) = ((n' - i : Nat) : Int) by omega]
      · exact ⟨_, rfl, _, rfl, _, rfl, rfl⟩
    · rintro σ Hx ⟨x5, rfl, rfl⟩
      exact ⟨_, rfl, q⟩
theorem ok_permsize {f fM : Addr} {fd fdM : FuncData} (F : Fun K "permutation_size" "permutation_size" sPermSize f fd) (T : Nm mg) (M : DefOk K mg "count_moved" sMoved ["n", "moved"] fM fdM) (c : mg "comb" = some (.builtin "math.comb")) (c2 : mg "factorial" = some (.builtin "math.factorial")) : FnOk P w K mg base CX0 2 f fd ["space"] (spSize 3 pPerm zPerm) := by
  have GM : FnOk P w K mg base CX0 1 fM fdM ["n", "moved"] spMoved := ok_moved M.F T c c2
  refine F.ok scPermSize (fun vs H Q E h => ?_) (fun cdv A outer s H vs Q E hr h => ?_)
  · obtain ⟨a, xs, ds, rfl, _⟩ := h
    rfl
  · obtain ⟨a, xs, ds, rfl, ha, hx, hl, hp, q⟩ := h
    match ds, hl, hx with
    | [d0, d1, d2], _, .cons (v := x0) t0 (.cons (v := x1) t1 (.cons (v := x2) t2 .nil)) =>
      have hp' : (btw 0 60 d1 && tupOf 0 (intOf d1) d2 && ((tupItems d2).all (btw 0 (intOf d1 - 1)) && ascB (tupItems d2))) = true := hp
      rw [Bool.and_eq_true, Bool.and_eq_true] at hp'
      obtain ⟨n, rfl, n0, n60⟩ := btw_int hp'.1.1
      obtain ⟨es, rfl, _, len⟩ := tupOf_len hp'.1.2
      obtain rfl := dat_int t1
      obtain ⟨n', rfl⟩ : ∃ m : Nat, n = m := ⟨n.toNat, by omega⟩
      have len' : es.length ≤ n' := by
        have z : (es.length : Int) ≤ (n' : Int) := len
        omega
      cases t2 with
      | @tup b ys _ hb hy =>
        have hyl := hy.len
        refine ⟨_, pss_cons (ps_asg (pe_slice sl_tupA (pv 0) (po_some pe_int) po_none) (pg_tup rfl (pgs_cons (pg_name (i := 1) scPermSize.nd rfl (Or.inl rfl)) (pgs_cons (pg_name (i := 2) scPermSize.nd rfl (Or.inl rfl)) pgs_nil))))
          (pss_one (ps_ret (pe_call GM hr rfl M.g M.F.kp M.b .nil pass0 (pa_cons (pv 1) (pa_cons (pe_callB call_len_seq (by rfl) T.len PySem.boot_len (pa_cons (pv 2) pa_nil)) pa_nil))))), ?_⟩
        refine ⟨_, rfl, 1, rfl, ?_⟩
        dsimp only [tNoPart]
        refine slK_of 1 ha fun b1 Hb Sb hb1 => ?_
        refine ⟨b1, [.int n', .ref b], rfl, SqT.of hb1, rfl, _, _, rfl, _, _, rfl, rfl, ?_⟩
        have hbb := Sb _ _ hb
        refine ⟨_, rfl, _, rfl, b, ys, rfl, .inr (SqT.of hbb), n', es.length, ?_, len', by omega, q Hb Sb⟩
        show [V.int (n' : Int), V.int (ys.length : Int)] = _
        rw [hyl]
end
end K3
set_option maxRecDepth 100000
set_option maxHeartbeats 4000000
namespace K3
open PySem PySem.Spec PyProof.Rows L2
/-! ### products without a bound -/
abbrev sMul : Stmt := top 2
def vints (ns : List Nat) : List V := ns.map fun n : Nat => V.int (n : Int)
def prodN : List Nat → Nat
  | [] => 1
  | n :: r => n * prodN r
theorem prod_take {ns : List Nat} : ∀ {i : Nat} {n : Nat}, ns[i]? = some n → prodN (ns.take (i + 1)) = prodN (ns.take i) * n := by
  induction ns with
  | nil => intro i n h; simp at h
  | cons a l ih =>
    intro i n h
    cases i with
    | zero =>
      have e : a = n := by simpa using h
      subst e
      simp [prodN]
    | succ i =>
      have z := ih (i := i) (n := n) (by simpa using h)
      rw [List.take_succ_cons, List.take_succ_cons, prodN, prodN, z, Nat.mul_assoc]
theorem prod_pos {ns : List Nat} (h : ∀ n ∈ ns, 1 ≤ n) : 1 ≤ prodN ns := by
  induction ns with
  | nil => exact Nat.le_refl 1
  | cons a l ih =>
    have z := ih fun n hn => h n (by simp [hn])
    have y := h a (by simp)
    rw [prodN]
    exact Nat.mul_le_mul y z
theorem prod_le {ns : List Nat} (h : ∀ n ∈ ns, 1 ≤ n) (i : Nat) : prodN (ns.take i) ≤ prodN ns := by
  induction ns generalizing i with
  | nil => simp
  | cons a l ih =>
    have hl : ∀ n ∈ l, 1 ≤ n := fun n hn => h n (by simp [hn])
    have y := h a (by simp)
    cases i with
    | zero =>
      show 1 ≤ prodN (a :: l)
      exact prod_pos h
    | succ i =>
      rw [List.take_succ_cons, prodN, prodN]
      exact Nat.mul_le_mul_left a (ih hl i)
theorem in_zero : ∀ ns : List Nat, inV (.int 0) (vints ns) = ns.any (· == 0)
  | [] => rfl
  | n :: l => by
    have z := in_zero l
    show (eqV (.int (n : Int)) (.int 0) || inV (.int 0) (vints l)) = ((n == 0) || l.any (· == 0))
    rw [z]
    congr 1
    show ((n : Int) == 0) = (n == 0)
    cases n with
    | zero => rfl
    | succ n => rfl
theorem flat_ints : ∀ ns : List Nat, (vints ns).all flatV = true
  | [] => rfl
  | n :: l => by
    show (true && (vints l).all flatV) = true
    rw [flat_ints l]
    rfl
/-- multiply(list, None): the product, if it is not too great -/
def spMul : Sp := fun vs H Q _ => ∃ (a : Addr) (ns : List Nat), vs = [.ref a, .non] ∧ H a = some (.lst (vints ns)) ∧ ((∀ n ∈ ns, 1 ≤ n) → prodN ns < 2 ^ 400000) ∧ (∀ n ∈ ns, n < 2 ^ 400000) ∧ ((0 ∈ ns → Q (.int 0) H) ∧ ((∀ n ∈ ns, 1 ≤ n) → Q (.int (prodN ns : Nat)) H))
section
variable {P : Program} {w : World} {K : PySem.W.Frag} {mg : Str → Option Value} {base : Heap}
theorem scMul : FnScope ["factors", "bound", "result", "factor"] ["factors", "bound"] (defScope sMul) := ⟨rfl, rfl, rfl, by decide +kernel, rfl, by decide +kernel, by decide +kernel⟩
theorem ok_mul {f : Addr} {fd : FuncData} (F : FunD K "multiply" "multiply" (defArgs sMul) (defBody sMul) (defScope sMul) [.non] [] f fd) : FnOk P w K mg base CX0 1 f fd ["factors", "bound"] spMul := by
  refine F.ok scMul (fun vs H Q E h => ?_) (fun cdv A outer s H vs Q E hr h => ?_)
  · obtain ⟨a, ns, rfl, _⟩ := h
    rfl
  · obtain ⟨a, ns, rfl, ha, hb, hs, q0, q1⟩ := h
    refine ⟨_, PSs.nox (pss_cons (ps_if (pt_cmpR op_in_seq pe_int (pv 0) rfl) (pss_one (ps_ret pe_int)) pss_nil)
      (pss_cons (ps_set (i := 2) scMul.nd rfl (Or.inl rfl) pe_int)
      (pss_cons (ps_for PassesOwn.never rfl (pi_list (pv 0)) (pg_name (i := 3) scMul.nd rfl (Or.inl rfl))
        (pss_cons (ps_if (PW.pt (pw_and (pt_cmpR op_notN (pv 1) pe_non (nomark _)) (pw_and1 (pt_cmpR op_ge (pv 2) (pv 1) (nomark _))))) (pss_one (ps_ret (pv 2))) pss_nil)
        (pss_one (ps_set (i := 2) scMul.nd rfl (Or.inl rfl) (pe_op op_mulW (pv 2) (pv 3))))))
      (pss_one (ps_ret (pv 2)))))), ?_⟩
    refine ⟨_, rfl, a, vints ns, rfl, .inl (SqL.of ha), rfl, flat_ints ns, _, rfl, ?_⟩
    show (if inV (.int 0) (vints ns) = true then _ else _)
    rw [in_zero]
    by_cases hz : 0 ∈ ns
    · have e : ns.any (· == 0) = true := List.any_eq_true.mpr ⟨0, hz, rfl⟩
      exact if_t e (q0 hz)
    · have e : ns.any (· == 0) = false := by
        cases h : ns.any (· == 0) with
        | false => rfl
        | true =>
          obtain ⟨x, hx, ex⟩ := List.any_eq_true.mp h
          exact absurd (by rw [← beq_iff_eq.mp ex]; exact hx) hz
      have pos : ∀ n ∈ ns, 1 ≤ n := fun n hn => Nat.pos_of_ne_zero fun z => hz (by rw [← z]; exact hn)
      refine if_f e ⟨_, rfl, a, rfl, ⟨_, SqL.of ha⟩, for_list (K := K) (a := a) (xs := vints ns) (fun i σ Hx => ∃ x3 : Option V, σ = [some (.ref a), some .non, some (.int (prodN (ns.take i) : Nat)), x3] ∧ Hx = H) ⟨none, rfl, rfl⟩ (fun i σ Hx _ ⟨_, _, e⟩ => by rw [e]; exact SqL.of ha) ?_ ?_⟩
      · rintro i y σ Hx hi ⟨x3, rfl, rfl⟩
        have hi' : (ns.map fun n : Nat => V.int (n : Int))[i]? = some y := hi
        rw [List.getElem?_map] at hi'
        obtain ⟨n, hn, rfl⟩ : ∃ n, ns[i]? = some n ∧ y = V.int (n : Int) := by
          cases h : ns[i]? with
          | none =>
            rw [h] at hi'
            cases hi'
          | some n =>
            rw [h] at hi'
            exact ⟨n, rfl, (Option.some.inj hi').symm⟩
        have b1 : ((prodN (ns.take i) : Nat) : Int).natAbs < 2 ^ 400000 := by
          rw [Int.natAbs_natCast]
          exact Nat.lt_of_le_of_lt (prod_le pos i) (hb pos)
        have b2 : ((n : Nat) : Int).natAbs < 2 ^ 400000 := by
          rw [Int.natAbs_natCast]
          exact hs n (List.mem_of_getElem? hn)
        refine ⟨_, rfl, rfl, _, rfl, if_f rfl (if_f rfl ⟨_, rfl, _, rfl, _, _, rfl, rfl, wide_mul b1 b2 (by decide) (by decide) (by decide), some (.int (n : Int)), ?_, rfl⟩)⟩
        show [some (V.ref a), some .non, some (V.int (((prodN (ns.take i) : Nat) : Int) * (n : Int))), some (V.int (n : Int))] = _
        rw [prod_take hn, Int.natCast_mul]
      · rintro σ Hx ⟨x3, rfl, rfl⟩
        have q2 := q1 pos
        have el : ns.take (vints ns).length = ns := List.take_of_length_le (by unfold vints; rw [List.length_map]; exact Nat.le_refl _)
        rw [el]
        exact ⟨_, rfl, q2⟩
end
end K3
set_option maxRecDepth 100000
set_option maxHeartbeats 4000000
namespace L2
open PySem PySem.Spec PyProof.Rows
section
variable {X : Cx}
/-- the ints i, i + c, .. -/
def rgC (i c : Int) (n : Nat) : List V := (List.range n).map fun k => V.int (i + (k : Nat) * c)
theorem rgC_length (i c : Int) (n : Nat) : (rgC i c n).length = n := by unfold rgC; rw [List.length_map, List.length_range]
theorem vals_rgC {i c : Int} {n : Nat} {acc : Array Value} (h : ItemsOf (fun k v => ∃ t, v = .int (i + k * c) t) acc n) : Vals (rgC i c n) acc.toList := by
  have e : acc.toList.length = n := by rw [Array.length_toList]; exact h.1
  unfold rgC
  rw [← e]
  refine vals_of_get acc.toList _ fun j u hj => ?_
  obtain ⟨t, rfl⟩ := h.2 j u (by rw [← hj, Array.getElem?_toList])
  exact ⟨t, rfl⟩
def tLstRg3 (ta : TA) : TE := fun σ H Q => ta σ H fun vs H1 => ∃ (i j c : Int) (n : Nat), vs = [.int i, .int j, .int c] ∧ RgC i j c n ∧ n ≤ 2 ^ 24 ∧ ∀ q, H1 q = none → Q (.ref q) (upd H1 q (.lst (rgC i c n)))
/-- list(range(a, b, c)) -/
theorem pe_listRg3 {a b c : Expr} {ta : TA} {p pos p2 pos2 : Pos} (hc : X.calm = true) (hgl : Gl X "list") (hml : X.mg "list" = none) (hg : Gl X "range") (hm : X.mg "range" = none) (ha : PA X [a, b, c] ta)
    (hs : starEach [a, b, c] X.env = (false, eval a X.env) :: starEach [b, c] X.env := by rfl) (hpl : (backTo pos (starEach [b, c] X.env)).any (·.1) = false := by rfl)
    (na : starEach [.Call (.Name "range" p) [a, b, c] [] pos] X.env = (false, eval (.Call (.Name "range" p) [a, b, c] [] pos) X.env) :: starEach [] X.env := by rfl) :
    PE X (.Call (.Name "list" p2) [.Call (.Name "range" p) [a, b, c] [] pos] [] pos2) (tLstRg3 ta) := by
  refine ⟨fun pins s σ H Q I h => ?_⟩
  have mk : wpAny (model X.prog X.w) X.A (eval (.Call (.Name "range" p) [a, b, c] [] pos) X.env) (fun x s' => ∃ r i j k t u v n H', x = .ref r ∧ IsRange s'.heap r i j k t u v ∧ Inv X pins σ H' s' ∧ RgC i j k n ∧ n ≤ 2 ^ 24 ∧ ∀ q, H' q = none → Q (.ref q) (upd H' q (.lst (rgC i k n)))) X.xe s := by
    refine Call_ (ld_blt I hg hm boot_range (PyProof.Rows.callWith_type1 (thn (ha.run pos pins s σ H _ I h) fun us s1 ⟨vs, H1, I1, r1, q1⟩ => ?_) hs hpl))
    obtain ⟨i, j, k, n, e, rg, hn, q⟩ := q1
    subst e
    cases r1 with
    | cons r rr =>
      cases rr with
      | cons r' rr =>
        cases rr with
        | cons r'' rr =>
          cases rr
          obtain ⟨t, rfl⟩ := r
          obtain ⟨t', rfl⟩ := r'
          obtain ⟨t'', rfl⟩ := r''
          exact call_range_3 rg.1 ⟨_, i, j, k, _, _, _, n, H1, rfl, IsRange.new _ _ _ _ _ _ _, I1.kept fun b u e => Heap.get?_push_of_some _ e, rg, hn, q⟩ (.inl (PyProof.noPylong_small rg.2.1))
  refine Call_ (ld_blt I hgl hml boot_list (PyProof.Rows.callWith_type1 (args_cons (thn mk fun x s1 ⟨r, i, j, k, t, u, v, n, H1, ex, hr, I1, rg, hn, q⟩ => args_nil ?_) na) na))
  subst ex
  refine call_list_range (n := n) (I1.ok.hd hc) hr rg.2.2.1 rg.2.2.2 hn fun h' tk acc c' hk e' hi => ?_
  refine ⟨.ref s1.heap.objs.size, upd H1 s1.heap.objs.size (.lst (rgC i k n)), I1.laid hk (Nat.le_refl _) (show ObjOk X.prog X.w _ _ _ (.lst (rgC i k n)) from ⟨?_, acc.toList, c', vals_rgC hi, ?_⟩), rfl, q _ (I1.hok.fresh (Nat.le_refl _))⟩
  · rw [rgC_length, sizeLine_eq]; omega
  · rw [Array.toArray_toList]; exact e'
end
end L2
namespace K3
open PySem PySem.Spec PyProof.Rows L2
/-! ### the size of a matching -/
def odds (m : Nat) : List Nat := (List.range m).map fun k => 1 + k * 2
def zMatch (ds : List PyData) : Int := (prodN (odds (intOf (at0 ds 1)).toNat) : Nat)
abbrev sMatSize : Stmt := top 68
theorem odds_pos {m : Nat} : ∀ n ∈ odds m, 1 ≤ n := fun n hn => by
  obtain ⟨k, _, rfl⟩ := List.mem_map.mp hn
  omega
theorem odds_lt {m : Nat} (h : m ≤ 200) : ∀ n ∈ odds m, n < 400 := fun n hn => by
  obtain ⟨k, hk, rfl⟩ := List.mem_map.mp hn
  have z := List.mem_range.mp hk
  omega
theorem prodN_le {b : Nat} : ∀ {ns : List Nat}, (∀ n ∈ ns, n ≤ b) → prodN ns ≤ b ^ ns.length
  | [], _ => Nat.le_refl _
  | a :: l, h => by
    have z := prodN_le (ns := l) fun n hn => h n (by simp [hn])
    have y := h a (by simp)
    show a * prodN l ≤ b ^ (l.length + 1)
    rw [Nat.pow_succ, Nat.mul_comm]
    exact Nat.mul_le_mul z y
theorem match_le {m : Nat} (h : m ≤ 200) : prodN (odds m) ≤ 2 ^ 1800 := by
  have z := prodN_le (b := 512) (ns := odds m) fun n hn => by
    have := odds_lt h n hn
    omega
  have l : (odds m).length = m := by unfold odds; rw [List.length_map, List.length_range]
  rw [l] at z
  have e : 512 ^ m = 2 ^ (9 * m) := by rw [Nat.pow_mul]
  rw [e] at z
  exact Nat.le_trans z (Nat.pow_le_pow_right (by decide) (by omega))
theorem size_step2 (a b : Int) : Builtin.Range.rangeSize a b 2 = if a < b then (b - a - 1) / 2 + 1 else 0 := by
  unfold Builtin.Range.rangeSize
  simp only [show (2 : Int) > 0 by decide, if_true]
theorem small_step2 {a b : Int} (ha : -(2 ^ 62) ≤ a) (ha' : a < 2 ^ 62) (hb : -(2 ^ 62) ≤ b) (hb' : b < 2 ^ 62) : Builtin.Range.small a b 2 = true := by
  unfold Builtin.Range.small
  rw [size_step2]
  simp only [Builtin.Range.rangeFitsLong, Bool.and_eq_true, Bool.or_eq_true, decide_eq_true_eq, beq_iff_eq, show (2 : Int) > 0 by decide, if_true]
  split <;> omega
theorem step_two {m : Nat} (h : m ≤ 200) : RgC 1 (2 * (m : Int)) 2 m := by
  refine ⟨by decide, by decide, small_step2 (by omega) (by omega) (by omega) (by omega), ?_⟩
  rw [size_step2]
  split <;> omega
section
variable {P : Program} {w : World} {K : PySem.W.Frag} {mg : Str → Option Value} {base : Heap}
theorem scMatSize : FnScope ["space"] ["space"] (defScope sMatSize) := ⟨rfl, rfl, rfl, by decide +kernel, rfl, by decide +kernel, by decide +kernel⟩
theorem ok_matsize {f fM : Addr} {fd fdM : FuncData} (F : Fun K "matching_size" "matching_size" sMatSize f fd) (T : Nm mg) (ml : mg "list" = none) (mk : PySem.W.keepIn K (.ref fM) = true) (mb : L2.Binds K fdM ["factors", "bound"] [Value.none]) (mgm : mg "multiply" = some (.ref fM)) (GM : FnOk P w K mg base CX0 1 fM fdM ["factors", "bound"] spMul) : FnOk P w K mg base CX0 2 f fd ["space"] (spSize 2 pMatching zMatch) := by
  refine F.ok scMatSize (fun vs H Q E h => ?_) (fun cdv A outer s H vs Q E hr h => ?_)
  · obtain ⟨a, xs, ds, rfl, _⟩ := h
    rfl
  · obtain ⟨a, xs, ds, rfl, ha, hx, hl, hp, q⟩ := h
    match ds, hl, hx with
    | [d0, d1], _, .cons (v := x0) t0 (.cons (v := x1) t1 .nil) =>
      obtain ⟨n, rfl, n0, n2⟩ := btw_int (show btw 0 200 d1 = true from hp)
      obtain rfl := dat_int t1
      obtain ⟨m, rfl⟩ : ∃ m : Nat, n = m := ⟨n.toNat, by omega⟩
      have hm : m ≤ 200 := by omega
      refine ⟨_, pss_one (ps_ret (pe_call GM hr rfl mgm mk mb (Paired.cons (F := RelV) (a := .non) (b := Value.none) rfl .nil) pass0 (pa_cons (pe_listRg3 rfl (by rfl) ml (by rfl) T.range (pa_cons pe_int (pa_cons (pe_op op_mul pe_int (pe_ix ix_tup (pv 0) pe_int (fun _ _ => rfl))) (pa_cons pe_int pa_nil)))) pa_nil))), ?_⟩
      refine ⟨_, rfl, a, _, _, _, rfl, rfl, SqT.of ha, atI_nat (j := 1) rfl, _, _, rfl, rfl, .inl (by decide), 1, 2 * (m : Int), 2, m, rfl, step_two hm, by omega, fun p np => ?_⟩
      have S := same_new (o := HO.lst (rgC 1 2 m)) np
      have e : rgC 1 2 m = vints (odds m) := by
        unfold rgC vints odds
        rw [List.map_map]
        refine List.map_congr_left fun k _ => ?_
        show V.int (1 + (k : Int) * 2) = V.int (((1 + k * 2 : Nat) : Nat) : Int)
        congr 1
      have big : (2 : Nat) ^ 1800 < 2 ^ 400000 := Nat.pow_lt_pow_right (by decide) (by decide)
      refine ⟨p, odds m, rfl, by rw [upd_same, e], fun _ => Nat.lt_of_le_of_lt (match_le hm) big, fun n hn => ?_, fun z => ?_, fun _ => ?_⟩
      · have := odds_lt hm n hn
        exact Nat.lt_of_lt_of_le this (Nat.le_trans (show 400 ≤ 2 ^ 9 by decide) (Nat.pow_le_pow_right (by decide) (by decide)))
      · have := odds_pos 0 z
        omega
      · have q0 := q _ S
        exact q0
end
end K3
set_option maxRecDepth 100000
set_option maxHeartbeats 4000000
namespace K3
open PySem PySem.Spec PyProof.Rows L2
/-! ### numbers of ways, by ints -/
abbrev Ps := List (Int × Nat)
def dkOf (ps : Ps) : List (Key × V) := ps.map fun p => (Sum.inl p.1, V.int (p.2 : Nat))
def getP (ps : Ps) (k : Int) : Nat := ((ps.find? fun p => decide (p.1 = k)).map (·.2)).getD 0
def putP (ps : Ps) (k : Int) (v : Nat) : Ps := if (ps.any fun p => decide (p.1 = k)) = true then ps.map (fun p => if p.1 = k then (p.1, v) else p) else ps ++ [(k, v)]
def tot (ps : Ps) : Nat := (ps.map (·.2)).sum
theorem getP_pos {p : Int × Nat} {r : Ps} {k : Int} (e : p.1 = k) : getP (p :: r) k = p.2 := by simp [getP, List.find?_cons, e]
theorem getP_neg {p : Int × Nat} {r : Ps} {k : Int} (e : ¬ p.1 = k) : getP (p :: r) k = getP r k := by simp [getP, List.find?_cons, e]
theorem val_dk (k : Int) : ∀ ps : Ps, (valV (dkOf ps) (Sum.inl k)).getD (.int 0) = .int (getP ps k : Nat)
  | [] => rfl
  | p :: r => by
    by_cases e : p.1 = k
    · have z : valV (dkOf (p :: r)) (Sum.inl k) = some (V.int (p.2 : Nat)) := valV_pos (by show Sum.inl p.1 = Sum.inl k; rw [e])
      rw [z, getP_pos e]
      rfl
    · have z : valV (dkOf (p :: r)) (Sum.inl k) = valV (dkOf r) (Sum.inl k) := valV_neg fun z => e (Sum.inl.inj z)
      rw [z, getP_neg e]
      exact val_dk k r
theorem any_dk (k : Int) (ps : Ps) : ((dkOf ps).any fun kv => decide (kv.1 = Sum.inl k)) = ps.any fun p => decide (p.1 = k) := by
  unfold dkOf
  rw [List.any_map]
  congr 1
  funext p
  show decide (Sum.inl p.1 = Sum.inl k) = decide (p.1 = k)
  by_cases e : p.1 = k
  · rw [decide_eq_true e, decide_eq_true (by rw [e])]
  · rw [decide_eq_false e, decide_eq_false fun z => e (Sum.inl.inj z)]
theorem put_dk (ps : Ps) (k : Int) (v : Nat) : putK (dkOf ps) (Sum.inl k) (.int (v : Nat)) = dkOf (putP ps k v) := by
  unfold putK putP
  rw [any_dk]
  split
  · unfold dkOf
    rw [List.map_map, List.map_map]
    refine List.map_congr_left fun p _ => ?_
    show (if Sum.inl p.1 = Sum.inl k then (Sum.inl p.1, V.int (v : Nat)) else (Sum.inl p.1, V.int (p.2 : Nat))) = (Sum.inl (if p.1 = k then (p.1, v) else p).1, V.int ((if p.1 = k then (p.1, v) else p).2 : Nat))
    by_cases e : p.1 = k
    · rw [if_pos e, if_pos (by rw [e])]
    · rw [if_neg e, if_neg fun z => e (Sum.inl.inj z)]
  · unfold dkOf
    rw [List.map_append]
    rfl
theorem get_none {k : Int} : ∀ {ps : Ps}, (ps.any fun p => decide (p.1 = k)) = false → getP ps k = 0
  | [], _ => rfl
  | p :: r, h => by
    rw [List.any_cons, Bool.or_eq_false_iff] at h
    rw [getP_neg (of_decide_eq_false h.1)]
    exact get_none h.2
theorem repl_same {k : Int} {v : Nat} {ps : Ps} (h : ∀ p ∈ ps, p.1 ≠ k) : ps.map (fun p => if p.1 = k then (p.1, v) else p) = ps := by
  have e : ps.map (fun p => if p.1 = k then (p.1, v) else p) = ps.map id := List.map_congr_left fun p hp => by rw [if_neg (h p hp)]; rfl
  rw [e, List.map_id]
theorem tot_repl {k : Int} {v : Nat} : ∀ {ps : Ps}, (ps.map (·.1)).Nodup → (ps.any fun p => decide (p.1 = k)) = true → tot (ps.map fun p => if p.1 = k then (p.1, v) else p) + getP ps k = tot ps + v
  | [], _, h => by cases h
  | p :: r, nd, h => by
    rw [List.map_cons, List.nodup_cons] at nd
    by_cases e : p.1 = k
    · rw [getP_pos e, List.map_cons, if_pos e, repl_same fun q hq z => nd.1 (by rw [e, ← z]; exact List.mem_map_of_mem hq)]
      show v + tot r + p.2 = p.2 + tot r + v
      omega
    · rw [List.any_cons, decide_eq_false e, Bool.false_or] at h
      have z := tot_repl (v := v) nd.2 h
      rw [getP_neg e, List.map_cons, if_neg e]
      show p.2 + tot (r.map fun p => if p.1 = k then (p.1, v) else p) + getP r k = p.2 + tot r + v
      omega
theorem tot_put {ps : Ps} {k : Int} {m : Nat} (nd : (ps.map (·.1)).Nodup) : tot (putP ps k (getP ps k + m)) = tot ps + m := by
  unfold putP
  cases h : ps.any fun p => decide (p.1 = k) with
  | true =>
    rw [if_pos rfl]
    have z := tot_repl (v := getP ps k + m) nd h
    omega
  | false =>
    rw [if_neg Bool.false_ne_true, get_none h]
    show (List.map (·.2) (ps ++ [(k, 0 + m)])).sum = _
    rw [List.map_append, List.sum_append]
    show tot ps + (0 + m + 0) = _
    omega
theorem keys_put {ps : Ps} {k : Int} {v : Nat} (nd : (ps.map (·.1)).Nodup) : ((putP ps k v).map (·.1)).Nodup ∧ ∀ p ∈ putP ps k v, p.1 = k ∨ ∃ q ∈ ps, q.1 = p.1 := by
  unfold putP
  cases h : ps.any fun p => decide (p.1 = k) with
  | true =>
    rw [if_pos rfl]
    have e : (ps.map fun p => if p.1 = k then (p.1, v) else p).map (·.1) = ps.map (·.1) := by
      rw [List.map_map]
      refine List.map_congr_left fun p _ => ?_
      show (if p.1 = k then (p.1, v) else p).1 = p.1
      split <;> rfl
    refine ⟨by rw [e]; exact nd, fun p hp => .inr ?_⟩
    obtain ⟨q, hq, e2⟩ := List.mem_map.mp hp
    refine ⟨q, hq, ?_⟩
    rw [← e2]
    split <;> rfl
  | false =>
    rw [if_neg Bool.false_ne_true]
    refine ⟨?_, fun p hp => ?_⟩
    · rw [List.map_append, List.nodup_append]
      refine ⟨nd, by simp, fun a ha b hb z => ?_⟩
      obtain ⟨q, hq, e⟩ := List.mem_map.mp ha
      have e2 : b = k := by simpa using hb
      have y := List.any_eq_false.mp h q hq
      exact y (decide_eq_true (by rw [e, z, e2]))
    · rcases List.mem_append.mp hp with a | a
      · exact .inr ⟨p, a, rfl⟩
      · left
        have e : p = (k, v) := by simpa using a
        rw [e]
theorem getP_le (k : Int) : ∀ ps : Ps, getP ps k ≤ tot ps
  | [] => Nat.zero_le _
  | p :: r => by
    by_cases e : p.1 = k
    · rw [getP_pos e]
      show p.2 ≤ p.2 + tot r
      omega
    · rw [getP_neg e]
      have z := getP_le k r
      show getP r k ≤ p.2 + tot r
      omega
theorem len_sub {α : Type} [DecidableEq α] : ∀ {l m : List α}, l.Nodup → (∀ x ∈ l, x ∈ m) → l.length ≤ m.length
  | [], _, _, _ => Nat.zero_le _
  | a :: l, m, nd, h => by
    rw [List.nodup_cons] at nd
    have ha := h a (by simp)
    have z := len_sub (l := l) (m := m.erase a) nd.2 fun x hx => (List.mem_erase_of_ne (fun e => nd.1 (by rw [← e]; exact hx))).mpr (h x (by simp [hx]))
    rw [List.length_erase_of_mem ha] at z
    have pos : 0 < m.length := List.length_pos_of_mem ha
    rw [List.length_cons]
    omega
/-- distinct keys from lo to hi, values of the sum S -/
structure Ways (lo hi : Int) (S : Nat) (ps : Ps) : Prop where
  nd : (ps.map (·.1)).Nodup
  rg : ∀ p ∈ ps, lo ≤ p.1 ∧ p.1 ≤ hi
  le : tot ps ≤ S
theorem Ways.len {lo hi : Int} {S : Nat} {ps : Ps} (h : Ways lo hi S ps) (h0 : -60 ≤ lo) (h1 : hi ≤ 60) : ps.length ≤ 121 := by
  have z := len_sub (l := ps.map (·.1)) (m := (List.range 121).map fun i => ((i : Nat) : Int) - 60) h.nd fun x hx => by
    obtain ⟨p, hp, rfl⟩ := List.mem_map.mp hx
    have r := h.rg p hp
    exact List.mem_map.mpr ⟨(p.1 + 60).toNat, List.mem_range.mpr (by omega), by omega⟩
  rw [List.length_map, List.length_map, List.length_range] at z
  exact z
theorem Ways.put {lo hi : Int} {S m : Nat} {ps : Ps} {k : Int} (h : Ways lo hi S ps) (h0 : lo ≤ k) (h1 : k ≤ hi) : Ways lo hi (S + m) (putP ps k (getP ps k + m)) := by
  obtain ⟨a, b⟩ := keys_put (k := k) (v := getP ps k + m) h.nd
  refine ⟨a, fun p hp => ?_, ?_⟩
  · rcases b p hp with e | ⟨q, hq, e⟩
    · rw [e]
      exact ⟨h0, h1⟩
    · rw [← e]
      exact h.rg q hq
  · rw [tot_put h.nd]
    have z := h.le
    omega
theorem Ways.mono {lo hi : Int} {S S' : Nat} {ps : Ps} (h : Ways lo hi S ps) (le : S ≤ S') : Ways lo hi S' ps := ⟨h.nd, h.rg, Nat.le_trans h.le le⟩
theorem tot_take {ps : Ps} {i : Nat} {p : Int × Nat} (h : ps[i]? = some p) : tot (ps.take (i + 1)) = tot (ps.take i) + p.2 := by
  unfold tot
  rw [List.take_add_one, h, List.map_append, List.sum_append]
  simp
/-! what stands where -/
theorem get_repl {k r : Int} {v : Nat} : ∀ {ps : Ps}, (ps.any fun p => decide (p.1 = k)) = true → getP (ps.map fun p => if p.1 = k then (p.1, v) else p) r = if r = k then v else getP ps r
  | [], h => by cases h
  | p :: ps, h => by
    rw [List.map_cons]
    by_cases e : p.1 = k
    · rw [if_pos e]
      by_cases er : r = k
      · rw [if_pos er, getP_pos (by show p.1 = r; rw [e, er])]
      · rw [if_neg er, getP_neg (by show ¬ p.1 = r; rw [e]; exact fun z => er z.symm), getP_neg (by rw [e]; exact fun z => er z.symm)]
        cases h2 : ps.any fun p => decide (p.1 = k) with
        | true => rw [get_repl h2, if_neg er]
        | false =>
          rw [repl_same fun q hq z => by
            have y := List.any_eq_false.mp h2 q hq
            exact y (decide_eq_true z)]
    · rw [if_neg e]
      rw [List.any_cons, decide_eq_false e, Bool.false_or] at h
      by_cases er : r = k
      · rw [if_pos er, getP_neg (by rw [er]; exact e), get_repl h, if_pos er]
      · rw [if_neg er]
        by_cases ep : p.1 = r
        · rw [getP_pos ep, getP_pos ep]
        · rw [getP_neg ep, getP_neg ep, get_repl h, if_neg er]
theorem get_app {k r : Int} {v : Nat} : ∀ {ps : Ps}, (ps.any fun p => decide (p.1 = k)) = false → getP (ps ++ [(k, v)]) r = if r = k then v else getP ps r
  | [], _ => by
    by_cases er : r = k
    · rw [if_pos er]
      exact getP_pos er.symm
    · rw [if_neg er]
      exact getP_neg fun z => er z.symm
  | p :: ps, h => by
    rw [List.any_cons, Bool.or_eq_false_iff] at h
    have e := of_decide_eq_false h.1
    rw [List.cons_append]
    by_cases ep : p.1 = r
    · rw [getP_pos ep, getP_pos ep, if_neg (by rw [← ep]; exact e)]
    · rw [getP_neg ep, getP_neg ep, get_app h.2]
theorem get_put (ps : Ps) (k r : Int) (v : Nat) : getP (putP ps k v) r = if r = k then v else getP ps r := by
  unfold putP
  cases h : ps.any fun p => decide (p.1 = k) with
  | true => rw [if_pos rfl, get_repl h]
  | false => rw [if_neg Bool.false_ne_true, get_app h]
theorem get_out {ps : Ps} {k : Int} (h : ∀ p ∈ ps, p.1 ≠ k) : getP ps k = 0 := get_none (List.any_eq_false.mpr fun p hp => by simpa using h p hp)
/-- what the entries of a list give to r -/
def give (f : Int → Int → Nat) (ps : Ps) (r : Int) : Nat := (ps.map fun p => f p.1 r * p.2).sum
theorem give_take {f : Int → Int → Nat} {ps : Ps} {i : Nat} {p : Int × Nat} {r : Int} (h : ps[i]? = some p) : give f (ps.take (i + 1)) r = give f (ps.take i) r + f p.1 r * p.2 := by
  unfold give
  rw [List.take_add_one, h, List.map_append, List.sum_append]
  simp
theorem give_one {ps : Ps} {k r : Int} (nd : (ps.map (·.1)).Nodup) : give (fun x _ => if x = k then 1 else 0) ps r = getP ps k := by
  induction ps with
  | nil => rfl
  | cons p ps ih =>
    rw [List.map_cons, List.nodup_cons] at nd
    have e : give (fun x _ => if x = k then 1 else 0) (p :: ps) r = (if p.1 = k then 1 else 0) * p.2 + give (fun x _ => if x = k then 1 else 0) ps r := rfl
    rw [e, ih nd.2]
    by_cases ep : p.1 = k
    · rw [if_pos ep, getP_pos ep, get_out fun q hq z => nd.1 (by rw [ep, ← z]; exact List.mem_map_of_mem hq)]
      omega
    · rw [if_neg ep, getP_neg ep]
      omega
theorem give_add {f g : Int → Int → Nat} {ps : Ps} {r : Int} : give (fun x y => f x y + g x y) ps r = give f ps r + give g ps r := by
  induction ps with
  | nil => rfl
  | cons p ps ih =>
    have e : ∀ h : Int → Int → Nat, give h (p :: ps) r = h p.1 r * p.2 + give h ps r := fun _ => rfl
    rw [e, e, e, ih, Nat.add_mul]
    omega
theorem give_congr {f g : Int → Int → Nat} {ps : Ps} {r : Int} (h : ∀ x, f x r = g x r) : give f ps r = give g ps r := by
  unfold give
  congr 1
  exact List.map_congr_left fun p _ => by rw [h]
/-- one step up or down -/
def stepF (x r : Int) : Nat := (if x - 1 = r then 1 else 0) + (if x + 1 = r then 1 else 0)
theorem give_step {ps : Ps} {r : Int} (nd : (ps.map (·.1)).Nodup) : give stepF ps r = getP ps (r + 1) + getP ps (r - 1) := by
  have e1 : give stepF ps r = give (fun x y => (if x = r + 1 then 1 else 0) + (if x = r - 1 then 1 else 0)) ps r := give_congr fun x => by
    show (if x - 1 = r then 1 else 0) + (if x + 1 = r then 1 else 0) = (if x = r + 1 then 1 else 0) + (if x = r - 1 then 1 else 0)
    congr 1 <;> (split <;> split <;> first | rfl | omega)
  rw [e1, give_add (f := fun x _ => if x = r + 1 then 1 else 0) (g := fun x _ => if x = r - 1 then 1 else 0), give_one nd, give_one nd]
end K3
set_option maxRecDepth 100000
set_option maxHeartbeats 4000000
namespace K3
open PySem PySem.Spec PyProof.Rows L2
/-! ### the size of a walk is below the bound -/
def big : Int := 10 ^ 4000
theorem big_of {n : Nat} (h : n ≤ 2 ^ 13000) : ((n : Nat) : Int) < big := by
  have z : (2 : Nat) ^ 13000 < 10 ^ 4000 := by decide +kernel
  have y : n < 10 ^ 4000 := Nat.lt_of_le_of_lt h z
  have x : ((n : Nat) : Int) < (((10 ^ 4000 : Nat)) : Int) := Int.ofNat_lt.mpr y
  rw [Int.natCast_pow] at x
  exact x
/-- a number from 0 on, below the bound -/
def spB (m : Nat) (p : List PyData → Bool) : Sp := fun vs H Q _ => ∃ (a : Addr) (xs : List V) (ds : List PyData), vs = [.ref a] ∧ H a = some (.tup xs) ∧ DatAll H xs ds ∧ ds.length = m ∧ p ds = true ∧ ∀ (H' : Hp) (n : Nat), Same H H' → ((n : Nat) : Int) < big → Q (.int (n : Nat)) H'
abbrev sStep : Stmt := top 66
abbrev sWalkSize : Stmt := top 65
def spStep : Sp := fun vs H Q _ => ∃ (d : Addr) (ps : Ps) (lo hi : Int), vs = [.ref d, .int lo, .int hi] ∧ H d = some (.dK (dkOf ps)) ∧ -60 ≤ lo ∧ hi ≤ 60 ∧ ∀ p H' ps', Same H H' → H' p = some (.dK (dkOf ps')) → Ways lo hi (2 * tot ps) ps' → (∀ r, getP ps' r = if lo ≤ r ∧ r ≤ hi then give stepF ps r else 0) → Q (.ref p) H'
/-- ways of i steps from s to h -/
def walkW (lo hi s : Int) : Nat → Int → Nat
  | 0, h => if h = s then 1 else 0
  | i + 1, h => if lo ≤ h ∧ h ≤ hi then walkW lo hi s i (h + 1) + walkW lo hi s i (h - 1) else 0
theorem walkW_le (lo hi s : Int) : ∀ (i : Nat) (h : Int), walkW lo hi s i h ≤ 2 ^ i
  | 0, h => by
    unfold walkW
    split <;> decide
  | i + 1, h => by
    unfold walkW
    have a := walkW_le lo hi s i (h + 1)
    have b := walkW_le lo hi s i (h - 1)
    rw [Nat.pow_succ]
    split <;> omega
def zWalk (ds : List PyData) : Int := (walkW (intOf (at0 ds 4)) (intOf (at0 ds 5)) (intOf (at0 ds 2)) (intOf (at0 ds 1)).toNat (intOf (at0 ds 3)) : Nat)
section
variable {P : Program} {w : World} {K : PySem.W.Frag} {mg : Str → Option Value} {base : Heap}
theorem scStep : FnScope ["ways", "low", "high", "longer", "height", "many", "reached"] ["ways", "low", "high"] (defScope sStep) := ⟨rfl, rfl, rfl, by decide +kernel, rfl, by decide +kernel, by decide +kernel⟩
theorem scWalkSize : FnScope ["space", "n", "start", "end", "low", "high", "ways", "_"] ["space"] (defScope sWalkSize) := ⟨rfl, rfl, rfl, by decide +kernel, rfl, by decide +kernel, by decide +kernel⟩
theorem ok_step {f : Addr} {fd : FuncData} (F : Fun K "step_on" "step_on" sStep f fd) : FnOk P w K mg base CX0 1 f fd ["ways", "low", "high"] spStep := by
  refine F.ok scStep (fun vs H Q E h => ?_) (fun cdv A outer s H vs Q E hr h => ?_)
  · obtain ⟨d, ps, lo, hi, rfl, _⟩ := h
    rfl
  · obtain ⟨d, ps, lo, hi, rfl, hd, h0, h1, q⟩ := h
    have hu := hu_of hr
    refine ⟨_, pss_cons (ps_set (i := 3) scStep.nd rfl (Or.inl rfl) pe_dnewK)
      (pss_cons (ps_lock (ps_for PassesOwn.never rfl (pi_items (pv 0)) (pg_tup rfl (pgs_cons (pg_name (i := 4) scStep.nd rfl (Or.inl rfl)) (pgs_cons (pg_name (i := 5) scStep.nd rfl (Or.inl rfl)) pgs_nil)))
        (pss_one (ps_for PassesOwn.never rfl (pi_tup (pe_tup (pa_cons (pe_op op_sub (pv 4) pe_int) (pa_cons (pe_op op_add (pv 4) pe_int) pa_nil)))) (pg_name (i := 6) scStep.nd rfl (Or.inl rfl))
          (pss_one (ps_if (pt_chain op_le op_le (pv 1) (pv 6) (pv 2)) (pss_one (ps_dput hu (pv 3) (pv 6) (pe_op op_add (pe_dget2 hu (pv 3) (pv 6) pe_int ⟨rfl, rfl, rfl, rfl⟩) (pv 5)) rfl)) pss_nil))))))
      (pss_one (ps_ret (pv 3)))), ?_⟩
    intro D nD
    have S0 := same_new (o := HO.dK []) nD
    have dD : d ≠ D := ne_of_none hd nD
    have hD0 : upd H D (.dK []) D = some (.dK (dkOf [])) := upd_same
    have hd0 := S0 _ _ hd
    generalize upd H D (.dK []) = H0 at S0 hD0 hd0 ⊢
    refine ⟨d, _, hd0, trivial, fun od => ?_⟩
    have len : (dkOf ps).length = ps.length := by unfold dkOf; rw [List.length_map]
    refine ⟨_, rfl, d, od, dkOf ps, rfl, upd_same, for_it (walk_items (d := d) (o := od) (kvs := dkOf ps)) (fun i σ Hx => ∃ (x4 x5 x6 : Option V) (qs : Ps), σ = [some (.ref d), some (.int lo), some (.int hi), some (.ref D), x4, x5, x6] ∧ Hx d = some (.frz od (.dK (dkOf ps))) ∧ Same H (upd Hx d (.dK (dkOf ps))) ∧ Hx D = some (.dK (dkOf qs)) ∧ Ways lo hi (2 * tot (ps.take i)) qs ∧ ∀ r, getP qs r = if lo ≤ r ∧ r ≤ hi then give stepF (ps.take i) r else 0)
      ⟨none, none, none, [], rfl, upd_same, ?_, by rw [upd_ne (Ne.symm dD)]; exact hD0, ⟨List.nodup_nil, by simp, Nat.zero_le _⟩, fun r => by rw [List.take_zero]; show 0 = if _ then 0 else 0; split <;> rfl⟩ (fun i σ Hx _ ⟨_, _, _, _, _, h, _⟩ => h) ?_ ?_⟩
    · intro b o e
      by_cases eb : b = d
      · subst eb
        rw [upd_same, ← hd, e]
      · rw [upd_ne eb, upd_ne eb]
        exact S0 _ _ e
    · rintro i x σ Hx Hy hi' ⟨x4, x5, x6, qs, rfl, hf, S, hD, W, Xq⟩ ⟨T, ky, vy, rfl, nT, rfl, e1, e2⟩
      have hip : i < ps.length := by rw [← len]; exact hi'
      have gp : ps[i]? = some ps[i] := List.getElem?_eq_getElem hip
      have gk : (dkOf ps)[i]? = some (Sum.inl ps[i].1, V.int (ps[i].2 : Nat)) := by
        unfold dkOf
        rw [List.getElem?_map, gp]
        rfl
      dsimp only at e1 e2
      rw [gk] at e1 e2
      obtain rfl : V.int ps[i].1 = ky := Option.some.inj e1
      obtain rfl : V.int (ps[i].2 : Nat) = vy := Option.some.inj e2
      have SU := same_new (o := HO.tup [V.int ps[i].1, V.int (ps[i].2 : Nat)]) nT
      have Td : d ≠ T := ne_of_none hf nT
      have hf1 := SU _ _ hf
      have hD1 := SU _ _ hD
      have S1 : Same H (upd (upd Hx T (.tup [V.int ps[i].1, V.int (ps[i].2 : Nat)])) d (.dK (dkOf ps))) := by
        intro b o e
        have z := S b o e
        by_cases eb : b = d
        · subst eb
          rw [upd_same] at z ⊢
          exact z
        · rw [upd_ne eb] at z ⊢
          exact SU _ _ z
      have hTT : upd Hx T (.tup [V.int ps[i].1, V.int (ps[i].2 : Nat)]) T = some (.tup [V.int ps[i].1, V.int (ps[i].2 : Nat)]) := upd_same
      generalize upd Hx T (.tup [V.int ps[i].1, V.int (ps[i].2 : Nat)]) = H2 at hf1 hD1 S1 hTT ⊢
      generalize hpi : ps[i] = pi at *
      obtain ⟨ht, m⟩ := pi
      refine ⟨T, _, rfl, SqT.of hTT, rfl, _, _, rfl, _, _, rfl, rfl, ?_⟩
      refine ⟨_, rfl, _, _, rfl, rfl, _, rfl, _, _, rfl, rfl, (by show 2 ≤ sizeLine; decide), fun U nU => ?_⟩
      have SV := same_new (o := HO.tup [V.int (ht - 1), V.int (ht + 1)]) nU
      have hf2 := SV _ _ hf1
      have hD2 := SV _ _ hD1
      have dU : d ≠ U := ne_of_none hf1 nU
      have S2 : Same H (upd (upd H2 U (.tup [V.int (ht - 1), V.int (ht + 1)])) d (.dK (dkOf ps))) := by
        intro b o e
        have z := S1 b o e
        by_cases eb : b = d
        · subst eb
          rw [upd_same] at z ⊢
          exact z
        · rw [upd_ne eb] at z ⊢
          exact SV _ _ z
      have hUU : upd H2 U (.tup [V.int (ht - 1), V.int (ht + 1)]) U = some (.tup [V.int (ht - 1), V.int (ht + 1)]) := upd_same
      generalize upd H2 U (.tup [V.int (ht - 1), V.int (ht + 1)]) = H3 at hf2 hD2 S2 hUU ⊢
      have UD : U ≠ D := fun z => by
        rw [z, hD2] at hUU
        cases hUU
      refine ⟨U, rfl, ⟨_, SqT.of hUU⟩, for_tup (K := K) (a := U) (xs := [V.int (ht - 1), V.int (ht + 1)]) (fun j σ Hz => ∃ (x6 : Option V) (qs : Ps), σ = [some (.ref d), some (.int lo), some (.int hi), some (.ref D), some (.int ht), some (.int (m : Nat)), x6] ∧ Hz d = some (.frz od (.dK (dkOf ps))) ∧ Same H (upd Hz d (.dK (dkOf ps))) ∧ Hz D = some (.dK (dkOf qs)) ∧ Hz U = some (.tup [V.int (ht - 1), V.int (ht + 1)]) ∧ Ways lo hi (2 * tot (ps.take i) + j * m) qs ∧ ∀ r, getP qs r = if lo ≤ r ∧ r ≤ hi then give stepF (ps.take i) r + ((if 1 ≤ j ∧ ht - 1 = r then 1 else 0) + (if 2 ≤ j ∧ ht + 1 = r then 1 else 0)) * m else 0)
        ⟨x6, qs, rfl, hf2, S2, hD2, hUU, W.mono (by omega), fun r => by rw [Xq]; simp⟩ (fun j σ Hz _ ⟨_, _, _, _, _, _, h, _⟩ => SqT.of h) ?_ ?_⟩
      · rintro j y σ Hz hy ⟨x6, rs, rfl, hf3, S3, hD3, hU3, W3, X3⟩
        obtain ⟨r, rfl, hjr⟩ : ∃ r : Int, y = V.int r ∧ ((j = 0 ∧ r = ht - 1) ∨ (j = 1 ∧ r = ht + 1)) := by
          match j, hy with
          | 0, hy => exact ⟨_, (Option.some.inj hy).symm, .inl ⟨rfl, rfl⟩⟩
          | 1, hy => exact ⟨_, (Option.some.inj hy).symm, .inr ⟨rfl, rfl⟩⟩
        have co : ∀ r' : Int, ((if 1 ≤ j + 1 ∧ ht - 1 = r' then 1 else 0) + (if 2 ≤ j + 1 ∧ ht + 1 = r' then 1 else 0)) * m = ((if 1 ≤ j ∧ ht - 1 = r' then 1 else 0) + (if 2 ≤ j ∧ ht + 1 = r' then 1 else 0)) * m + (if r' = r then m else 0) := fun r' => by
          rcases hjr with ⟨rfl, rfl⟩ | ⟨rfl, rfl⟩
          · by_cases e : r' = ht - 1
            · subst e
              simp
            · have e2 : ¬ (ht - 1 = r') := fun z => e z.symm
              simp [e, e2]
          · by_cases e : r' = ht + 1
            · subst e
              simp [Nat.add_mul]
            · have e2 : ¬ (ht + 1 = r') := fun z => e z.symm
              simp [e, e2]
        have stay : (¬ (lo ≤ r ∧ r ≤ hi)) → ∀ r', getP rs r' = if lo ≤ r' ∧ r' ≤ hi then give stepF (ps.take i) r' + ((if 1 ≤ j + 1 ∧ ht - 1 = r' then 1 else 0) + (if 2 ≤ j + 1 ∧ ht + 1 = r' then 1 else 0)) * m else 0 := fun hout r' => by
          rw [X3, co]
          generalize ((if 1 ≤ j ∧ ht - 1 = r' then 1 else 0) + (if 2 ≤ j ∧ ht + 1 = r' then 1 else 0)) * m = c0
          by_cases hr' : lo ≤ r' ∧ r' ≤ hi
          · rw [if_pos hr', if_pos hr', if_neg (fun z => hout (by rw [← z]; exact hr')), Nat.add_zero]
          · rw [if_neg hr', if_neg hr']
        refine ⟨_, rfl, _, rfl, _, _, rfl, rfl, _, rfl, ?_⟩
        by_cases k1 : lo ≤ r
        · refine if_t (decide_eq_true k1) ⟨_, rfl, _, _, rfl, rfl, _, rfl, ?_⟩
          by_cases k2 : r ≤ hi
          · refine if_t (decide_eq_true k2) ⟨_, rfl, D, rfl, .inl ⟨_, .inl hD3⟩, _, rfl, _, DGet.k (k := Sum.inl r) hD3, _, rfl, _, _, val_dk r rs, rfl, _, rfl, _, rfl, D, _, rfl, DPut.k (k := Sum.inl r) hD3 ?_, ?_⟩
            · have z := W3.len h0 h1
              have e : (dkOf rs).length = rs.length := by unfold dkOf; rw [List.length_map]
              rw [e, sizeLine_eq]
              omega
            · have e : putK (dkOf rs) (Sum.inl r) (V.int ((getP rs r : Nat) + (m : Nat))) = dkOf (putP rs r (getP rs r + m)) := by
                rw [← put_dk]
                congr 1
              rw [e]
              refine ⟨_, _, rfl, by rw [upd_ne dD]; exact hf3, ?_, upd_same, by rw [upd_ne UD]; exact hU3, (W3.put k1 k2).mono (by have y := Nat.add_one_mul j m; omega), fun r' => ?_⟩
              rotate_left
              · rw [get_put, co, X3, X3]
                by_cases er : r' = r
                · subst er
                  generalize ((if 1 ≤ j ∧ ht - 1 = r' then 1 else 0) + (if 2 ≤ j ∧ ht + 1 = r' then 1 else 0)) * m = c0
                  rw [if_pos rfl, if_pos ⟨k1, k2⟩, if_pos ⟨k1, k2⟩, if_pos rfl]
                  omega
                · generalize ((if 1 ≤ j ∧ ht - 1 = r' then 1 else 0) + (if 2 ≤ j ∧ ht + 1 = r' then 1 else 0)) * m = c0
                  rw [if_neg er, if_neg er, Nat.add_zero]
              intro b o eb
              have z := S3 b o eb
              by_cases e1 : b = d
              · subst e1
                rw [upd_same] at z ⊢
                exact z
              · have bD : b ≠ D := fun z2 => by
                  rw [z2] at eb
                  rw [nD] at eb
                  cases eb
                rw [upd_ne e1] at z ⊢
                rw [upd_ne bD]
                exact z
          · exact if_f (decide_eq_false k2) ⟨_, _, rfl, hf3, S3, hD3, hU3, W3.mono (by have y := Nat.add_one_mul j m; omega), stay fun z => k2 z.2⟩
        · exact if_f (decide_eq_false k1) ⟨_, rfl, if_f rfl ⟨_, _, rfl, hf3, S3, hD3, hU3, W3.mono (by have y := Nat.add_one_mul j m; omega), stay fun z => k1 z.1⟩⟩
      · rintro σ Hz ⟨x6, rs, rfl, hf3, S3, hD3, hU3, W3, X3⟩
        refine ⟨_, _, _, rs, rfl, hf3, S3, hD3, ?_, fun r => ?_⟩
        rotate_left
        · rw [X3, give_take gp]
          show (if lo ≤ r ∧ r ≤ hi then _ + ((if 1 ≤ 2 ∧ ht - 1 = r then 1 else 0) + (if 2 ≤ 2 ∧ ht + 1 = r then 1 else 0)) * m else 0) = if lo ≤ r ∧ r ≤ hi then _ + stepF ht r * m else 0
          unfold stepF
          simp
        have z := tot_take gp
        refine W3.mono ?_
        rw [z]
        show 2 * tot (ps.take i) + 2 * m ≤ 2 * (tot (ps.take i) + m)
        omega
    · rintro σ Hx ⟨x4, x5, x6, qs, rfl, hf, S, hD, W, Xq⟩
      rw [len, List.take_length] at Xq
      refine ⟨hf, _, rfl, q D _ qs S ?_ ?_ Xq⟩
      · rw [upd_ne (Ne.symm dD)]
        exact hD
      · rw [len, List.take_length] at W
        exact W
theorem ok_walksize {f fS : Addr} {fd fdS : FuncData} (F : Fun K "walk_size" "walk_size" sWalkSize f fd) (T : Nm mg) (G : DefOk K mg "step_on" sStep ["ways", "low", "high"] fS fdS) : FnOk P w K mg base CX0 2 f fd ["space"] (spSize 6 pWalk zWalk) := by
  have GS : FnOk P w K mg base CX0 1 fS fdS ["ways", "low", "high"] spStep := ok_step G.F
  refine F.ok scWalkSize (fun vs H Q E h => ?_) (fun cdv A outer s H vs Q E hr h => ?_)
  · obtain ⟨a, xs, ds, rfl, _⟩ := h
    rfl
  · obtain ⟨a, xs, ds, rfl, ha, hx, hl, hp, q⟩ := h
    have hu := hu_of hr
    match ds, hl, hx with
    | [d0, d1, d2, d3, d4, d5], _, .cons (v := x0) c0 (.cons (v := x1) c1 (.cons (v := x2) c2 (.cons (v := x3) c3 (.cons (v := x4) c4 (.cons (v := x5) c5 .nil))))) =>
      have e : pWalk [d0, d1, d2, d3, d4, d5] = ([d2, d3, d4, d5].all (btw (-60) 60) && (btw 0 60 d1 && (decide (intOf d4 ≤ intOf d2) && decide (intOf d2 ≤ intOf d5) && (decide (intOf d4 ≤ intOf d3) && decide (intOf d3 ≤ intOf d5))))) := rfl
      rw [e, Bool.and_eq_true, Bool.and_eq_true] at hp
      have hall := List.all_eq_true.mp hp.1
      obtain ⟨n, rfl, n0, n60⟩ := btw_int hp.2.1
      obtain ⟨i2, rfl, _, _⟩ := btw_int (hall d2 (by simp))
      obtain ⟨i3, rfl, _, _⟩ := btw_int (hall d3 (by simp))
      obtain ⟨i4, rfl, a4, _⟩ := btw_int (hall d4 (by simp))
      obtain ⟨i5, rfl, _, a5⟩ := btw_int (hall d5 (by simp))
      obtain rfl := dat_int c1
      obtain rfl := dat_int c2
      obtain rfl := dat_int c3
      obtain rfl := dat_int c4
      obtain rfl := dat_int c5
      refine ⟨_, pss_cons (ps_asg (pe_slice sl_tupA (pv 0) (po_some pe_int) po_none) (pg_tup rfl (pgs_cons (pg_name (i := 1) scWalkSize.nd rfl (Or.inl rfl)) (pgs_cons (pg_name (i := 2) scWalkSize.nd rfl (Or.inl rfl)) (pgs_cons (pg_name (i := 3) scWalkSize.nd rfl (Or.inl rfl)) (pgs_cons (pg_name (i := 4) scWalkSize.nd rfl (Or.inl rfl)) (pgs_cons (pg_name (i := 5) scWalkSize.nd rfl (Or.inl rfl)) pgs_nil)))))))
        (pss_cons (ps_set (i := 6) scWalkSize.nd rfl (Or.inl rfl) (pe_disp (pps_cons (pv 2) pe_int pps_nil) (by rfl) (by rfl) (fun z => by cases z) (by decide)))
        (pss_cons (ps_for PassesOwn.never rfl (pi_range1 rfl T.range (pa_cons (pv 1) pa_nil)) (pg_name (i := 7) scWalkSize.nd rfl (Or.inl rfl))
          (pss_one (ps_set (i := 6) scWalkSize.nd rfl (Or.inl rfl) (pe_call GS hr rfl G.g G.F.kp G.b .nil pass0 (pa_cons (pv 6) (pa_cons (pv 4) (pa_cons (pv 5) pa_nil)))))))
        (pss_one (ps_ret (pe_dget2 hu (pv 6) (pv 3) pe_int ⟨rfl, rfl, rfl, rfl⟩))))), ?_⟩
      refine ⟨_, rfl, 1, rfl, ?_⟩
      dsimp only [tNoPart]
      refine slK_of 1 ha fun b Hb Sb hb => ?_
      refine ⟨b, _, rfl, SqT.of hb, rfl, _, _, rfl, _, _, rfl, _, _, rfl, _, _, rfl, _, _, rfl, rfl, ?_⟩
      intro D nD
      refine ⟨_, rfl, upd_same, [(Sum.inl i2, V.int 1)], rfl, (show 1 ≤ 15 by decide), ?_⟩
      have S0 : Same H (upd (upd Hb D (.dK [])) D (.dK (mergeK [] [(Sum.inl i2, V.int 1)]))) := Sb.trans fun b o e => by
        have bD := ne_of_none e nD
        rw [upd_ne bD, upd_ne bD]
        exact e
      have hD0 : upd (upd Hb D (.dK [])) D (.dK (mergeK [] [(Sum.inl i2, V.int 1)])) D = some (.dK (dkOf [(i2, 1)])) := by
        rw [upd_same]
        rfl
      generalize upd (upd Hb D (.dK [])) D (.dK (mergeK [] [(Sum.inl i2, V.int 1)])) = H0 at S0 hD0 ⊢
      refine ⟨_, rfl, n, rfl, by omega, by omega, for_range (n := n.toNat) (fun i σ Hx => ∃ (d : Addr) (ps : Ps) (x7 : Option V), σ = [some (.ref a), some (.int n), some (.int i2), some (.int i3), some (.int i4), some (.int i5), some (.ref d), x7] ∧ Same H Hx ∧ Hx d = some (.dK (dkOf ps)) ∧ (ps.map (·.1)).Nodup ∧ ∀ h, getP ps h = walkW i4 i5 i2 i h)
        ⟨D, [(i2, 1)], none, rfl, S0, hD0, by simp, fun h => by
          show getP [(i2, 1)] h = if h = i2 then 1 else 0
          by_cases e : h = i2
          · rw [if_pos e]
            exact getP_pos e.symm
          · rw [if_neg e]
            exact getP_neg fun z => e z.symm⟩ ?_ ?_⟩
      · rintro i σ Hx hi ⟨d, ps, x7, rfl, S, hd, nd, ht⟩
        refine ⟨_, rfl, _, rfl, _, rfl, d, ps, i4, i5, rfl, hd, a4, a5, fun p H' ps' S' hp' W Xw => ?_⟩
        refine ⟨p, ps', _, rfl, S.trans S', hp', W.nd, fun h => ?_⟩
        rw [Xw, give_step nd, ht, ht]
        rfl
      · rintro σ Hx ⟨d, ps, x7, rfl, S, hd, nd, ht⟩
        refine ⟨_, rfl, d, rfl, .inl ⟨_, .inl hd⟩, _, rfl, _, DGet.k (k := Sum.inl i3) hd, ?_⟩
        rw [val_dk, ht]
        exact q Hx S
end
end K3
set_option maxRecDepth 100000
set_option maxHeartbeats 4000000
namespace K3
open PySem PySem.Spec PyProof.Rows L2
/-! ### the size of a string space is below the bound -/
theorem keepNew {H Hx : Hp} {D : Addr} {o : HO} (nD : H D = none) (S : Same H Hx) : Same H (upd Hx D o) := fun b u e => by
  have bD : b ≠ D := fun z => by
    rw [z, nD] at e
    cases e
  rw [upd_ne bD]
  exact S _ _ e
abbrev sMoveOn : Stmt := top 32
abbrev sCountStr : Stmt := top 31
abbrev sStrSize : Stmt := top 71
def srcM (e : PyData) : Int := intOf (at0 (tupItems e) 0)
def tgtM (e : PyData) : Int := intOf (at0 (tupItems e) 2)
def mvS (g : Int → Nat) (ds : List PyData) (r : Int) : Nat := (ds.map fun e => if tgtM e = r then g (srcM e) else 0).sum
/-- strings of i letters that end in r -/
def strT (ms : List PyData) : Nat → Int → Nat
  | 0, r => if r = 0 then 1 else 0
  | i + 1, r => mvS (strT ms i) ms r
def strN (ms ss : List PyData) (n : Nat) : Nat := (ss.map fun e => strT ms n (intOf e)).sum
def zStr (ds : List PyData) : Int := (strN (tupItems (at0 (tupItems (at0 ds 1)) 0)) (tupItems (at0 (tupItems (at0 ds 1)) 1)) (intOf (at0 ds 2)).toNat : Nat)
theorem mvS_take {g : Int → Nat} {ds : List PyData} {i : Nat} {e : PyData} {r : Int} (h : ds[i]? = some e) : mvS g (ds.take (i + 1)) r = mvS g (ds.take i) r + if tgtM e = r then g (srcM e) else 0 := by
  unfold mvS
  rw [List.take_add_one, h, List.map_append, List.sum_append]
  simp
def spMove : Sp := fun vs H Q _ => ∃ (a d : Addr) (xs : List V) (ds : List PyData) (ps : Ps), vs = [.ref a, .ref d] ∧ H a = some (.tup xs) ∧ DatAll H xs ds ∧ (∀ e ∈ ds, moveB e = true) ∧ ds.length ≤ 48 ∧ H d = some (.dK (dkOf ps)) ∧ ∀ p H' ps', Same H H' → H' p = some (.dK (dkOf ps')) → Ways 0 7 (48 * tot ps) ps' → (∀ r, getP ps' r = mvS (getP ps) ds r) → Q (.ref p) H'
/-- count_strings(automaton, n) -/
def spCountStr : Sp := fun vs H Q _ => ∃ (v : V) (d : PyData) (n : Int), vs = [v, .int n] ∧ Dat H v d ∧ autoB d = true ∧ 0 ≤ n ∧ n ≤ 60 ∧ ∀ (H' : Hp), Same H H' → Q (.int (strN (tupItems (at0 (tupItems d) 0)) (tupItems (at0 (tupItems d) 1)) n.toNat : Nat)) H'
theorem sum_le {b : Nat} : ∀ {l : List Nat}, (∀ x ∈ l, x ≤ b) → l.sum ≤ l.length * b
  | [], _ => by simp
  | a :: l, h => by
    have z := sum_le (l := l) fun x hx => h x (by simp [hx])
    have y := h a (by simp)
    rw [List.sum_cons, List.length_cons, Nat.succ_mul]
    omega
theorem sum_cast : ∀ l : List Nat, (l.map fun k : Nat => (k : Int)).sum = ((l.sum : Nat) : Int)
  | [] => rfl
  | a :: l => by
    rw [List.map_cons, List.sum_cons, List.sum_cons, sum_cast l]
    omega
section
variable {P : Program} {w : World} {K : PySem.W.Frag} {mg : Str → Option Value} {base : Heap}
theorem scMoveOn : FnScope ["moves", "ways", "longer", "state", "_", "reached"] ["moves", "ways"] (defScope sMoveOn) := ⟨rfl, rfl, rfl, by decide +kernel, rfl, by decide +kernel, by decide +kernel⟩
theorem scCountStr : FnScope ["automaton", "n", "moves", "accepting", "ways", "_", "state"] ["automaton", "n"] (defScope sCountStr) := ⟨rfl, rfl, rfl, by decide +kernel, rfl, by decide +kernel, by decide +kernel⟩
theorem scStrSize : FnScope ["space", "automaton", "n"] ["space"] (defScope sStrSize) := ⟨rfl, rfl, rfl, by decide +kernel, rfl, by decide +kernel, by decide +kernel⟩
theorem ok_moveon {f : Addr} {fd : FuncData} (F : Fun K "move_on" "move_on" sMoveOn f fd) : FnOk P w K mg base CX0 1 f fd ["moves", "ways"] spMove := by
  refine F.ok scMoveOn (fun vs H Q E h => ?_) (fun cdv A outer s H vs Q E hr h => ?_)
  · obtain ⟨a, d, xs, ds, ps, rfl, _⟩ := h
    rfl
  · obtain ⟨a, d, xs, ds, ps, rfl, ha, hx, hm, h48, hd, q⟩ := h
    have hu := hu_of hr
    refine ⟨_, pss_cons (ps_set (i := 2) scMoveOn.nd rfl (Or.inl rfl) pe_dnewK)
      (pss_cons (ps_for PassesOwn.never rfl (pi_tup (pv 0)) (pg_tup rfl (pgs_cons (pg_name (i := 3) scMoveOn.nd rfl (Or.inl rfl)) (pgs_cons (pg_name (i := 4) scMoveOn.nd rfl (Or.inl rfl)) (pgs_cons (pg_name (i := 5) scMoveOn.nd rfl (Or.inl rfl)) pgs_nil))))
        (pss_one (ps_dput hu (pv 2) (pv 5) (pe_op op_add (pe_dget2 hu (pv 2) (pv 5) pe_int ⟨rfl, rfl, rfl, rfl⟩) (pe_dget2 hu (pv 1) (pv 3) pe_int ⟨rfl, rfl, rfl, rfl⟩)) rfl)))
      (pss_one (ps_ret (pv 2)))), ?_⟩
    intro D nD
    have S0 := same_new (o := HO.dK []) nD
    have hD0 : upd H D (.dK []) D = some (.dK (dkOf [])) := upd_same
    generalize upd H D (.dK []) = H0 at S0 hD0 ⊢
    have hxl := hx.len
    refine ⟨_, rfl, a, rfl, ⟨_, SqT.of (S0 _ _ ha)⟩, for_tup (K := K) (a := a) (xs := xs) (fun i σ Hx => ∃ (x3 x4 x5 : Option V) (qs : Ps), σ = [some (.ref a), some (.ref d), some (.ref D), x3, x4, x5] ∧ Same H Hx ∧ Hx D = some (.dK (dkOf qs)) ∧ Ways 0 7 (i * tot ps) qs ∧ ∀ r, getP qs r = mvS (getP ps) (ds.take i) r)
      ⟨none, none, none, [], rfl, S0, hD0, ⟨List.nodup_nil, by simp, Nat.zero_le _⟩, fun r => rfl⟩ (fun i σ Hx _ ⟨_, _, _, _, _, S, _⟩ => SqT.of (S _ _ ha)) ?_ ?_⟩
    · rintro i x σ Hx hi ⟨x3, x4, x5, qs, rfl, S, hD, W, Xq⟩
      obtain ⟨e, hei, te⟩ := hx.get hi
      obtain ⟨z, l, r, rfl, _, _, r0, r7, _⟩ := move_cases (hm e (List.mem_of_getElem? hei))
      cases te with
      | @tup b ys _ hb hy =>
        cases hy with
        | cons c0 t0 =>
          cases t0 with
          | cons c1 t1 =>
            cases t1 with
            | cons c2 t2 =>
              cases t2
              cases c0
              cases c2
              refine ⟨b, _, rfl, SqT.of (S _ _ hb), rfl, _, _, rfl, _, _, rfl, _, _, rfl, rfl, ?_⟩
              refine ⟨_, rfl, D, rfl, .inl ⟨_, .inl hD⟩, _, rfl, _, DGet.k (k := Sum.inl r) hD, _, rfl, d, rfl, .inl ⟨_, .inl (S _ _ hd)⟩, _, rfl, _, DGet.k (k := Sum.inl z) (S _ _ hd), _, _, val_dk r qs, val_dk z ps, _, rfl, _, rfl, D, _, rfl, DPut.k (k := Sum.inl r) hD ?_, ?_⟩
              · have z1 := W.len (by decide) (by decide)
                have e1 : (dkOf qs).length = qs.length := by unfold dkOf; rw [List.length_map]
                rw [e1, sizeLine_eq]
                omega
              · have e1 : putK (dkOf qs) (Sum.inl r) (V.int ((getP qs r : Nat) + (getP ps z : Nat))) = dkOf (putP qs r (getP qs r + getP ps z)) := by
                  rw [← put_dk]
                  congr 1
                rw [e1]
                refine ⟨_, _, _, _, rfl, keepNew nD S, upd_same, (W.put r0 r7).mono ?_, fun r' => ?_⟩
                rotate_left
                · rw [get_put, mvS_take hei, Xq, Xq]
                  show (if r' = r then _ + getP ps z else _) = _ + if r = r' then getP ps z else 0
                  by_cases er : r' = r
                  · rw [if_pos er, if_pos er.symm, er]
                  · rw [if_neg er, if_neg fun y => er y.symm, Nat.add_zero]
                have g := getP_le z ps
                rw [Nat.succ_mul]
                omega
    · rintro σ Hx ⟨x3, x4, x5, qs, rfl, S, hD, W, Xq⟩
      rw [hxl, List.take_length] at Xq
      exact ⟨_, rfl, q D Hx qs S hD (W.mono (Nat.mul_le_mul_right _ (by omega))) Xq⟩
theorem ok_countstr {f fM : Addr} {fd fdM : FuncData} (F : Fun K "count_strings" "count_strings" sCountStr f fd) (T : Nm mg) (M : DefOk K mg "move_on" sMoveOn ["moves", "ways"] fM fdM) : FnOk P w K mg base CX0 2 f fd ["automaton", "n"] spCountStr := by
  have GM : FnOk P w K mg base CX0 1 fM fdM ["moves", "ways"] spMove := ok_moveon M.F
  refine F.ok scCountStr (fun vs H Q E h => ?_) (fun cdv A outer s H vs Q E hr h => ?_)
  · obtain ⟨v, d, n, rfl, _⟩ := h
    rfl
  · obtain ⟨v, d, n, rfl, hd, hA, n0, n60, q⟩ := h
    have hu := hu_of hr
    unfold autoB at hA
    rw [Bool.and_eq_true, Bool.and_eq_true] at hA
    obtain ⟨es, rfl, e1, e2⟩ := tupOf_len hA.1
    match es, (show es.length = 2 by omega), hd with
    | [m0, m1], _, .tup (a := a) (xs := xs) ha hx =>
      cases hx with
      | @cons x0 _ _ _ c0 t0 =>
        cases t0 with
        | @cons x1 _ _ _ c1 t1 =>
          cases t1
          have hmv : movesB m0 = true := hA.2.1
          have hst : statesB m1 = true := hA.2.2
          unfold movesB at hmv
          unfold statesB at hst
          rw [Bool.and_eq_true, Bool.and_eq_true] at hmv hst
          obtain ⟨ms, rfl, _, m48⟩ := tupOf_len hmv.1.1
          obtain ⟨ss, rfl, _, s8⟩ := tupOf_len hst.1
          have hms := List.all_eq_true.mp (show ms.all moveB = true from hmv.1.2)
          have hss := List.all_eq_true.mp (show ss.all (btw 0 7) = true from hst.2.1)
          cases c0 with
          | @tup b ys _ hb hy =>
            cases c1 with
            | @tup c zs _ hc hz =>
              have hzl := hz.len
              refine ⟨_, pss_cons (ps_asg (pv 0) (pg_tup rfl (pgs_cons (pg_name (i := 2) scCountStr.nd rfl (Or.inl rfl)) (pgs_cons (pg_name (i := 3) scCountStr.nd rfl (Or.inl rfl)) pgs_nil))))
                (pss_cons (ps_set (i := 4) scCountStr.nd rfl (Or.inr rfl) (pe_disp (pps_cons pe_int pe_int pps_nil) (by rfl) (by rfl) (fun z => by cases z) (by decide)))
                (pss_cons (ps_for PassesOwn.never rfl (pi_range1 rfl T.range (pa_cons (pv 1) pa_nil)) (pg_name (i := 5) scCountStr.nd rfl (Or.inl rfl))
                  (pss_one (ps_set (i := 4) scCountStr.nd rfl (Or.inr rfl) (pe_call GM hr rfl M.g M.F.kp M.b .nil pass0 (pa_cons (pv 2) (pa_cons (pv 4) pa_nil))))))
                (pss_one (ps_ret (pe_callB (cr_sum rfl) (by rfl) T.sum boot_sum (pa_cons (pe_lc (own := [("state", 6)]) (g := gName 6) (tt := tYes) rfl scCountStr.nd (pi_tup (pv 3)) (blkOk_by (N := ["automaton", "n", "moves", "accepting", "ways", "_", "state"]) (sc := defScope sCountStr) (by decide +kernel))
                  (fun _ _ _ _ _ => pg_name (i := 6) scCountStr.nd rfl (Or.inl rfl)) (fun _ _ _ _ _ => pts_nil) (fun _ _ _ _ _ => pe_dget2 hu (pv 4) (pv 6) pe_int ⟨rfl, rfl, rfl, rfl⟩)) pa_nil)))))), ?_⟩
              refine ⟨_, rfl, a, _, rfl, SqT.of ha, rfl, _, _, rfl, _, _, rfl, rfl, ?_⟩
              intro D nD
              refine ⟨upd_same, [(Sum.inl 0, V.int 1)], rfl, (show 1 ≤ 15 by decide), ?_⟩
              have S0 : Same H (upd (upd H D (.dK [])) D (.dK (mergeK [] [(Sum.inl 0, V.int 1)]))) := keepNew nD (same_new nD)
              have hD0 : upd (upd H D (.dK [])) D (.dK (mergeK [] [(Sum.inl 0, V.int 1)])) D = some (.dK (dkOf [(0, 1)])) := by
                rw [upd_same]
                rfl
              generalize upd (upd H D (.dK [])) D (.dK (mergeK [] [(Sum.inl 0, V.int 1)])) = H0 at S0 hD0 ⊢
              refine ⟨_, rfl, n, rfl, by omega, by omega, for_range (n := n.toNat) (fun i σ Hx => ∃ (d : Addr) (ps : Ps) (x5 : Option V), σ = [some (.ref a), some (.int n), some (.ref b), some (.ref c), some (.ref d), x5, none] ∧ Same H Hx ∧ Hx d = some (.dK (dkOf ps)) ∧ ∀ r, getP ps r = strT ms i r)
                ⟨D, [(0, 1)], none, rfl, S0, hD0, fun r => by
                  show getP [(0, 1)] r = if r = 0 then 1 else 0
                  by_cases e : r = 0
                  · rw [if_pos e]
                    exact getP_pos e.symm
                  · rw [if_neg e]
                    exact getP_neg fun z => e z.symm⟩ ?_ ?_⟩
              · rintro i σ Hx hi ⟨d, ps, x5, rfl, S, hd, ht⟩
                refine ⟨_, rfl, _, rfl, b, d, ys, ms, ps, rfl, S _ _ hb, hy.same S, hms, by omega, hd, fun p H' ps' S' hp' W Xw => ?_⟩
                refine ⟨p, ps', _, rfl, S.trans S', hp', fun r => ?_⟩
                rw [Xw, show getP ps = strT ms i from funext ht]
                rfl
              · rintro σ Hx ⟨d, ps, x5, rfl, S, hd, ht⟩
                refine ⟨_, rfl, c, rfl, ⟨_, SqT.of (S _ _ hc)⟩, fun D2 nD2 => lc_vals (K := K) (a := c) (xs := zs) (fun i => V.int (getP ps (intOf (ss.getD i .none)) : Nat)) (S _ _ hc) (by omega) nD2 (fun i x Hy hi S2 R hR => ?_) mono_name fun Hy S2 hD => ?_⟩
                · obtain ⟨e, hei, te⟩ := hz.get hi
                  obtain ⟨k, rfl, _, _⟩ := btw_int (hss e (List.mem_of_getElem? hei))
                  obtain rfl := dat_int te
                  have g0 : intOf (ss.getD i .none) = k := by rw [List.getD_eq_getElem?_getD, hei]; rfl
                  refine ⟨rfl, _, rfl, d, rfl, .inl ⟨_, .inl (S2 _ _ hd)⟩, _, rfl, _, DGet.k (k := Sum.inl k) (S2 _ _ hd), ?_⟩
                  rw [val_dk]
                  have z := hR Hy fun _ _ e => e
                  rw [g0] at z
                  exact z
                · have eL : (List.range zs.length).map (fun i => V.int (getP ps (intOf (ss.getD i .none)) : Nat)) = (((List.range zs.length).map fun i => getP ps (intOf (ss.getD i .none))).map fun k : Nat => (k : Int)).map V.int := by
                    rw [List.map_map, List.map_map]
                    rfl
                  rw [eL] at hD
                  refine ⟨D2, _, rfl, SqL.of hD, ?_⟩
                  rw [sum_cast]
                  have z := q Hy (S.trans S2)
                  have e : ((List.range zs.length).map fun i => getP ps (intOf (ss.getD i .none))).sum = strN ms ss n.toNat := by
                    unfold strN
                    congr 1
                    rw [hzl]
                    refine range_map ss _ _ fun i d hdi => ?_
                    have g0 : ss.getD i .none = d := by rw [List.getD_eq_getElem?_getD, hdi]; rfl
                    rw [g0, ht]
                  rw [e]
                  exact z
theorem ok_strsize {f fC : Addr} {fd fdC : FuncData} (F : Fun K "string_size" "string_size" sStrSize f fd) (C : DefOk K mg "count_strings" sCountStr ["automaton", "n"] fC fdC) (GC : FnOk P w K mg base CX0 2 fC fdC ["automaton", "n"] spCountStr) : FnOk P w K mg base CX0 3 f fd ["space"] (spSize 3 pString zStr) := by
  refine F.ok scStrSize (fun vs H Q E h => ?_) (fun cdv A outer s H vs Q E hr h => ?_)
  · obtain ⟨a, xs, ds, rfl, _⟩ := h
    rfl
  · obtain ⟨a, xs, ds, rfl, ha, hx, hl, hp, q⟩ := h
    match ds, hl, hx with
    | [d0, d1, d2], _, .cons (v := x0) t0 (.cons (v := x1) t1 (.cons (v := x2) t2 .nil)) =>
      have hp' : (btw 0 60 d2 && autoB d1) = true := hp
      rw [Bool.and_eq_true] at hp'
      obtain ⟨n, rfl, n0, n60⟩ := btw_int hp'.1
      obtain rfl := dat_int t2
      refine ⟨_, pss_cons (ps_asg (pe_slice sl_tupA (pv 0) (po_some pe_int) po_none) (pg_tup rfl (pgs_cons (pg_name (i := 1) scStrSize.nd rfl (Or.inl rfl)) (pgs_cons (pg_name (i := 2) scStrSize.nd rfl (Or.inl rfl)) pgs_nil))))
        (pss_one (ps_ret (pe_call GC hr rfl C.g C.F.kp C.b .nil pass0 (pa_cons (pv 1) (pa_cons (pv 2) pa_nil))))), ?_⟩
      refine ⟨_, rfl, 1, rfl, ?_⟩
      dsimp only [tNoPart]
      refine slK_of 1 ha fun b Hb Sb hb => ?_
      exact ⟨b, _, rfl, SqT.of hb, rfl, _, _, rfl, _, _, rfl, rfl, _, rfl, _, rfl, x1, d1, n, rfl, t1.same Sb, hp'.2, n0, n60, fun H' S => q H' (Sb.trans S)⟩
end
end K3
set_option maxRecDepth 100000
set_option maxHeartbeats 4000000
namespace K3
open PySem PySem.Spec PyProof.Rows L2
/-! ### an order of L names has at most L! arrangements -/
def fac (n : Nat) : Nat := Builtin.Math.factorialNat n
theorem fac_succ (n : Nat) : fac (n + 1) = fac n * (n + 1) := PySem.W.mc_fac_succ n
theorem fac_pos (n : Nat) : 1 ≤ fac n := PySem.W.mc_fac_pos n
theorem fac_zero : fac 0 = 1 := rfl
theorem fp_fac {a : Nat} : ∀ m : Nat, m ≤ a → Builtin.Math.fallingProduct (a : Int) m * ((fac (a - m) : Nat) : Int) = ((fac a : Nat) : Int)
  | 0, _ => by
    rw [PySem.W.mc_fp_zero, Int.one_mul]
    rfl
  | m + 1, h => by
    have z := fp_fac (a := a) m (by omega)
    have e : a - m = (a - (m + 1)) + 1 := by omega
    rw [e, fac_succ, Int.natCast_mul] at z
    rw [PySem.W.mc_fp_succ, ← z, Int.mul_assoc]
    congr 1
    rw [Int.mul_comm]
    congr 1
    omega
theorem comb_fac {a b : Nat} (h : b ≤ a) : PySem.W.mcComb (a : Int) (b : Int) * ((fac b : Nat) : Int) * ((fac (a - b) : Nat) : Int) ≤ ((fac a : Nat) : Int) := by
  rw [PySem.W.mcComb_at (a := (a : Int)) (b := (b : Int)) (by omega) (by omega) rfl]
  obtain ⟨m, hm⟩ : ∃ m : Nat, min (b : Int) ((a : Int) - (b : Int)) = m := ⟨(min (b : Int) ((a : Int) - (b : Int))).toNat, by omega⟩
  rw [hm, Int.toNat_natCast]
  have z1 := fp_fac (a := a) m (by omega)
  have z2 := fp_fac (a := m) m (Nat.le_refl _)
  rw [Nat.sub_self, fac_zero] at z2
  have z3 : Builtin.Math.fallingProduct (m : Int) m = ((fac m : Nat) : Int) := by
    rw [← z2]
    show _ = _ * 1
    rw [Int.mul_one]
  have p := fac_pos m
  have p2 := fac_pos (a - m)
  rw [z3]
  have le : Builtin.Math.fallingProduct (a : Int) m / ((fac m : Nat) : Int) * ((fac m : Nat) : Int) ≤ Builtin.Math.fallingProduct (a : Int) m := Int.ediv_mul_le _ (by omega)
  have le2 := Int.mul_le_mul_of_nonneg_right le (show (0 : Int) ≤ ((fac (a - m) : Nat) : Int) by omega)
  rw [z1] at le2
  have cs : (m = b ∨ m = a - b) := by omega
  rcases cs with e | e
  · rw [← e]
    exact le2
  · have e1 : a - b = m := e.symm
    have e2 : b = a - m := by omega
    rw [e1, Int.mul_assoc, Int.mul_comm ((fac b : Nat) : Int), ← Int.mul_assoc]
    rw [e2]
    exact le2
theorem mult_fac : ∀ (ns : List Nat) (t : Nat) (w : Int), 1 ≤ w → 1 ≤ multN t w ns ∧ multN t w ns * ((fac t : Nat) : Int) * ((prodN (ns.map fac) : Nat) : Int) ≤ w * ((fac (t + ns.sum) : Nat) : Int)
  | [], t, w, hw => by
    refine ⟨hw, ?_⟩
    show w * ((fac t : Nat) : Int) * ((1 : Nat) : Int) ≤ w * ((fac (t + 0) : Nat) : Int)
    rw [Nat.add_zero]
    show _ * 1 ≤ _
    rw [Int.mul_one]
    exact Int.le_refl _
  | c :: r, t, w, hw => by
    have c1 := (comb_le (a := t + c) (b := c) (by omega)).1
    have hw2 : 1 ≤ w * PySem.W.mcComb ((t + c : Nat) : Int) (c : Int) := by
      have z := Int.mul_le_mul hw c1 (by decide) (by omega)
      omega
    obtain ⟨m1, m2⟩ := mult_fac r (t + c) (w * PySem.W.mcComb ((t + c : Nat) : Int) (c : Int)) hw2
    have cf := comb_fac (a := t + c) (b := c) (by omega)
    rw [show t + c - c = t by omega] at cf
    rw [multN]
    refine ⟨m1, ?_⟩
    generalize hX : multN (t + c) (w * PySem.W.mcComb ((t + c : Nat) : Int) (c : Int)) r = X at m1 m2 ⊢
    generalize hC : PySem.W.mcComb ((t + c : Nat) : Int) (c : Int) = C at m2 cf c1 hw2
    have eS : t + (c :: r).sum = t + c + r.sum := by rw [List.sum_cons]; omega
    rw [eS]
    have eP : prodN ((c :: r).map fac) = fac c * prodN (r.map fac) := rfl
    rw [eP]
    have pT := fac_pos t
    have pC := fac_pos c
    have pTC := fac_pos (t + c)
    generalize fac (t + c + r.sum) = F at m2 ⊢
    generalize prodN (r.map fac) = R at m2 ⊢
    generalize fac (t + c) = A at m2 cf pTC
    generalize fac t = T at cf pT ⊢
    generalize fac c = D at cf pC ⊢
    rw [Int.natCast_mul]
    -- X * A * R ≤ w * C * F;  C * D * T ≤ A;  want X * T * (D * R) ≤ w * F
    have g : (A : Int) * (X * (T : Int) * ((D : Int) * (R : Int))) ≤ (A : Int) * (w * (F : Int)) := by
      have e1 : (A : Int) * (X * (T : Int) * ((D : Int) * (R : Int))) = X * (A : Int) * (R : Int) * ((D : Int) * (T : Int)) := by
        ac_rfl
      have e2 : w * C * (F : Int) * ((D : Int) * (T : Int)) = C * (D : Int) * (T : Int) * (w * (F : Int)) := by ac_rfl
      have s1 : X * (A : Int) * (R : Int) * ((D : Int) * (T : Int)) ≤ w * C * (F : Int) * ((D : Int) * (T : Int)) := Int.mul_le_mul_of_nonneg_right m2 (Int.mul_nonneg (by omega) (by omega))
      have s2 : C * (D : Int) * (T : Int) * (w * (F : Int)) ≤ (A : Int) * (w * (F : Int)) := Int.mul_le_mul_of_nonneg_right cf (Int.mul_nonneg (by omega) (by omega))
      rw [e1]
      rw [e2] at s1
      exact Int.le_trans s1 s2
    exact Int.le_of_mul_le_mul_left g (by omega)
theorem fac_mono {a b : Nat} (h : a ≤ b) : fac a ≤ fac b := by
  induction h with
  | refl => exact Nat.le_refl _
  | step _ ih =>
    rw [fac_succ]
    exact Nat.le_trans ih (Nat.le_mul_of_pos_right _ (by omega))
theorem fac_big {n : Nat} (h : n ≤ 400) : fac n ≤ 2 ^ 3600 := Nat.le_trans (fact_le n h) (Nat.pow_le_pow_right (by decide) (by omega))
/-- sizes of orders, one by one -/
inductive Bd (len : PyData → Nat) : List Nat → List PyData → Prop
  | nil : Bd len [] []
  | cons {k : Nat} {e : PyData} {ks : List Nat} {es : List PyData} : 1 ≤ k → k ≤ fac (len e) → Bd len ks es → Bd len (k :: ks) (e :: es)
theorem Bd.snoc {len : PyData → Nat} {k : Nat} {e : PyData} : ∀ {ks : List Nat} {es : List PyData}, Bd len ks es → 1 ≤ k → k ≤ fac (len e) → Bd len (ks ++ [k]) (es ++ [e])
  | _, _, .nil, a, b => .cons a b .nil
  | _, _, .cons x y t, a, b => .cons x y (t.snoc a b)
theorem Bd.length {len : PyData → Nat} : ∀ {ks : List Nat} {es : List PyData}, Bd len ks es → ks.length = es.length
  | _, _, .nil => rfl
  | _, _, .cons _ _ t => congrArg (· + 1) t.length
theorem Bd.pos {len : PyData → Nat} : ∀ {ks : List Nat} {es : List PyData}, Bd len ks es → ∀ k ∈ ks, 1 ≤ k
  | _, _, .nil, k, h => by cases h
  | _, _, .cons x _ t, k, h => by
    rcases List.mem_cons.mp h with e | e
    · rw [e]
      exact x
    · exact t.pos k e
theorem Bd.each {len : PyData → Nat} {m : Nat} : ∀ {ks : List Nat} {es : List PyData}, Bd len ks es → (∀ e ∈ es, len e ≤ m) → ∀ k ∈ ks, k ≤ fac m
  | _, _, .nil, _, k, h => by cases h
  | _, _, .cons _ y t, hm, k, h => by
    rcases List.mem_cons.mp h with e | e
    · rw [e]
      exact Nat.le_trans y (fac_mono (hm _ (by simp)))
    · exact t.each (fun e he => hm e (by simp [he])) k e
theorem Bd.prod {len : PyData → Nat} : ∀ {ks : List Nat} {es : List PyData}, Bd len ks es → prodN ks ≤ prodN ((es.map len).map fac)
  | _, _, .nil => Nat.le_refl _
  | _, _, .cons _ y t => Nat.mul_le_mul y t.prod
/-- sizes and the multinomial together -/
theorem Bd.all {len : PyData → Nat} {ks : List Nat} {es : List PyData} (h : Bd len ks es) : prodN ks ≤ fac (es.map len).sum ∧ ∀ M : Nat, multN 0 1 (es.map len) = M → 1 ≤ M ∧ prodN ks * M ≤ fac (es.map len).sum := by
  obtain ⟨m1, m2⟩ := mult_fac (es.map len) 0 1 (by decide)
  rw [fac_zero, Nat.zero_add, Int.one_mul] at m2
  have p := h.prod
  have key : ∀ M : Nat, multN 0 1 (es.map len) = M → 1 ≤ M ∧ prodN ks * M ≤ fac (es.map len).sum := fun M e => by
    rw [e] at m1 m2
    have q : M * prodN ((es.map len).map fac) ≤ fac (es.map len).sum := by
      have z : (M : Int) * ((1 : Nat) : Int) * ((prodN ((es.map len).map fac) : Nat) : Int) = ((M * prodN ((es.map len).map fac) : Nat) : Int) := by
        rw [Int.natCast_mul]
        show (M : Int) * 1 * _ = _
        rw [Int.mul_one]
      rw [z] at m2
      omega
    refine ⟨by omega, Nat.le_trans ?_ q⟩
    rw [Nat.mul_comm]
    exact Nat.mul_le_mul_left _ p
  obtain ⟨M, hM⟩ : ∃ M : Nat, multN 0 1 (es.map len) = M := ⟨(multN 0 1 (es.map len)).toNat, by omega⟩
  obtain ⟨a, b⟩ := key M hM
  exact ⟨Nat.le_trans (Nat.le_mul_of_pos_right _ a) b, key⟩
end K3
set_option maxRecDepth 100000
set_option maxHeartbeats 4000000
namespace L2
open PySem PySem.Spec PyProof.Rows
/-- len of a list or a tuple -/
def rLenS (K : PySem.W.Frag) : List V → Hp → VK → Prop := fun xs H Q => ∃ p ys, xs = [.ref p] ∧ (SqL K H p ys ∨ SqT K H p ys) ∧ Q (.int ys.length) H
theorem cr_lenS {X : Cx} : CallR X (.builtin "len") (rLenS X.K) := call_len_seq
end L2
namespace K3
open PySem PySem.Spec PyProof.Rows L2
/-! ### order_size, arrangement_size -/
abbrev sOSize : Stmt := top 37
abbrev sArrSize : Stmt := top 64
def lenN (m : Nat) (e : PyData) : Nat := (namesN m e).length
/-- the number of arrangements of an order -/
def oszN : Nat → PyData → Nat
  | 0, _ => 1
  | m + 1, d => if eqStr "item" (at0 (tupItems d) 0) = true then 1 else prodN ((tupItems (at0 (tupItems d) 1)).map (oszN m)) * (if eqStr "parallel" (at0 (tupItems d) 0) = true then (multN 0 1 ((tupItems (at0 (tupItems d) 1)).map (lenN m))).toNat else 1)
def spOSize (n : Nat) : Sp := fun vs H Q _ => ∃ (v : V) (d : PyData), vs = [v] ∧ n ≤ 6 ∧ Dat H v d ∧ orderB n d = true ∧ (namesN n d).length ≤ 400 ∧ ∀ (H' : Hp) (k : Nat), Same H H' → 1 ≤ k → k ≤ fac (namesN n d).length → k = oszN n d → Q (.int (k : Nat)) H'
theorem flat_sum {f : PyData → List Str} : ∀ es : List PyData, (es.flatMap f).length = (es.map fun e => (f e).length).sum
  | [] => rfl
  | a :: l => by
    rw [List.flatMap_cons, List.length_append, List.map_cons, List.sum_cons, flat_sum l]
theorem le_flat {f : PyData → List Str} : ∀ {es : List PyData} {e : PyData}, e ∈ es → (f e).length ≤ (es.flatMap f).length
  | a :: l, e, h => by
    rw [List.flatMap_cons, List.length_append]
    rcases List.mem_cons.mp h with z | z
    · rw [z]
      omega
    · have y := le_flat (f := f) z
      omega
section
variable {P : Program} {w : World} {K : PySem.W.Frag} {mg : Str → Option Value} {base : Heap}
theorem scOSize : FnScope ["order", "word", "rest", "size", "inner"] ["order"] (defScope sOSize) := ⟨rfl, rfl, rfl, by decide +kernel, rfl, by decide +kernel, by decide +kernel⟩
/-- what bounds it -/
theorem osz_bd : ∀ (n : Nat) (d : PyData), orderB n d = true → 1 ≤ oszN n d ∧ oszN n d ≤ fac (namesN n d).length
  | 0, _, h => Bool.noConfusion ((show false = true from h) : false = true)
  | m + 1, d, h => by
    obtain ⟨d0, d1, rfl, hh⟩ := order_cases h
    have eN : namesN (m + 1) (.tuple [d0, d1]) = if eqStr "item" d0 = true then [strOf d1] else (tupItems d1).flatMap (namesN m) := by rw [namesN]; rfl
    have eO : oszN (m + 1) (.tuple [d0, d1]) = if eqStr "item" d0 = true then 1 else prodN ((tupItems d1).map (oszN m)) * (if eqStr "parallel" d0 = true then (multN 0 1 ((tupItems d1).map (lenN m))).toNat else 1) := by rw [oszN]; rfl
    rw [eN, eO]
    rcases hh with ⟨h0, _⟩ | ⟨h0, es, rfl, q2, q6, hes⟩
    · rw [h0, if_pos rfl, if_pos rfl]
      exact ⟨Nat.le_refl _, fac_pos _⟩
    · rw [h0, if_neg Bool.false_ne_true, if_neg Bool.false_ne_true]
      show 1 ≤ prodN (es.map (oszN m)) * (if eqStr "parallel" d0 = true then (multN 0 1 (es.map (lenN m))).toNat else 1) ∧ prodN (es.map (oszN m)) * (if eqStr "parallel" d0 = true then (multN 0 1 (es.map (lenN m))).toNat else 1) ≤ fac (es.flatMap (namesN m)).length
      have B : Bd (lenN m) (es.map (oszN m)) es := by
        clear eN eO h q2 q6
        induction es with
        | nil => exact .nil
        | cons e l ih =>
          have z := osz_bd m e (hes e (by simp))
          exact .cons z.1 z.2 (ih fun x hx => hes x (by simp [hx]))
      obtain ⟨b1, b2⟩ := B.all
      have pp : 1 ≤ prodN (es.map (oszN m)) := prod_pos B.pos
      obtain ⟨m1, _⟩ := mult_fac (es.map (lenN m)) 0 1 (by decide)
      obtain ⟨m1', m2⟩ := b2 (multN 0 1 (es.map (lenN m))).toNat (by omega)
      rw [flat_sum es]
      cases eqStr "parallel" d0 with
      | true =>
        rw [if_pos rfl]
        exact ⟨Nat.mul_le_mul pp m1', m2⟩
      | false =>
        rw [if_neg Bool.false_ne_true, Nat.mul_one]
        exact ⟨pp, b1⟩
theorem scArrSize : FnScope ["space"] ["space"] (defScope sArrSize) := ⟨rfl, rfl, rfl, by decide +kernel, rfl, by decide +kernel, by decide +kernel⟩
/-- what is known of multiply -/
structure MulOk (P : Program) (w : World) (K : PySem.W.Frag) (mg : Str → Option Value) (base : Heap) where
  f : Addr
  fd : FuncData
  F : FunD K "multiply" "multiply" (defArgs sMul) (defBody sMul) (defScope sMul) [.non] [] f fd
  b : L2.Binds K fd ["factors", "bound"] [Value.none]
  g : mg "multiply" = some (.ref f)
theorem osize_body {f fN fM : Addr} {fd fdN fdM : FuncData} {sp : Sp} (n : Nat) (F : Fun K "order_size" "order_size" sOSize f fd) (b : L2.Binds K fd ["order"] []) (g : mg "order_size" = some (.ref f)) (G : FnOk P w K mg base CX0 (1 + n) f fd ["order"] sp) (T : Nm mg)
    (N : DefOk K mg "names_of" sNames ["order"] fN fdN) (U : MulOk P w K mg base) (M : DefOk K mg "multinomial" sMulti ["counts"] fM fdM) (c : mg "comb" = some (.builtin "math.comb"))
    (hn : ∀ m, n = m + 1 → n ≤ 6 → ∀ (x : V) (d : PyData) (H : Hp) (R : VK), Dat H x d → orderB m d = true → (namesN m d).length ≤ 400 → (∀ (H' : Hp) (k : Nat), Same H H' → 1 ≤ k → k ≤ fac (namesN m d).length → k = oszN m d → R (.int (k : Nat)) H') → sp [x] H R E0) : FnOk P w K mg base CX0 (2 + n) f fd ["order"] (spOSize n) := by
  have GU : FnOk P w K mg base CX0 1 U.f U.fd ["factors", "bound"] spMul := ok_mul U.F
  have GM : FnOk P w K mg base CX0 1 fM fdM ["counts"] spMulti := ok_multi M.F c
  have GN := ok_names (P := P) (w := w) (base := base) N.F N.b N.g (n - 1)
  rw [show 2 + n = (1 + n) + 1 by omega]
  refine F.ok scOSize (fun vs H Q E h => ?_) (fun cdv A outer s H vs Q E hr h => ?_)
  · obtain ⟨v, d, rfl, _⟩ := h
    rfl
  · obtain ⟨v, d, rfl, h6, hd, ho, h400, q⟩ := h
    have hu0 := hr.units0
    have hr1 : Room 1 _ := hr.mono (by omega)
    have hrN : Room (1 + (n - 1)) _ := hr.mono (by omega)
    refine ⟨_, pss_cons (ps_asg (pv 0) (pg_tup rfl (pgs_cons (pg_name (i := 1) scOSize.nd rfl (Or.inl rfl)) (pgs_cons (pg_name (i := 2) scOSize.nd rfl (Or.inl rfl)) pgs_nil))))
      (pss_cons (ps_if (pt_cmpR (op_eqStr hu0) (pv 1) pe_str (nomark _)) (pss_one (ps_ret pe_int)) pss_nil)
      (pss_cons (ps_set (i := 3) scOSize.nd rfl (Or.inl rfl) (pe_call GU hr1 rfl U.g U.F.kp U.b (Paired.cons (F := RelV) (a := .non) (b := Value.none) rfl .nil) pass0 (pa_cons (pe_lc (own := [("inner", 4)]) (g := gName 4) (tt := tYes) rfl scOSize.nd (pi_tup (pv 2)) (blkOk_by (N := ["order", "word", "rest", "size", "inner"]) (sc := defScope sOSize) (by decide +kernel))
          (fun _ _ _ _ _ => pg_name (i := 4) scOSize.nd rfl (Or.inl rfl)) (fun _ _ _ _ _ => pts_nil) (fun _ _ _ _ _ => pe_call G hr rfl g F.kp b .nil pass0 (pa_cons (pv 4) pa_nil))) pa_nil)))
      (pss_cons (ps_if (pt_cmpR (op_eqStr hu0) (pv 1) pe_str (nomark _)) (pss_one (ps_set (i := 3) scOSize.nd rfl (Or.inl rfl) (pe_op op_mulW (pv 3) (pe_call GM hr1 rfl M.g M.F.kp M.b .nil pass0 (pa_cons (pe_lc (own := [("inner", 4)]) (g := gName 4) (tt := tYes) (te := tCB (rLenS K) (tCons (tCall (spNames (n - 1)) [] E0 (tCons (tVar 4) tNil)) tNil)) rfl scOSize.nd (pi_tup (pv 2)) (blkOk_by (N := ["order", "word", "rest", "size", "inner"]) (sc := defScope sOSize) (by decide +kernel))
          (fun _ _ _ _ _ => pg_name (i := 4) scOSize.nd rfl (Or.inl rfl)) (fun _ _ _ _ _ => pts_nil) (fun _ _ _ _ _ => pe_callB cr_lenS (by rfl) T.len PySem.boot_len (pa_cons (pe_call GN hrN rfl N.g N.F.kp N.b .nil pass0 (pa_cons (pv 4) pa_nil)) pa_nil))) pa_nil))))) pss_nil)
      (pss_one (ps_ret (pv 3)))))), ?_⟩
    cases n with
    | zero => exact Bool.noConfusion ((show false = true from ho) : false = true)
    | succ m =>
      obtain ⟨d0, d1, rfl, hh⟩ := order_cases ho
      have eN : namesN (m + 1) (.tuple [d0, d1]) = if eqStr "item" d0 = true then [strOf d1] else (tupItems d1).flatMap (namesN m) := by rw [namesN]; rfl
      have eO : oszN (m + 1) (.tuple [d0, d1]) = if eqStr "item" d0 = true then 1 else prodN ((tupItems d1).map (oszN m)) * (if eqStr "parallel" d0 = true then (multN 0 1 ((tupItems d1).map (lenN m))).toNat else 1) := by rw [oszN]; rfl
      rw [eN, eO] at q
      rw [eN] at h400
      cases hd with
      | @tup a xs _ ha hx =>
        cases hx with
        | @cons x0 _ _ _ c0 t0 =>
          cases t0 with
          | @cons x1 _ _ _ c1 t1 =>
            cases t1
            refine ⟨_, rfl, a, _, rfl, SqT.of ha, rfl, _, _, rfl, _, _, rfl, rfl, _, rfl, d0, "item", c0, rfl, _, rfl, ?_⟩
            rcases hh with ⟨h0, hn1⟩ | ⟨h0, es, rfl, l2, l6, hes⟩
            · rw [h0] at q ⊢
              exact if_t rfl (q H 1 (Same.refl H) (by decide) (fac_pos _) rfl)
            · rw [h0] at q h400 ⊢
              have q1 : ∀ (H' : Hp) (k : Nat), Same H H' → 1 ≤ k → k ≤ fac (es.flatMap (namesN m)).length → k = prodN (es.map (oszN m)) * (if eqStr "parallel" d0 = true then (multN 0 1 (es.map (lenN m))).toNat else 1) → Q (.int (k : Nat)) H' := q
              have h4 : (es.flatMap (namesN m)).length ≤ 400 := h400
              have eSum : (es.flatMap (namesN m)).length = (es.map (lenN m)).sum := flat_sum es
              cases c1 with
              | @tup a2 ys _ ha2 hx2 =>
                have hl2 := hx2.len
                refine if_f rfl ⟨_, rfl, a2, rfl, ⟨_, SqT.of ha2⟩, fun D nD => lc_tup (K := K) (a := a2) (xs := ys) (fun j Hx => Same H Hx ∧ ∃ ks : List Nat, Hx D = some (.lst (vints ks)) ∧ Bd (lenN m) ks (es.take j) ∧ ks = (es.take j).map (oszN m))
                  ⟨same_new nD, [], by rw [upd_same]; rfl, by rw [List.take_zero]; exact .nil, rfl⟩ (fun j Hx _ ⟨S, _⟩ => SqT.of (S _ _ ha2)) ?_ ?_⟩
                · rintro i x Hx hi ⟨S, ks, hD, B, eK⟩
                  obtain ⟨e, hei, te⟩ := hx2.get hi
                  have hem := List.mem_of_getElem? hei
                  have hlt : i < es.length := (List.getElem?_eq_some_iff.mp hei).1
                  have le1 := le_flat (f := namesN m) hem
                  refine ⟨rfl, _, rfl, hn m rfl h6 x e Hx _ (te.same S) (hes e hem) (by omega) fun H' k S' k1 k2 k3 => ⟨_, S' _ _ hD, ?_, grow nD (S.trans S'), ks ++ [k], ?_, ?_, ?_⟩⟩
                  · have z := B.length
                    unfold vints
                    rw [List.length_map, z, List.length_take, sizeLine_eq]
                    omega
                  · rw [upd_same]
                    unfold vints
                    rw [List.map_append]
                    rfl
                  · rw [List.take_add_one, hei]
                    exact B.snoc k1 k2
                  · rw [List.take_add_one, hei, List.map_append, eK, k3]
                    rfl
                · rintro Hx ⟨S, ks, hD, B, eK⟩
                  rw [hl2, List.take_length] at B eK
                  obtain ⟨b1, b2⟩ := B.all
                  have le0 : prodN ks ≤ 2 ^ 3600 := Nat.le_trans b1 (fac_big (by omega))
                  have up : (2 : Nat) ^ 3600 < 2 ^ 400000 := Nat.pow_lt_pow_right (by decide) (by decide)
                  have pp : 1 ≤ prodN ks := prod_pos B.pos
                  refine ⟨D, ks, rfl, hD, fun _ => Nat.lt_of_le_of_lt le0 up, fun k hk => ?_, fun z => ?_, fun _ => ?_⟩
                  · have z := B.each (m := 400) (fun e he => Nat.le_trans (le_flat (f := namesN m) he) h4) k hk
                    exact Nat.lt_of_le_of_lt (Nat.le_trans z (fac_big (by decide))) up
                  · have z2 := B.pos 0 z
                    omega
                  · refine ⟨_, rfl, d0, "parallel", c0.same S, rfl, _, rfl, ?_⟩
                    cases h1 : eqStr "parallel" d0 with
                    | false =>
                      refine if_f rfl ⟨_, rfl, q1 Hx _ S pp ?_ ?_⟩
                      · rw [eSum]
                        exact b1
                      · rw [h1, if_neg Bool.false_ne_true, eK, Nat.mul_one]
                    | true =>
                      refine if_t rfl ⟨_, rfl, _, rfl, a2, rfl, ⟨_, SqT.of (S _ _ ha2)⟩, fun D2 nD2 => lc_vals (K := K) (a := a2) (xs := ys) (fun i => V.int (lenN m (es.getD i .none) : Nat)) (S _ _ ha2) (by omega) nD2 (fun i x Hy hi S2 R hR => ?_) mono_name fun Hy S2 hD2 => ?_⟩
                      · obtain ⟨e, hei, te⟩ := hx2.get hi
                        have hem := List.mem_of_getElem? hei
                        have g0 : es.getD i .none = e := by rw [List.getD_eq_getElem?_getD, hei]; rfl
                        rw [g0] at hR
                        refine ⟨rfl, _, rfl, x, e, rfl, by omega, (te.same S).same S2, hes e hem, fun p H' S' np hp => ⟨p, _, rfl, .inl (SqL.of hp), ?_⟩⟩
                        have z := hR H' S'
                        rw [List.length_map]
                        exact z
                      · have eL : (List.range ys.length).map (fun i => V.int (lenN m (es.getD i .none) : Nat)) = (es.map (lenN m)).map fun n : Nat => V.int (n : Int) := by
                          rw [hl2, List.map_map]
                          refine range_map es _ _ fun i d hdi => ?_
                          have g0 : es.getD i .none = d := by rw [List.getD_eq_getElem?_getD, hdi]; rfl
                          rw [g0]
                          rfl
                        rw [eL] at hD2
                        refine ⟨D2, es.map (lenN m), rfl, hD2, by omega, fun z1 z2 => ?_⟩
                        obtain ⟨Mn, hM⟩ : ∃ M : Nat, multN 0 1 (es.map (lenN m)) = M := ⟨(multN 0 1 (es.map (lenN m))).toNat, by omega⟩
                        obtain ⟨m1, m2⟩ := b2 Mn hM
                        rw [hM]
                        have le3 : Mn ≤ fac (es.map (lenN m)).sum := Nat.le_trans (Nat.le_mul_of_pos_left _ pp) m2
                        have le4 : fac (es.map (lenN m)).sum < 2 ^ 3601 := Nat.lt_of_le_of_lt (fac_big (by omega)) (Nat.pow_lt_pow_right (by decide) (by decide))
                        have w1 : ((prodN ks : Nat) : Int).natAbs < 2 ^ 3601 := by
                          rw [Int.natAbs_natCast]
                          exact Nat.lt_of_le_of_lt b1 le4
                        have w2 : ((Mn : Nat) : Int).natAbs < 2 ^ 3601 := by
                          rw [Int.natAbs_natCast]
                          exact Nat.lt_of_le_of_lt le3 le4
                        refine ⟨_, _, rfl, rfl, wide_mul w1 w2 (by decide) (by decide) (by decide), _, rfl, ?_⟩
                        show Q (.int (((prodN ks : Nat) : Int) * ((Mn : Nat) : Int))) Hy
                        rw [← Int.natCast_mul]
                        refine q1 Hy _ (S.trans S2) (Nat.mul_le_mul pp m1) ?_ ?_
                        · rw [eSum]
                          exact m2
                        · rw [h1, if_pos rfl, eK, hM, Int.toNat_natCast]
theorem ok_osize {f fN fM : Addr} {fd fdN fdM : FuncData} (F : Fun K "order_size" "order_size" sOSize f fd) (b : L2.Binds K fd ["order"] []) (g : mg "order_size" = some (.ref f)) (T : Nm mg)
    (N : DefOk K mg "names_of" sNames ["order"] fN fdN) (U : MulOk P w K mg base) (M : DefOk K mg "multinomial" sMulti ["counts"] fM fdM) (c : mg "comb" = some (.builtin "math.comb")) : ∀ n : Nat, FnOk P w K mg base CX0 (2 + n) f fd ["order"] (spOSize n)
  | 0 => osize_body (sp := fun _ _ _ _ => False) 0 F b g fn_none T N U M c fun m e => by cases e
  | n + 1 => by
    have G := ok_osize F b g T N U M c n
    rw [show 2 + n = 1 + (n + 1) by omega] at G
    refine osize_body (n + 1) F b g G T N U M c fun m e l6 x d H R hd ho hl hR => ?_
    obtain rfl : n = m := Nat.succ.inj e
    exact ⟨x, d, rfl, by omega, hd, ho, hl, hR⟩
def zArr (ds : List PyData) : Int := (oszN 6 (at0 ds 1) : Nat)
theorem ok_arrsize {f fO : Addr} {fd fdO : FuncData} (F : Fun K "arrangement_size" "arrangement_size" sArrSize f fd) (O : DefOk K mg "order_size" sOSize ["order"] fO fdO) (GO : FnOk P w K mg base CX0 8 fO fdO ["order"] (spOSize 6)) : FnOk P w K mg base CX0 9 f fd ["space"] (spSize 2 pArr zArr) := by
  refine F.ok scArrSize (fun vs H Q E h => ?_) (fun cdv A outer s H vs Q E hr h => ?_)
  · obtain ⟨a, xs, ds, rfl, _⟩ := h
    rfl
  · obtain ⟨a, xs, ds, rfl, ha, hx, hl, hp, q⟩ := h
    match ds, hl, hx with
    | [d0, d1], _, .cons (v := x0) t0 (.cons (v := x1) t1 .nil) =>
      have hp' : (orderB 6 d1 && (decide (((namesN 6 d1).length : Int) ≤ 400) && decide ((S2.cnt (namesN 6 d1) (namesN 6 d1).length : Int) = ((namesN 6 d1).length : Int)))) = true := hp
      rw [Bool.and_eq_true, Bool.and_eq_true] at hp'
      have h4 : ((namesN 6 d1).length : Int) ≤ 400 := of_decide_eq_true hp'.2.1
      refine ⟨_, pss_one (ps_ret (pe_call GO hr rfl O.g O.F.kp O.b .nil pass0 (pa_cons (pe_ix ix_tup (pv 0) pe_int (fun _ _ => rfl)) pa_nil))), ?_⟩
      refine ⟨_, rfl, a, _, _, _, rfl, rfl, SqT.of ha, atI_nat (j := 1) rfl, x1, d1, rfl, by decide, t1, hp'.1, by omega, fun H' k S k1 k2 k3 => ?_⟩
      rw [k3]
      exact q H' S
end
end K3
set_option maxRecDepth 100000
set_option maxHeartbeats 4000000
namespace K3
open PySem PySem.Spec PyProof.Rows L2
/-! ### binomials by Pascal's rule -/
def chN : Nat → Nat → Nat
  | _, 0 => 1
  | 0, _ + 1 => 0
  | n + 1, k + 1 => chN n k + chN n (k + 1)
theorem ch_zero (n : Nat) : chN n 0 = 1 := by cases n <;> rfl
theorem ch_succ (n k : Nat) : chN (n + 1) (k + 1) = chN n k + chN n (k + 1) := rfl
theorem ch_out : ∀ {n k : Nat}, n < k → chN n k = 0
  | 0, 0, h => by omega
  | 0, k + 1, _ => rfl
  | n + 1, 0, h => by omega
  | n + 1, k + 1, h => by rw [ch_succ, ch_out (show n < k by omega), ch_out (show n < k + 1 by omega)]
theorem ch_self : ∀ n : Nat, chN n n = 1
  | 0 => rfl
  | n + 1 => by rw [ch_succ, ch_self n, ch_out (Nat.lt_succ_self n)]
theorem ch_fac : ∀ {n k : Nat}, k ≤ n → chN n k * (fac k * fac (n - k)) = fac n
  | n, 0, _ => by
    rw [ch_zero, Nat.one_mul, Nat.sub_zero, fac_zero, Nat.one_mul]
  | 0, k + 1, h => by omega
  | n + 1, k + 1, h => by
    by_cases e : k = n
    · rw [e, ch_self, Nat.sub_self, fac_zero, Nat.mul_one, Nat.one_mul]
    · have z1 := ch_fac (n := n) (k := k) (by omega)
      have z2 := ch_fac (n := n) (k := k + 1) (by omega)
      have e1 : n - k = (n - (k + 1)) + 1 := by omega
      have e2 : n + 1 - (k + 1) = (n - (k + 1)) + 1 := by omega
      rw [ch_succ, e2, fac_succ n, Nat.add_mul]
      rw [e1] at z1
      have y1 : chN n k * (fac (k + 1) * fac (n - (k + 1) + 1)) = fac n * (k + 1) := by
        rw [← z1, fac_succ k]
        ac_rfl
      have y2 : chN n (k + 1) * (fac (k + 1) * fac (n - (k + 1) + 1)) = fac n * (n - (k + 1) + 1) := by
        rw [← z2, fac_succ (n - (k + 1))]
        ac_rfl
      rw [y1, y2, ← Nat.mul_add]
      congr 1
      omega
theorem ch_div {n k : Nat} (h : k ≤ n) : fac n / (fac k * fac (n - k)) = chN n k := by
  rw [← ch_fac h]
  exact Nat.mul_div_cancel _ (Nat.mul_pos (fac_pos k) (fac_pos (n - k)))
/-- n (n - 1) … , k factors -/
def fallN (n : Nat) : Nat → Nat
  | 0 => 1
  | k + 1 => fallN n k * (n - k)
theorem fall_fac {n : Nat} : ∀ {k : Nat}, k ≤ n → fallN n k * fac (n - k) = fac n
  | 0, _ => by
    show 1 * _ = _
    rw [Nat.one_mul]
    rfl
  | k + 1, h => by
    have z := fall_fac (n := n) (k := k) (by omega)
    have e1 : n - k = (n - (k + 1)) + 1 := by omega
    rw [e1, fac_succ] at z
    rw [← z]
    show fallN n k * (n - k) * _ = _
    rw [e1]
    ac_rfl
theorem fall_div {n k : Nat} (h : k ≤ n) : fallN n k / fac k = chN n k := by
  rw [← ch_div h, ← Nat.mul_div_mul_right (fallN n k) (fac k) (fac_pos (n - k)), fall_fac h]
theorem fp_nat {n : Nat} : ∀ {k : Nat}, k ≤ n → Builtin.Math.fallingProduct (n : Int) k = ((fallN n k : Nat) : Int)
  | 0, _ => PySem.W.mc_fp_zero _
  | k + 1, h => by
    rw [PySem.W.mc_fp_succ, fp_nat (n := n) (k := k) (by omega)]
    show _ = (((fallN n k * (n - k)) : Nat) : Int)
    rw [Int.natCast_mul]
    congr 1
    omega
theorem fall_self (m : Nat) : fallN m m = fac m := by
  have z := fall_fac (Nat.le_refl m)
  rw [Nat.sub_self, fac_zero, Nat.mul_one] at z
  exact z
theorem comb_ch {n k : Nat} (h : k ≤ n) : PySem.W.mcComb (n : Int) (k : Int) = ((chN n k : Nat) : Int) := by
  rw [PySem.W.mcComb_at (a := (n : Int)) (b := (k : Int)) (by omega) (by omega) rfl]
  obtain ⟨m, hm⟩ : ∃ m : Nat, min (k : Int) ((n : Int) - (k : Int)) = m := ⟨(min (k : Int) ((n : Int) - (k : Int))).toNat, by omega⟩
  rw [hm, Int.toNat_natCast, fp_nat (n := n) (k := m) (by omega), fp_nat (n := m) (k := m) (Nat.le_refl m), fall_self, ← Int.natCast_ediv, fall_div (by omega)]
  have cs : (m = k ∨ m = n - k) := by omega
  rcases cs with e | e
  · rw [e]
  · have z1 := ch_div (n := n) (k := m) (by omega)
    have z2 := ch_div (n := n) (k := k) h
    rw [← z1, ← z2, e, show n - (n - k) = k by omega, Nat.mul_comm]
theorem ch_pos {n k : Nat} (h : k ≤ n) : 1 ≤ chN n k := by
  have z := ch_fac h
  have p := fac_pos n
  cases hc : chN n k with
  | zero => rw [hc, Nat.zero_mul] at z; omega
  | succ m => omega
/-! ### permutations without fixed places, by differences -/
theorem perm_eq (n m : Nat) : ∀ h : Nat, h ≤ m + 1 → permN n m h = permN n m h := fun _ _ => rfl
theorem sgn_succ (h : Nat) : sgn (h + 1) = - sgn h := by
  rfl
/-- C(m, h) by Pascal, zero beyond -/
theorem perm_step (n m : Nat) : ∀ h : Nat, h ≤ m + 2 → 
    ((List.range h).map fun i => sgn i * ((chN (m + 1) i : Nat) : Int) * ((fac (n + 1 - i) : Nat) : Int)).sum =
    ((List.range h).map fun i => sgn i * ((chN m i : Nat) : Int) * ((fac (n + 1 - i) : Nat) : Int)).sum - ((List.range (h - 1)).map fun i => sgn i * ((chN m i : Nat) : Int) * ((fac (n - i) : Nat) : Int)).sum := by
  intro h
  induction h with
  | zero => intro _; rfl
  | succ h ih =>
    intro hh
    have z := ih (by omega)
    rw [List.range_succ, List.map_append, List.sum_append, List.map_append, List.sum_append, z]
    cases h with
    | zero =>
      show _ + (_ * ((chN (m + 1) 0 : Nat) : Int) * _ + 0) = _ + (_ * ((chN m 0 : Nat) : Int) * _ + 0) - _
      rw [ch_zero, ch_zero]
      rfl
    | succ k =>
      have e : k + 1 + 1 - 1 = k + 1 := rfl
      have e' : k + 1 - 1 = k := rfl
      rw [e, e', List.range_succ (n := k), List.map_append, List.sum_append, List.map_append, List.sum_append]
      show _ + (sgn (k + 1) * ((chN (m + 1) (k + 1) : Nat) : Int) * ((fac (n + 1 - (k + 1)) : Nat) : Int) + 0) = _ + (sgn (k + 1) * ((chN m (k + 1) : Nat) : Int) * ((fac (n + 1 - (k + 1)) : Nat) : Int) + 0) - (_ + (sgn k * ((chN m k : Nat) : Int) * ((fac (n - k) : Nat) : Int) + 0))
      rw [ch_succ, show n + 1 - (k + 1) = n - k by omega, sgn_succ, Int.natCast_add, Int.mul_add, Int.add_mul]
      generalize sgn k = s
      generalize ((fac (n - k) : Nat) : Int) = f
      generalize ((chN m k : Nat) : Int) = c
      generalize ((chN m (k + 1) : Nat) : Int) = c2
      rw [Int.neg_mul, Int.neg_mul, Int.neg_mul, Int.neg_mul]
      omega
theorem perm_sum (n m : Nat) : ∀ h : Nat, h ≤ m + 1 → permN n m h = ((List.range h).map fun i => sgn i * ((chN m i : Nat) : Int) * ((fac (n - i) : Nat) : Int)).sum
  | 0, _ => rfl
  | h + 1, hh => by
    rw [permN, perm_sum n m h (by omega), comb_ch (show h ≤ m by omega), List.range_succ, List.map_append, List.sum_append]
    show _ = _ + (_ + 0)
    rw [Int.add_zero]
    rfl
/-- the next difference -/
theorem perm_diff (n m : Nat) : permN (n + 1) (m + 1) (m + 2) = permN (n + 1) m (m + 1) - permN n m (m + 1) := by
  rw [perm_sum _ _ _ (Nat.le_refl _), perm_sum _ _ _ (Nat.le_refl _), perm_sum _ _ _ (Nat.le_refl _), perm_step n m (m + 2) (Nat.le_refl _)]
  rw [show m + 2 = (m + 1) + 1 from rfl, List.range_succ (n := m + 1), List.map_append, List.sum_append]
  show _ + (_ * ((chN m (m + 1) : Nat) : Int) * _ + 0) - _ = _
  rw [ch_out (Nat.lt_succ_self m)]
  show _ + (_ * 0 * _ + 0) - _ = _
  rw [Int.mul_zero, Int.zero_mul, Int.add_zero, Int.add_zero]
  rfl
theorem perm_zero (n : Nat) : permN n 0 1 = ((fac n : Nat) : Int) := by
  rw [perm_sum n 0 1 (Nat.le_refl _)]
  show sgn 0 * ((1 : Nat) : Int) * ((fac n : Nat) : Int) + 0 = _
  rw [show sgn 0 = 1 from rfl]
  simp
end K3
set_option maxRecDepth 100000
set_option maxHeartbeats 4000000
/-! zip of a tuple and a list -/
namespace ZM
open PySem PySem.Spec PyProof.Rows L2
theorem draws_tuple {prog : Program} {w : World} {A : Around} (hh : A.handled = none) (it l : Addr) (hne : l ≠ it) (items : Array Value) :
    Draws prog w A it [it, l] items.size (fun i v => items[i]? = some v) (fun i h => h.IsTupleIter it l i ∧ h.IsTuple l items) where
  live := fun _ _ st => let ⟨o, ho, _⟩ := st.1; ⟨o, ho⟩
  frame := fun _ _ _ st hk => ⟨st.1.at fun o e => hk it (by simp) o e, st.2.at fun o e => hk l (by simp) o e⟩
  item := fun i s Q E hi st hQ => by
    refine RZ.nextOf_tuple_item st.1 st.2 (x := items[i]) (by simp [hi]) fun h' hit' hs' => ?_
    exact hQ _ h' s.toks (by simp [hi]) ⟨hit', st.2.extBut hs'.extBut hne⟩ hs'
  done := fun s Q E st hE => RZ.nextOf_tuple_end hh st.1 st.2 (by simp) hE
theorem sep_of {z TI TO i1 i2 l1 l2 : Addr} (D : ZipApart z TI TO i1 i2 l1 l2) : ZipSep2 z TI TO i1 i2 [i1, l1] [i2, l2] where
  TIz := D.TIz
  TOz := D.TOz
  TITO := D.TITO
  TIi1 := D.TIi1
  mem1 := by simp
  zf1 := by simp [D.i1z.symm, D.l1z.symm]
  Tf1 := by simp [D.TOi1, D.l1TO.symm]
  TIi2 := D.TIi2
  mem2 := by simp
  zf2 := by simp [D.i2z.symm, D.l2z.symm]
  Tf2 := by simp [D.TOi2, D.l2TO.symm]
  sep1_2 := by simp [D.i12, D.l2i1.symm]
  sep2_1 := by simp [D.i12.symm, D.l1i2.symm]
/-- the tuple at a and the list at b as they stand at each turn, the items in new pairs -/
def Itz2 (K : PySem.W.Frag) (a b : Addr) : It :=
  ⟨fun i H => ∃ (xs ys : List V) (x y : V), SqT K H a xs ∧ SqL K H b ys ∧ xs[i]? = some x ∧ ys[i]? = some y,
    fun i H v H' => ∃ T x y, v = .ref T ∧ H T = none ∧ H' = upd H T (.tup [x, y]) ∧ (∀ xs, SqT K H a xs → xs[i]? = some x) ∧ ∀ ys, SqL K H b ys → ys[i]? = some y,
    fun i H => ∃ xs ys : List V, SqT K H a xs ∧ SqL K H b ys ∧ xs.length = ys.length ∧ i = xs.length⟩
theorem turn_zip2 {P : Program} {w : World} {K : PySem.W.Frag} {elts : List Expr} {kk : Nat} {tpos : Pos} {a b z TI TO i1 i2 : Addr} (D : ZipApart z TI TO i1 i2 a b) :
    Turn P w K (.Tuple elts kk tpos) (Itz2 K a b) [z, TI, TO, i1, i2] z (fun i h => IsZip h z TI TO .none ∧ IsPair h TI (.ref i1) (.ref i2) ∧ (∃ x y, IsPair h TO x y) ∧ h.IsTupleIter i1 a i ∧ h.IsListIter i2 b i) where
  mem := by simp
  obj := fun i h st c hc => by
    obtain ⟨hz, hTI, ⟨x, y, hTO⟩, ⟨o1, e1, _, d1⟩, ⟨o2, e2, _, d2⟩⟩ := st
    have e' : c = z ∨ c = TI ∨ c = TO ∨ c = i1 ∨ c = i2 := by simpa using hc
    rcases e' with q | q | q | q | q
    · rw [q]; exact ⟨_, hz, fun v q => nomatch q⟩
    · rw [q]; exact ⟨_, hTI, fun v q => nomatch q⟩
    · rw [q]; exact ⟨_, hTO, fun v q => nomatch q⟩
    · rw [q]; exact ⟨o1, e1, fun v q => by rw [d1] at q; cases q⟩
    · rw [q]; exact ⟨o2, e2, fun v q => by rw [d2] at q; cases q⟩
  keep := fun i h h' st k => by
    obtain ⟨hz, hTI, ⟨x, y, hTO⟩, h1, h2⟩ := st
    exact ⟨k z (by simp) _ hz, k TI (by simp) _ hTI, ⟨x, y, k TO (by simp) _ hTO⟩, h1.at fun o q => k i1 (by simp) o q, h2.at fun o q => k i2 (by simp) o q⟩
  item := by
    intro X hP hw hK hc i pins s σ H E I hf st hg
    subst hP hw hK
    obtain ⟨hz, hTI, ⟨x0, y0, hTO⟩, h1, h2⟩ := st
    obtain ⟨xs, ys, x, y, hqx, hqy, hx, hy⟩ := hg
    obtain ⟨its, rv, p, _⟩ := I.tuple hqx
    obtain ⟨its2, rv2, p2, _⟩ := I.list hqy
    obtain ⟨u, hu, ru⟩ := rv.get hx
    obtain ⟨u2, hu2, ru2⟩ := rv2.get hy
    have hzl : z < s.heap.objs.size := Heap.lt_size hz
    have hh : X.A.handled = none := I.ok.hd hc
    have hlt1 : i < its.toArray.size := by
      have := (List.getElem?_eq_some_iff.mp hu).1
      simpa using this
    have hlt2 : i < its2.toArray.size := by
      have := (List.getElem?_eq_some_iff.mp hu2).1
      simpa using this
    refine wpAny_pyNext_zipD2_item (sep_of D) (draws_tuple (A := X.A.in1) hh i1 a D.l1i1 its.toArray) (Draws.list (A := X.A.in1) hh i2 b D.l2i2 its2.toArray) hz hTI hTO ⟨h1, p⟩ ⟨h2, p2.isList⟩ hlt1 hlt2
      fun v1 v2 h' tk e1 e2 z' TO' h1' h2' hT hsz hk => ?_
    obtain rfl : v1 = u := by
      have e1' : its[i]? = some v1 := by simpa using e1
      exact Option.some.inj (e1'.symm.trans hu)
    obtain rfl : v2 = u2 := by
      have e2' : its2[i]? = some v2 := by simpa using e2
      exact Option.some.inj (e2'.symm.trans hu2)
    refine ⟨_, rfl, wpAny_letOwnedTupleGo_zip (s := { s with heap := h', toks := tk }) z' fun h'' z'' sb => ?_⟩
    have hT2 : h''.get? s.heap.objs.size = some { cls := .type "tuple", data := .seq #[v1, v2] } := (sb.2 _ (Nat.ne_of_gt hzl)).trans hT
    have new : ObjOk X.prog X.w (upd H s.heap.objs.size (.tup [x, y])) h'' s.heap.objs.size (.tup [x, y]) :=
      ⟨by show 2 ≤ sizeLine; decide, [v1, v2], .cons ru (.cons ru2 .nil), ⟨_, hT2, rfl, _, rfl⟩⟩
    have I1 : Inv X pins σ (upd H s.heap.objs.size (.tup [x, y])) { s with heap := h'', toks := tk } :=
      I.turnedNew (t' := tk) (ch := [z, TI, TO, i1, i2]) (fun c o hb q => (sb.2 c (fun q' => hb (by simp [q']))).trans (hk c o (fun q' => hb (by simp [q'])) (fun q' => hb (by simp [q'])) (fun q' => hb (by simp [q'])) (fun q' => hb (by simp [q'])) q)) hf (Nat.le_refl _) new
    refine ⟨.ref s.heap.objs.size, _, I1, rfl, ⟨_, x, y, rfl, I.hok.fresh (Nat.le_refl _), rfl, fun l hl => by rw [I.tuple_inj hl hqx]; exact hx, fun l hl => by rw [I.list_inj hl hqy]; exact hy⟩, ⟨z'', ?_, ⟨v1, v2, ?_⟩, ?_, ?_⟩, fun c hcm => ?_⟩
    · exact (sb.2 _ D.TIz).trans (hk _ _ D.TIz D.TITO D.TIi1 D.TIi2 hTI)
    · exact (sb.2 _ D.TOz).trans TO'
    · exact h1'.1.at fun o q => (sb.2 _ D.i1z).trans q
    · exact h2'.1.at fun o q => (sb.2 _ D.i2z).trans q
    · have hlt : c < s.heap.objs.size := by
        have e' : c = z ∨ c = TI ∨ c = TO ∨ c = i1 ∨ c = i2 := by simpa using hcm
        rcases e' with q | q | q | q | q
        · rw [q]; exact hzl
        · rw [q]; exact Heap.lt_size hTI
        · rw [q]; exact Heap.lt_size hTO
        · rw [q]; obtain ⟨_, e1, _⟩ := h1; exact Heap.lt_size e1
        · rw [q]; obtain ⟨_, e2, _⟩ := h2; exact Heap.lt_size e2
      rw [upd_ne (Nat.ne_of_lt hlt)]
      exact (hf c hcm).1
  done := by
    intro X hP hw hK hc i pins s σ H E I hf st hg
    subst hP hw hK
    obtain ⟨hz, hTI, ⟨x0, y0, hTO⟩, h1, h2⟩ := st
    obtain ⟨xs, ys, hqx, hqy, hlen, hend⟩ := hg
    obtain ⟨its, rv, p, _⟩ := I.tuple hqx
    obtain ⟨its2, rv2, p2, _⟩ := I.list hqy
    have l1 := rv.length
    have l2 := rv2.length
    have hh : X.A.handled = none := I.ok.hd hc
    exact wpAny_pyNext_zipD2_end (sep_of D) (draws_tuple (A := X.A.in1) hh i1 a D.l1i1 its.toArray) (Draws.list (A := X.A.in1) hh i2 b D.l2i2 its2.toArray) hz hTI hTO ⟨h1, p⟩ ⟨h2, p2.isList⟩ (by simp; omega) (by simp; omega) (.inl (by simp; omega))
      fun h' tk hk => ⟨rfl, I.turnedL (t' := tk) (ch := [z, TI, TO, i1, i2]) (fun c o hb q =>
      hk c o (fun q' => hb (by simp [q'])) (fun q' => hb (by simp [q'])) (fun q' => hb (by simp [q'])) (fun q' => hb (by simp [q'])) q) hf⟩
  self := fun A i s Q E st h => wpAny_pyIter_zip st.1 h
/-! the call -/
abbrev zH1 (h : Heap) (l1 : Addr) : Heap := h.push { cls := .type "tuple_iterator", data := .fields #[.ref l1, .int 0 0] }
abbrev zH2 (h : Heap) (l1 l2 : Addr) : Heap := (zH1 h l1).push { cls := .type "list_iterator", data := .fields #[.ref l2, .int 0 0] }
abbrev zH3 (h : Heap) (l1 l2 : Addr) : Heap := (zH2 h l1 l2).push { cls := .type "tuple", data := .seq #[.ref h.objs.size, .ref (zH1 h l1).objs.size] }
abbrev zH4 (h : Heap) (l1 l2 : Addr) : Heap := (zH3 h l1 l2).push { cls := .type "tuple", data := .seq #[.none, .none] }
abbrev zH5 (h : Heap) (l1 l2 : Addr) : Heap := (zH4 h l1 l2).push { cls := .type "zip", data := .fields #[.none, .bool false, .bool false, .ref (zH2 h l1 l2).objs.size, .ref (zH3 h l1 l2).objs.size] }
theorem meets_new (l1 l2 : Addr) (xs ys : Array Value) :
    Meets (Builtin.«zip.__new__» ⟨[.type "zip", .ref l1, .ref l2], []⟩) (fun _ R s => s.heap.IsTuple l1 xs ∧ s.heap.IsList l2 ys ∧
      R (.ok (.ret (.ref (zH4 s.heap l1 l2).objs.size))) { s with heap := zH5 s.heap l1 l2 }) :=
  .of_wp fun prog w A R s h => by
    obtain ⟨hp, g, d, tk, os⟩ := s; obtain ⟨hl1, hl2, h⟩ := h
    have hsub := sub_zip
    have hL1 : Heap.IsTuple (Shared.heap ⟨hp, g, d, tk, os⟩) l1 xs := hl1
    have hL2 : Heap.IsList (Shared.heap ⟨hp.push { cls := .type "tuple_iterator", data := .fields #[.ref l1, .int 0 0] }, g, d, tk, os⟩) l2 ys := Heap.IsList.push hl2 _
    wp_walk using wpAny_pyIter_tuple hL1, wpAny_pyIter_list hL2
    exact ⟨_, rfl, h⟩
section
variable {prog : Program} {w : World} {A : Around} {E : Value → Shared → Prop} {s : Shared}
theorem call_zip2 {l1 l2 : Addr} {xs ys : Array Value} {Q : Value → Shared → Prop} (hl1 : s.heap.IsTuple l1 xs) (hl2 : s.heap.IsList l2 ys)
    (h : ∀ h', IsZip h' (s.heap.objs.size + 4) (s.heap.objs.size + 2) (s.heap.objs.size + 3) .none → IsPair h' (s.heap.objs.size + 2) (.ref s.heap.objs.size) (.ref (s.heap.objs.size + 1)) →
      IsPair h' (s.heap.objs.size + 3) .none .none → h'.IsTupleIter s.heap.objs.size l1 0 → h'.IsListIter (s.heap.objs.size + 1) l2 0 →
      (∀ c o, s.heap.get? c = some o → h'.get? c = some o) → Q (.ref (s.heap.objs.size + 4)) { s with heap := h' }) :
    wpAny (model prog w) A (call (.type "zip") [.ref l1, .ref l2]) Q E s := by
  refine callType_new F.called_zip (by decide) (F.typeCall_zip_2 _ _) (F.newCall_zip_2 _ _) (fun obj => F.args_object_init_3 obj _ _) F.entry_zip_new
    (meets_new l1 l2 xs ys) ⟨hl1, hl2, ?_⟩
  have z1 : (zH1 s.heap l1).objs.size = s.heap.objs.size + 1 := Heap.size_push ..
  have z2 : (zH2 s.heap l1 l2).objs.size = s.heap.objs.size + 2 := by rw [Heap.size_push, z1]
  have z3 : (zH3 s.heap l1 l2).objs.size = s.heap.objs.size + 3 := by rw [Heap.size_push, z2]
  have z4 : (zH4 s.heap l1 l2).objs.size = s.heap.objs.size + 4 := by rw [Heap.size_push, z3]
  have g5 : (zH5 s.heap l1 l2).get? (zH4 s.heap l1 l2).objs.size = some _ := Heap.get?_push_size _ rfl
  have g4 : (zH5 s.heap l1 l2).get? (zH3 s.heap l1 l2).objs.size = some _ := Heap.get?_push_of_some _ (Heap.get?_push_size _ rfl)
  have g3 : (zH5 s.heap l1 l2).get? (zH2 s.heap l1 l2).objs.size = some _ := Heap.get?_push_of_some _ (Heap.get?_push_of_some _ (Heap.get?_push_size _ rfl))
  have g2 : (zH5 s.heap l1 l2).get? (zH1 s.heap l1).objs.size = some _ := Heap.get?_push_of_some _ (Heap.get?_push_of_some _ (Heap.get?_push_of_some _ (Heap.get?_push_size _ rfl)))
  have g1 : (zH5 s.heap l1 l2).get? s.heap.objs.size = some _ := Heap.get?_push_of_some _ (Heap.get?_push_of_some _ (Heap.get?_push_of_some _ (Heap.get?_push_of_some _ (Heap.get?_push_size _ rfl))))
  show _ ∧ _
  rw [z2, z3, z4] at g5
  rw [z1, z2] at g3
  rw [z3] at g4
  rw [z1] at g2
  rw [z4]
  exact ⟨⟨_, g5, rfl⟩, h _ g5 g3 g4 ⟨_, g1, rfl, rfl⟩ ⟨_, g2, rfl, rfl⟩ fun c o x =>
    Heap.get?_push_of_some _ (Heap.get?_push_of_some _ (Heap.get?_push_of_some _ (Heap.get?_push_of_some _ (Heap.get?_push_of_some _ x))))⟩
end
def iZip2 (K : PySem.W.Frag) (ta : TA) : TI := fun σ H R => ta σ H fun vs H1 => ∃ a b xs ys, vs = [.ref a, .ref b] ∧ SqT K H1 a xs ∧ SqL K H1 b ys ∧ R (Itz2 K a b) H1
theorem pi_zip2 {X : Cx} {e e2 : Expr} {ta : TA} {p pos tpos : Pos} {elts : List Expr} {kk : Nat} (hg : Gl X "zip") (hm : X.mg "zip" = none) (ha : PA X [e, e2] ta)
    (hs : starEach [e, e2] X.env = (false, eval e X.env) :: starEach [e2] X.env := by rfl) (hpl : (backTo pos (starEach [e2] X.env)).any (·.1) = false := by rfl) :
    PI X (.Tuple elts kk tpos) (.Call (.Name "zip" p) [e, e2] [] pos) (iZip2 X.K ta) := by
  refine ⟨fun pins s σ H R I h => ?_⟩
  refine Call_ (ld_blt I hg hm PyProof.Rows.boot_zip (PyProof.Rows.callWith_type1 (thn (ha.run pos pins s σ H _ I h) fun us s1 ⟨vs, H1, I1, r1, q1⟩ => ?_) hs hpl))
  obtain ⟨a, b, xs, ys, ex, hqx, hqy, q⟩ := q1
  subst ex
  cases r1 with
  | cons r rr =>
    cases rr with
    | cons r' rr =>
      cases rr
      cases r
      cases r'
      have fresh5 : ∀ c, c ∈ [s1.heap.objs.size + 4, s1.heap.objs.size + 2, s1.heap.objs.size + 3, s1.heap.objs.size, s1.heap.objs.size + 1] → FpOk X pins H1 c := fun c hcm => by
        have e' : c = s1.heap.objs.size + 4 ∨ c = s1.heap.objs.size + 2 ∨ c = s1.heap.objs.size + 3 ∨ c = s1.heap.objs.size ∨ c = s1.heap.objs.size + 1 := by simpa using hcm
        have hle : s1.heap.objs.size ≤ c := by
          rcases e' with z | z | z | z | z
          · rw [z]; exact Nat.le_add_right _ _
          · rw [z]; exact Nat.le_add_right _ _
          · rw [z]; exact Nat.le_add_right _ _
          · rw [z]; exact Nat.le_refl _
          · rw [z]; exact Nat.le_add_right _ _
        exact I1.fpOk hle (I1.hok.fresh hle)
      obtain ⟨its, rv, p1, _⟩ := I1.tuple hqx
      obtain ⟨its2, rv2, p2, _⟩ := I1.list hqy
      obtain ⟨o1, ho1, _⟩ := id p1
      refine call_zip2 (show s1.heap.IsTuple a its.toArray from p1) p2.isList fun h' hz hTI hTO h1 h2 hk => wpAny_pyIter_zip hz ?_
      have I2 : Inv X pins σ H1 { s1 with heap := h' } := I1.kept (t' := s1.toks) hk
      exact ⟨s1.heap.objs.size + 4, [s1.heap.objs.size + 4, s1.heap.objs.size + 2, s1.heap.objs.size + 3, s1.heap.objs.size, s1.heap.objs.size + 1], _, _, H1, rfl, I2, turn_zip2 (PySem.W.ktu_apart s1.heap.objs.size a b (Heap.lt_size ho1) p2.lt), ⟨hz, hTI, ⟨_, _, hTO⟩, h1, h2⟩, fresh5, q⟩
/-- a loop over zip of a tuple and a list of one length -/
theorem for_zip2 {K : PySem.W.Frag} {a b : Addr} {xs ys : List V} {g : TG} {tb : TS} {D : Ends} {σ : L2.St} {H : Hp} (hl : xs.length = ys.length) (Pv : Nat → L2.St → Hp → Prop) (h0 : Pv 0 σ H) (hq : ∀ i σ H, Pv i σ H → SqT K H a xs ∧ SqL K H b ys)
    (hs : ∀ (i : Nat) (x y : V) (T : Addr) (σ : L2.St) (H : Hp), xs[i]? = some x → ys[i]? = some y → Pv i σ H → H T = none → g (.ref T) σ (upd H T (.tup [x, y])) fun σ2 H2 => tb { D with nx := Pv (i + 1), ct := Pv (i + 1), bk := D.nx } σ2 H2) (hd : ∀ σ H, Pv xs.length σ H → D.nx σ H) :
    ∃ W : Nat → Nat → L2.St → Hp → Prop, (∃ m, W 0 m σ H) ∧ ∀ i m σ H, W i m σ H →
      ((Itz2 K a b).stop i H ∧ D.nx σ H) ∨ ((Itz2 K a b).go i H ∧ ∃ N : L2.St → Hp → Prop, (∀ σ' H', N σ' H' → ∃ m', m' < m ∧ W (i + 1) m' σ' H') ∧ ∀ v H', (Itz2 K a b).yld i H v H' → g v σ H' fun σ2 H2 => tb { D with nx := N, ct := N, bk := D.nx } σ2 H2) := by
  refine ⟨fun i m σ H => m = xs.length - i ∧ i ≤ xs.length ∧ Pv i σ H, ⟨xs.length, rfl, Nat.zero_le _, h0⟩, ?_⟩
  rintro i m σ H ⟨rfl, hi, p⟩
  obtain ⟨qx, qy⟩ := hq i σ H p
  by_cases hlt : i < xs.length
  · have hx : xs[i]? = some xs[i] := List.getElem?_eq_getElem hlt
    have hlt2 : i < ys.length := by omega
    have hy : ys[i]? = some ys[i] := List.getElem?_eq_getElem hlt2
    refine .inr ⟨⟨xs, ys, _, _, qx, qy, hx, hy⟩, Pv (i + 1), fun σ' H' p' => ⟨xs.length - (i + 1), by omega, rfl, hlt, p'⟩, fun v H' y => ?_⟩
    obtain ⟨T, x', y', rfl, hT, rfl, f1, f2⟩ := y
    exact hs i x' y' T σ H (f1 xs qx) (f2 ys qy) p hT
  · have e : i = xs.length := by omega
    subst e
    exact .inl ⟨⟨xs, ys, qx, qy, hl, rfl⟩, hd σ H p⟩
section
variable {K : PySem.W.Frag} {a b : Addr} {xs ys : List V}
theorem walk_zip2 (hl : xs.length = ys.length) : Walk (Itz2 K a b) xs.length (fun H => SqT K H a xs ∧ SqL K H b ys) (YPair (fun i => xs[i]?) (fun i => ys[i]?)) := by
  constructor
  · intro i _ hi q
    exact ⟨xs, ys, xs[i]'(by omega), ys[i]'(by omega), q.1, q.2, List.getElem?_eq_getElem (by omega), List.getElem?_eq_getElem (by omega)⟩
  · intro _ q
    exact ⟨xs, ys, q.1, q.2, hl, rfl⟩
  · intro i H v H' _ q y
    obtain ⟨T, x, z, e1, e2, e3, e4, e5⟩ := y
    exact ⟨T, x, z, e1, e2, e3, e4 _ q.1, e5 _ q.2⟩
end
end ZM
set_option maxRecDepth 100000
set_option maxHeartbeats 8000000
namespace K3
open PySem PySem.Spec PyProof.Rows L2
theorem perm_tab : ∀ a : Fin 61, ∀ m : Fin 61, m.val ≤ a.val → 0 ≤ permN a.val m.val (m.val + 1) := by decide +kernel
theorem perm_nn (a m : Nat) (h : m ≤ a) (h60 : a ≤ 60) : 0 ≤ permN a m (m + 1) := perm_tab ⟨a, by omega⟩ ⟨m, by omega⟩ h
/-! ### sizes are below the bound -/
theorem sz_nat {z : Int} {B : Nat} (h0 : 0 ≤ z) (h1 : z ≤ ((B : Nat) : Int)) (hB : B ≤ 2 ^ 13000) : ∃ n : Nat, z = ((n : Nat) : Int) ∧ ((n : Nat) : Int) < big :=
  ⟨z.toNat, (Int.toNat_of_nonneg h0).symm, big_of (Nat.le_trans (Int.toNat_le.mpr h1) hB)⟩
theorem b400 : 400 ^ 400 ≤ 2 ^ 13000 := by decide +kernel
theorem pow400 {a b : Nat} (ha : a ≤ 400) (hb : b ≤ 400) : a ^ b ≤ 2 ^ 13000 := Nat.le_trans (Nat.pow_le_pow_left ha b) (Nat.le_trans (Nat.pow_le_pow_right (by decide) hb) b400)
theorem zb_subset (ds : List PyData) (hp : pSubset ds = true) : ∃ n : Nat, zSubset ds = ((n : Nat) : Int) ∧ ((n : Nat) : Int) < big := by
  unfold pSubset at hp
  rw [Bool.and_eq_true] at hp
  obtain ⟨i, e1, h1, h2⟩ := btw_int hp.1
  rw [e1] at hp
  obtain ⟨k, e2, h3, h4⟩ := btw_int hp.2
  have h4' : k ≤ i := h4
  unfold zSubset
  rw [e1, e2]
  obtain ⟨a, rfl⟩ : ∃ a : Nat, i = (a : Int) := ⟨i.toNat, by omega⟩
  obtain ⟨b, rfl⟩ : ∃ b : Nat, k = (b : Int) := ⟨k.toNat, by omega⟩
  obtain ⟨c1, c2⟩ := comb_le (a := a) (b := b) (by omega)
  exact sz_nat (Int.le_trans (by decide) c1) c2 (pow400 (by omega) (by omega))
theorem zb_cycle (ds : List PyData) (hp : pCycle ds = true) : ∃ n : Nat, zCycle ds = ((n : Nat) : Int) ∧ ((n : Nat) : Int) < big := by
  obtain ⟨i, e1, h1, h2⟩ := btw_int hp
  unfold zCycle
  rw [e1]
  have z : (i - 1).toNat ≤ 400 := by omega
  exact ⟨_, rfl, big_of (Nat.le_trans (fac_big z) (Nat.pow_le_pow_right (by decide) (by decide)))⟩
theorem zb_tree (ds : List PyData) (hp : pTree ds = true) : ∃ n : Nat, zTree ds = ((n : Nat) : Int) ∧ ((n : Nat) : Int) < big := by
  obtain ⟨i, e1, h1, h2⟩ := btw_int hp
  unfold zTree
  rw [e1]
  have z : i.toNat ≤ 400 := by omega
  exact ⟨_, rfl, big_of (pow400 z (Nat.le_trans (Nat.sub_le _ _) z))⟩
theorem zb_match (ds : List PyData) (hp : pMatching ds = true) : ∃ n : Nat, zMatch ds = ((n : Nat) : Int) ∧ ((n : Nat) : Int) < big := by
  obtain ⟨i, e1, h1, h2⟩ := btw_int hp
  unfold zMatch
  rw [e1]
  have z : i.toNat ≤ 200 := by omega
  exact ⟨_, rfl, big_of (Nat.le_trans (match_le z) (Nat.pow_le_pow_right (by decide) (by decide)))⟩
theorem zb_perm (ds : List PyData) (hp : pPerm ds = true) : ∃ n : Nat, zPerm ds = ((n : Nat) : Int) ∧ ((n : Nat) : Int) < big := by
  unfold pPerm at hp
  rw [Bool.and_eq_true, Bool.and_eq_true] at hp
  obtain ⟨i, e1, h1, h2⟩ := btw_int hp.1.1
  have hp2 := hp.1.2
  rw [e1] at hp2
  obtain ⟨ms, e2, h3, h4⟩ := tupOf_len hp2
  have h4' : (ms.length : Int) ≤ i := h4
  unfold zPerm
  rw [e1, e2]
  obtain ⟨a, rfl⟩ : ∃ a : Nat, i = (a : Int) := ⟨i.toNat, by omega⟩
  have l1 : ms.length ≤ a := by omega
  have l2 : a ≤ 60 := by omega
  show ∃ n : Nat, permN a ms.length (ms.length + 1) = ((n : Nat) : Int) ∧ ((n : Nat) : Int) < big
  have z := perm_abs (n := a) (m := ms.length) (by omega) l2 (ms.length + 1) (Nat.le_refl _)
  have y := perm_nn a ms.length l1 l2
  have x : (ms.length + 1) * 2 ^ 904 ≤ 2 ^ 13000 := Nat.le_trans (Nat.mul_le_mul_right _ (show ms.length + 1 ≤ 64 by omega)) (by decide +kernel)
  refine sz_nat (B := (permN a ms.length (ms.length + 1)).natAbs) y (by omega) (Nat.le_trans z x)
/-- the words of counts -/
theorem counts_nat {d : PyData} (h : countsB d = true) : (countsN d).sum ≤ 400 := by
  have hc2 := h
  unfold countsB at hc2
  rw [Bool.and_eq_true, Bool.and_eq_true, Bool.and_eq_true] at hc2
  have hall := List.all_eq_true.mp hc2.1.2
  have hsum : ((tupItems d).map countOf).sum ≤ 400 := of_decide_eq_true hc2.2.1
  have z := sum_nat hall
  unfold countsN
  omega
theorem word_bd' {d : PyData} (h : countsB d = true) : 1 ≤ multN 0 1 (countsN d) ∧ multN 0 1 (countsN d) ≤ ((2 ^ 3600 : Nat) : Int) := by
  have s4 := counts_nat h
  obtain ⟨m1, m2⟩ := mult_fac (countsN d) 0 1 (by decide)
  rw [Nat.zero_add, fac_zero, Int.one_mul] at m2
  refine ⟨m1, ?_⟩
  have pp : 1 ≤ prodN ((countsN d).map fac) := prod_pos fun n hn => by
    obtain ⟨k, _, rfl⟩ := List.mem_map.mp hn
    exact fac_pos k
  have f4 := fac_big s4
  generalize prodN ((countsN d).map fac) = p at m2 pp
  generalize fac (countsN d).sum = F at m2 f4
  generalize multN 0 1 (countsN d) = m at m1 m2 ⊢
  have e : m * ((1 : Nat) : Int) * (p : Int) = m * (p : Int) := by
    show m * 1 * (p : Int) = _
    rw [Int.mul_one]
  rw [e] at m2
  have z : m * 1 ≤ m * (p : Int) := Int.mul_le_mul_of_nonneg_left (by omega) (by omega)
  rw [Int.mul_one] at z
  have y : ((F : Nat) : Int) ≤ ((2 ^ 3600 : Nat) : Int) := Int.ofNat_le.mpr f4
  exact Int.le_trans z (Int.le_trans m2 y)
theorem zb_counts {d : PyData} (h : countsB d = true) : ∃ n : Nat, multN 0 1 (countsN d) = ((n : Nat) : Int) ∧ 1 ≤ n ∧ ((n : Nat) : Int) < big := by
  obtain ⟨h1, h2⟩ := word_bd' h
  obtain ⟨n, e, hn⟩ := sz_nat (z := multN 0 1 (countsN d)) (Int.le_trans (by decide) h1) h2 (Nat.pow_le_pow_right (by decide) (by decide))
  exact ⟨n, e, by omega, hn⟩
theorem strT_le {ms : List PyData} (h : ms.length ≤ 48) : ∀ (i : Nat) (r : Int), strT ms i r ≤ 48 ^ i
  | 0, r => by
    show (if r = 0 then 1 else 0) ≤ 1
    split <;> omega
  | i + 1, r => by
    show mvS (strT ms i) ms r ≤ 48 ^ (i + 1)
    unfold mvS
    have z := sum_le (b := 48 ^ i) (l := ms.map fun e => if tgtM e = r then strT ms i (srcM e) else 0) fun x hx => by
      obtain ⟨e, _, rfl⟩ := List.mem_map.mp hx
      show (if tgtM e = r then strT ms i (srcM e) else 0) ≤ _
      split
      · exact strT_le h i _
      · exact Nat.zero_le _
    rw [List.length_map] at z
    refine Nat.le_trans z ?_
    rw [Nat.pow_succ, Nat.mul_comm]
    exact Nat.mul_le_mul_left _ h
theorem str_big {ds : List PyData} (hp : pString ds = true) : ((strN (tupItems (at0 (tupItems (at0 ds 1)) 0)) (tupItems (at0 (tupItems (at0 ds 1)) 1)) (intOf (at0 ds 2)).toNat : Nat) : Int) < big := by
  unfold pString autoB movesB statesB at hp
  simp only [Bool.and_eq_true] at hp
  obtain ⟨n, e1, n0, n60⟩ := btw_int hp.1
  obtain ⟨ms, e2, _, m48⟩ := tupOf_len hp.2.2.1.1.1
  obtain ⟨ss, e3, _, s8⟩ := tupOf_len hp.2.2.2.1
  rw [e1, e2, e3]
  refine big_of ?_
  show strN ms ss n.toNat ≤ _
  unfold strN
  have z := sum_le (b := 48 ^ n.toNat) (l := ss.map fun e => strT ms n.toNat (intOf e)) fun x hx => by
    obtain ⟨e, _, rfl⟩ := List.mem_map.mp hx
    exact strT_le (by omega) _ _
  rw [List.length_map] at z
  have y : 48 ^ n.toNat ≤ 48 ^ 60 := Nat.pow_le_pow_right (by decide) (by omega)
  have x : ss.length * 48 ^ n.toNat ≤ 8 * 48 ^ 60 := Nat.mul_le_mul (by omega) y
  exact Nat.le_trans z (Nat.le_trans x (by decide +kernel))
theorem walk_n {ds : List PyData} (hp : pWalk ds = true) : (intOf (at0 ds 1)).toNat ≤ 60 := by
  unfold pWalk at hp
  rw [Bool.and_eq_true, Bool.and_eq_true] at hp
  obtain ⟨n, e1, n0, n60⟩ := btw_int hp.2.1
  rw [e1]
  show n.toNat ≤ 60
  omega
theorem zb_word (ds : List PyData) (hp : pWord ds = true) : ∃ n : Nat, zWord ds = ((n : Nat) : Int) ∧ ((n : Nat) : Int) < big := by
  obtain ⟨n, e, _, h⟩ := zb_counts hp
  exact ⟨n, e, h⟩
theorem zb_arr (ds : List PyData) (hp : pArr ds = true) : ∃ n : Nat, zArr ds = ((n : Nat) : Int) ∧ ((n : Nat) : Int) < big := by
  have hp' : (orderB 6 (at0 ds 1) && (decide (((namesN 6 (at0 ds 1)).length : Int) ≤ 400) && decide ((S2.cnt (namesN 6 (at0 ds 1)) (namesN 6 (at0 ds 1)).length : Int) = ((namesN 6 (at0 ds 1)).length : Int)))) = true := hp
  rw [Bool.and_eq_true, Bool.and_eq_true] at hp'
  have h4 : ((namesN 6 (at0 ds 1)).length : Int) ≤ 400 := of_decide_eq_true hp'.2.1
  obtain ⟨_, h2⟩ := osz_bd 6 (at0 ds 1) hp'.1
  exact ⟨_, rfl, big_of (Nat.le_trans h2 (Nat.le_trans (fac_big (by omega)) (Nat.pow_le_pow_right (by decide) (by decide))))⟩
theorem zb_walk (ds : List PyData) (hp : pWalk ds = true) : ∃ n : Nat, zWalk ds = ((n : Nat) : Int) ∧ ((n : Nat) : Int) < big := by
  have h : (intOf (at0 ds 1)).toNat ≤ 60 := walk_n hp
  exact ⟨_, rfl, big_of (Nat.le_trans (walkW_le _ _ _ _ _) (Nat.pow_le_pow_right (by decide) (by omega)))⟩
theorem zb_str (ds : List PyData) (hp : pString ds = true) : ∃ n : Nat, zStr ds = ((n : Nat) : Int) ∧ ((n : Nat) : Int) < big := by
  exact ⟨_, rfl, str_big hp⟩
/-! ### the sizes of leaves by their words -/
def bigN : Nat := 10 ^ 4000
theorem big_nat : big = ((bigN : Nat) : Int) := by
  unfold big bigN
  exact (Int.natCast_pow 10 4000).symm
def zTab : List (Str × (List PyData → Int)) := [("subset", zSubset), ("word", zWord), ("arrangement", zArr), ("walk", zWalk), ("cycle", zCycle), ("matching", zMatch), ("permutation", zPerm), ("tree", zTree), ("string", zStr)]
def zOf (z : Str) (ds : List PyData) : Int := match zTab.lookup z with
  | some f => f ds
  | none => 0
theorem zb_of {z : Str} {len : Nat} {p : List PyData → Bool} {ds : List PyData} (hk : kinds.lookup z = some (len, p)) (hn : ((z == "product") || ((z == "choice") || ((z == "power") || (z == "decorated")))) = false) (hp : p ds = true) : ∃ n : Nat, zOf z ds = ((n : Nat) : Int) ∧ ((n : Nat) : Int) < big := by
  have hm : (z, len, p) ∈ kinds := by
    have key : ∀ {l : List (Str × Nat × (List PyData → Bool))}, l.lookup z = some (len, p) → (z, len, p) ∈ l := by
      intro l
      induction l with
      | nil => intro h; cases h
      | cons c r ih =>
        intro h
        obtain ⟨k, v⟩ := c
        rw [List.lookup] at h
        cases e : z == k with
        | true =>
          rw [e] at h
          obtain rfl := Option.some.inj h
          rw [eq_of_beq e]
          simp
        | false =>
          rw [e] at h
          exact List.mem_cons_of_mem _ (ih h)
    exact key hk
  unfold kinds at hm
  rcases List.mem_cons.mp hm with e | hm
  · cases e
    exact zb_subset ds hp
  rcases List.mem_cons.mp hm with e | hm
  · cases e
    exact zb_word ds hp
  rcases List.mem_cons.mp hm with e | hm
  · cases e
    exact zb_arr ds hp
  rcases List.mem_cons.mp hm with e | hm
  · cases e
    exact zb_walk ds hp
  rcases List.mem_cons.mp hm with e | hm
  · cases e
    exact zb_cycle ds hp
  rcases List.mem_cons.mp hm with e | hm
  · cases e
    exact zb_match ds hp
  rcases List.mem_cons.mp hm with e | hm
  · cases e
    exact zb_perm ds hp
  rcases List.mem_cons.mp hm with e | hm
  · cases e
    exact zb_tree ds hp
  rcases List.mem_cons.mp hm with e | hm
  · cases e
    exact zb_str ds hp
  rcases List.mem_cons.mp hm with e | hm
  · cases e
    exact absurd hn (by decide +kernel)
  rcases List.mem_cons.mp hm with e | hm
  · cases e
    exact absurd hn (by decide +kernel)
  rcases List.mem_cons.mp hm with e | hm
  · cases e
    exact absurd hn (by decide +kernel)
  rcases List.mem_cons.mp hm with e | hm
  · cases e
    exact absurd hn (by decide +kernel)
  cases hm
def leafN (d : PyData) : Nat := (zOf (strOf (at0 (tupItems d) 0)) (tupItems d)).toNat
end K3
set_option maxRecDepth 100000
set_option maxHeartbeats 8000000
namespace K3
open PySem PySem.Spec PyProof.Rows L2
/-! ### None among tuples -/
section
variable {X : Cx}
def NonT (H : Hp) (z : V) : Prop := z = .non ∨ ∃ a ts, z = .ref a ∧ H a = some (.tup ts)
theorem isNone_T {z : V} {u : Value} {H : Hp} (r : RelV z u) (f : NonT H z) : PySem.Numpy.isNone u = isNon z := by
  rcases f with rfl | ⟨a, ts, rfl, _⟩
  · cases r; rfl
  · cases r; rfl
theorem any_nonT {H : Hp} : ∀ {xs : List V} {us : List Value}, Vals xs us → (∀ z ∈ xs, NonT H z) → us.any PySem.Numpy.isNone = xs.any isNon
  | _, _, .nil, _ => rfl
  | y :: xs, u :: us, .cons r t, f => by
    rw [List.any_cons, List.any_cons, isNone_T r (f y (List.mem_cons_self ..)), any_nonT t fun z hz => f z (List.mem_cons_of_mem _ hz)]
theorem nonT_eq {A : Around} {pins : List (Addr × Obj)} {σ : L2.St} {H : Hp} {s : Shared} (I : Inv X pins σ H s) (hu : A.units < cLine) {z : V} {u : Value} (r : RelV z u) (f : NonT H z) : SeqAt.EqAt A s u .none (PySem.Numpy.isNone u) := by
  rcases f with rfl | ⟨a, ts, rfl, ha⟩
  · cases r
    exact SeqAt.EqAt.same _
  · cases r
    obtain ⟨its, rv, p, _⟩ := I.tuple (SqT.of ha)
    exact SeqAt.EqAt.tuple_none p hu
theorem mem_nonT {A : Around} {pins : List (Addr × Obj)} {σ : L2.St} {H : Hp} {s : Shared} (I : Inv X pins σ H s) (hu : A.units < cLine) : ∀ {xs : List V} {us : List Value}, Vals xs us → (∀ z ∈ xs, NonT H z) → ∀ u ∈ us, SeqAt.EqAt A s u .none (PySem.Numpy.isNone u)
  | _, _, .nil, _ => fun u hu' => by cases hu'
  | y :: xs, u :: us, .cons r t, f => fun u' hu' => by
    rcases List.mem_cons.mp hu' with e | hu'
    · subst e
      exact nonT_eq I hu r (f y (List.mem_cons_self ..))
    · exact mem_nonT I hu t (fun z hz => f z (List.mem_cons_of_mem _ hz)) u' hu'
def rNoneInT : R2 := fun x y H Q => ∃ p xs, x = .non ∧ y = .ref p ∧ H p = some (.lst xs) ∧ (∀ z ∈ xs, NonT H z) ∧ Q (.bl (xs.any isNon)) H
theorem op_noneInT (hu : X.A.units + 64 < cLine) : OpR X (compareOp .In) rNoneInT := by
  intro pins s σ H x y v u Q I rx ry h
  obtain ⟨p, xs, rfl, rfl, hq, f, q⟩ := h
  cases rx
  cases ry
  obtain ⟨its, rv, hl, _⟩ := I.list (SqL.of hq)
  have hu1 : X.A.in1.units < cLine := by show X.A.units + 1 < cLine; omega
  refine SeqAt.in_listAt PySem.Numpy.isNone hl.isList (fun z hz => mem_nonT I hu1 rv f z (by simpa using hz)) ⟨.bl _, H, I, rfl, ?_⟩
  rw [show its.toArray.any PySem.Numpy.isNone = its.any PySem.Numpy.isNone by simp, any_nonT rv f]
  exact q
end
/-! ### multiply with a bound -/
/-- what stands for a product -/
def Near (n r : Nat) : Prop := (n < bigN → r = n) ∧ (bigN ≤ n → bigN ≤ r)
theorem Near.lt {n r : Nat} (h : Near n r) : r < bigN ↔ n < bigN := by
  constructor
  · intro z
    by_cases c : n < bigN
    · exact c
    · have := h.2 (by omega)
      omega
  · intro z
    rw [h.1 z]
    exact z
def spMulB : Sp := fun vs H Q _ => ∃ (a : Addr) (ns : List Nat), vs = [.ref a, .int big] ∧ H a = some (.lst (vints ns)) ∧ (∀ n ∈ ns, n < bigN) ∧ ∀ r : Nat, Near (prodN ns) r → Q (.int (r : Nat)) H
theorem bigN_bits : bigN < 2 ^ 13300 := by decide +kernel
theorem prod_zero : ∀ {ns : List Nat}, 0 ∈ ns → prodN ns = 0
  | n :: l, h => by
    show n * prodN l = 0
    rcases List.mem_cons.mp h with e | e
    · rw [← e, Nat.zero_mul]
    · rw [prod_zero e, Nat.mul_zero]
section
variable {P : Program} {w : World} {K : PySem.W.Frag} {mg : Str → Option Value} {base : Heap}
theorem ok_mulB {f : Addr} {fd : FuncData} (F : FunD K "multiply" "multiply" (defArgs sMul) (defBody sMul) (defScope sMul) [.non] [] f fd) : FnOk P w K mg base CX0 1 f fd ["factors", "bound"] spMulB := by
  refine F.ok scMul (fun vs H Q E h => ?_) (fun cdv A outer s H vs Q E hr h => ?_)
  · obtain ⟨a, ns, rfl, _⟩ := h
    rfl
  · obtain ⟨a, ns, rfl, ha, hb, q⟩ := h
    refine ⟨_, PSs.nox (pss_cons (ps_if (pt_cmpR op_in_seq pe_int (pv 0) rfl) (pss_one (ps_ret pe_int)) pss_nil)
      (pss_cons (ps_set (i := 2) scMul.nd rfl (Or.inl rfl) pe_int)
      (pss_cons (ps_for PassesOwn.never rfl (pi_list (pv 0)) (pg_name (i := 3) scMul.nd rfl (Or.inl rfl))
        (pss_cons (ps_if (PW.pt (pw_and (pt_cmpR op_notN (pv 1) pe_non (nomark _)) (pw_and1 (pt_cmpR op_ge (pv 2) (pv 1) (nomark _))))) (pss_one (ps_ret (pv 2))) pss_nil)
        (pss_one (ps_set (i := 2) scMul.nd rfl (Or.inl rfl) (pe_op op_mulW (pv 2) (pv 3))))))
      (pss_one (ps_ret (pv 2)))))), ?_⟩
    refine ⟨_, rfl, a, vints ns, rfl, .inl (SqL.of ha), rfl, flat_ints ns, _, rfl, ?_⟩
    show (if inV (.int 0) (vints ns) = true then _ else _)
    rw [in_zero]
    by_cases hz : 0 ∈ ns
    · have e : ns.any (· == 0) = true := List.any_eq_true.mpr ⟨0, hz, rfl⟩
      have z := prod_zero hz
      exact if_t e (q 0 ⟨fun _ => z.symm, fun y => by rw [z] at y; exact absurd y (by decide +kernel)⟩)
    · have e : ns.any (· == 0) = false := by
        cases h : ns.any (· == 0) with
        | false => rfl
        | true =>
          obtain ⟨x, hx, ex⟩ := List.any_eq_true.mp h
          exact absurd (by rw [← beq_iff_eq.mp ex]; exact hx) hz
      have pos : ∀ n ∈ ns, 1 ≤ n := fun n hn => Nat.pos_of_ne_zero fun z => hz (by rw [← z]; exact hn)
      refine if_f e ⟨_, rfl, a, rfl, ⟨_, SqL.of ha⟩, for_list (K := K) (a := a) (xs := vints ns) (fun i σ Hx => ∃ x3 : Option V, σ = [some (.ref a), some (.int big), some (.int (prodN (ns.take i) : Nat)), x3] ∧ Hx = H) ⟨none, rfl, rfl⟩ (fun i σ Hx _ ⟨_, _, e⟩ => by rw [e]; exact SqL.of ha) ?_ ?_⟩
      · rintro i y σ Hx hi ⟨x3, rfl, rfl⟩
        have hi' : (ns.map fun n : Nat => V.int (n : Int))[i]? = some y := hi
        rw [List.getElem?_map] at hi'
        obtain ⟨n, hn, rfl⟩ : ∃ n, ns[i]? = some n ∧ y = V.int (n : Int) := by
          cases h : ns[i]? with
          | none =>
            rw [h] at hi'
            cases hi'
          | some n =>
            rw [h] at hi'
            exact ⟨n, rfl, (Option.some.inj hi').symm⟩
        refine ⟨_, rfl, rfl, _, rfl, if_t rfl ⟨_, rfl, _, rfl, _, _, rfl, rfl, _, rfl, ?_⟩⟩
        by_cases hc : prodN (ns.take i) < bigN
        · refine if_f (decide_eq_false (by rw [big_nat]; omega)) ?_
          have b1 : ((prodN (ns.take i) : Nat) : Int).natAbs < 2 ^ 13300 := by
            rw [Int.natAbs_natCast]
            exact Nat.lt_trans hc bigN_bits
          have b2 : ((n : Nat) : Int).natAbs < 2 ^ 13300 := by
            rw [Int.natAbs_natCast]
            exact Nat.lt_trans (hb n (List.mem_of_getElem? hn)) bigN_bits
          refine ⟨_, rfl, _, rfl, _, _, rfl, rfl, wide_mul b1 b2 (by decide) (by decide) (by decide), some (.int (n : Int)), ?_, rfl⟩
          show [some (V.ref a), some (.int big), some (V.int (((prodN (ns.take i) : Nat) : Int) * (n : Int))), some (V.int (n : Int))] = _
          rw [prod_take hn, Int.natCast_mul]
        · refine if_t (decide_eq_true (by rw [big_nat]; omega)) ⟨_, rfl, q _ ⟨fun z => ?_, fun _ => by omega⟩⟩
          have z2 := prod_le pos i
          omega
      · rintro σ Hx ⟨x3, rfl, rfl⟩
        have el : ns.take (vints ns).length = ns := List.take_of_length_le (by unfold vints; rw [List.length_map]; exact Nat.le_refl _)
        rw [el]
        exact ⟨_, rfl, q _ ⟨fun _ => rfl, fun z => z⟩⟩
end
/-! ### each item as often as counted -/
def expand : List Nat → List Nat → List Nat
  | o :: os, n :: ns => List.replicate o n ++ expand os ns
  | _, _ => []
theorem expand_len : ∀ {os ns : List Nat}, os.length = ns.length → (expand os ns).length = os.sum
  | [], [], _ => rfl
  | o :: os, n :: ns, h => by
    rw [expand, List.length_append, List.length_replicate, List.sum_cons, expand_len (by simpa using h)]
theorem expand_mem : ∀ {os ns : List Nat} {x : Nat}, x ∈ expand os ns → x ∈ ns
  | o :: os, n :: ns, x, h => by
    rw [expand] at h
    rcases List.mem_append.mp h with z | z
    · rw [(List.mem_replicate.mp z).2]
      simp
    · exact List.mem_cons_of_mem _ (expand_mem z)
  | [], _, x, h => by cases h
  | _ :: _, [], x, h => by cases h
theorem expand_take : ∀ {os ns : List Nat} {i o n : Nat}, os[i]? = some o → ns[i]? = some n → expand (os.take (i + 1)) (ns.take (i + 1)) = expand (os.take i) (ns.take i) ++ List.replicate o n
  | o' :: os, n' :: ns, 0, o, n, h1, h2 => by
    obtain rfl : o' = o := Option.some.inj h1
    obtain rfl : n' = n := Option.some.inj h2
    rw [List.take_succ_cons, List.take_succ_cons, List.take_zero, List.take_zero, List.take_zero, List.take_zero]
    show List.replicate o' n' ++ [] = [] ++ List.replicate o' n'
    rw [List.append_nil, List.nil_append]
  | o' :: os, n' :: ns, i + 1, o, n, h1, h2 => by
    rw [List.take_succ_cons, List.take_succ_cons, List.take_succ_cons, List.take_succ_cons, expand, expand, expand_take (os := os) (ns := ns) (by simpa using h1) (by simpa using h2), List.append_assoc]
  | [], _, i, o, n, h1, _ => by simp at h1
  | _ :: _, [], i, o, n, _, h2 => by simp at h2
theorem vints_len (ns : List Nat) : (vints ns).length = ns.length := by unfold vints; rw [List.length_map]
theorem vints_cat (a b : List Nat) : vints (a ++ b) = vints a ++ vints b := by unfold vints; rw [List.map_append]
abbrev sRepeat : Stmt := top 61
def spRepeat : Sp := fun vs H Q _ => ∃ (a b : Addr) (xs : List V) (cs : List PyData) (ns : List Nat), vs = [.ref a, .ref b] ∧ H a = some (.tup xs) ∧ DatAll H xs cs ∧ (∀ c ∈ cs, countB c = true) ∧ cs.length ≤ 6 ∧ H b = some (.lst (vints ns)) ∧ ns.length = cs.length ∧
  ∀ p H', Same H H' → H p = none → H' p = some (.lst (vints (expand (cs.map fun e => (countOf e).toNat) ns))) → Q (.ref p) H'
theorem vint_get {ns : List Nat} {i : Nat} {y : V} (h : (vints ns)[i]? = some y) : ∃ n, ns[i]? = some n ∧ y = V.int (n : Int) := by
  unfold vints at h
  rw [List.getElem?_map] at h
  cases e : ns[i]? with
  | none =>
    rw [e] at h
    cases h
  | some n =>
    rw [e] at h
    exact ⟨n, rfl, (Option.some.inj h).symm⟩
section
variable {P : Program} {w : World} {K : PySem.W.Frag} {mg : Str → Option Value} {base : Heap}
theorem scRepeat : FnScope ["counts", "items", "pair", "item", "_"] ["counts", "items"] (defScope sRepeat) := ⟨rfl, rfl, rfl, by decide +kernel, rfl, by decide +kernel, by decide +kernel⟩
theorem ok_repeat {f : Addr} {fd : FuncData} (F : Fun K "repeated" "repeated" sRepeat f fd) (T : Nm mg) : FnOk P w K mg base CX0 1 f fd ["counts", "items"] spRepeat := by
  refine F.ok scRepeat (fun vs H Q E h => ?_) (fun cdv A outer s H vs Q E hr h => ?_)
  · obtain ⟨a, b, xs, cs, ns, rfl, _⟩ := h
    rfl
  · obtain ⟨a, b, xs, cs, ns, rfl, ha, hx, hc, h6, hb, hn, q⟩ := h
    have hl := hx.len
    refine ⟨_, pss_one (ps_ret (pe_lc2 (own := [("pair", 2), ("item", 3), ("_", 4)]) (vs1 := [4]) (g := gTup K 2 (gCons (gName 2) (gCons (gName 3) gNil))) (tt := tYes) (wi1 := iRng1 (tCons (tOp (rIxT K) (tVar 2) (tC (.int 1))) tNil)) (g1 := gName 4) (tt1 := tYes) rfl scRepeat.nd (ZM.pi_zip2 rfl T.zip (pa_cons (pv 0) (pa_cons (pv 1) pa_nil))) (blkOk_by (N := ["counts", "items", "pair", "item", "_"]) (sc := defScope sRepeat) (by decide +kernel)) (by decide)
          (fun _ _ _ _ _ => pg_tup rfl (pgs_cons (pg_name (i := 2) scRepeat.nd rfl (Or.inl rfl)) (pgs_cons (pg_name (i := 3) scRepeat.nd rfl (Or.inl rfl)) pgs_nil))) (fun _ _ _ _ _ => pts_nil) (fun _ _ _ _ _ => pi_range1 rfl T.range (pa_cons (pe_ix ix_tup (pv 2) pe_int (fun _ _ => rfl)) pa_nil))
          (fun _ _ _ _ _ => pg_name (i := 4) scRepeat.nd rfl (Or.inl rfl)) (fun _ _ _ _ _ => pts_nil) (fun _ _ _ _ _ => pv 3))), ?_⟩
    refine ⟨_, rfl, _, rfl, a, b, xs, vints ns, rfl, SqT.of ha, SqL.of hb, fun D nD => in_it (ZM.walk_zip2 (K := K) (a := a) (b := b) (xs := xs) (ys := vints ns) (by rw [vints_len, hn, hl])) (fun i Hx => Same H Hx ∧ Hx D = some (.lst (vints (expand ((cs.take i).map fun e => (countOf e).toNat) (ns.take i))))) ⟨same_new nD, by rw [upd_same]; rfl⟩ (fun i Hx _ ⟨S, _⟩ => ⟨SqT.of (S _ _ ha), SqL.of (S _ _ hb)⟩) ?_ ?_⟩
    · rintro i x Hx Hy hi ⟨S, hD⟩ ⟨U, y0, y1, rfl, nU, rfl, g0, g1⟩
      obtain ⟨c, hci, tc⟩ := hx.get g0
      have hc1 := hc c (List.mem_of_getElem? hci)
      obtain ⟨d0, m, rfl, _, m1, m4⟩ := count_cases hc1
      obtain ⟨n, hni, rfl⟩ := vint_get g1
      have SU := same_new (o := HO.tup [y0, V.int (n : Int)]) nU
      have hDU := SU _ _ hD
      cases tc with
      | @tup c2 zs _ hc2 hz =>
        cases hz with
        | cons z0 t0 =>
          cases t0 with
          | cons z1 t1 =>
            cases t1
            cases z1
            have hcU := SU _ _ (S _ _ hc2)
            have TU := S.trans SU
            have mem1 : (countOf (.tuple [d0, .int m])).toNat = m.toNat := rfl
            have et : expand ((cs.take (i + 1)).map fun e => (countOf e).toNat) (ns.take (i + 1)) = expand ((cs.take i).map fun e => (countOf e).toNat) (ns.take i) ++ List.replicate m.toNat n := by
              have z := expand_take (os := cs.map fun e => (countOf e).toNat) (ns := ns) (i := i) (o := m.toNat) (n := n) (by rw [List.getElem?_map, hci]; rfl) hni
              rw [← List.map_take, ← List.map_take] at z
              exact z
            have lb : (expand ((cs.take i).map fun e => (countOf e).toNat) (ns.take i)).length ≤ 6 * 400 := by
              have il : i < cs.length := (List.getElem?_eq_some_iff.mp hci).1
              rw [expand_len (by rw [List.length_map, List.length_take, List.length_take, hn])]
              have z := sum_le (b := 400) (l := (cs.take i).map fun e => (countOf e).toNat) fun x hx => by
                obtain ⟨e, he, rfl⟩ := List.mem_map.mp hx
                obtain ⟨_, m', rfl, _, _, m4'⟩ := count_cases (hc e (List.mem_of_mem_take he))
                show m'.toNat ≤ 400
                omega
              rw [List.length_map, List.length_take] at z
              refine Nat.le_trans z (Nat.mul_le_mul_right _ (by omega))
            generalize expand ((cs.take i).map fun e => (countOf e).toNat) (ns.take i) = ex at hDU lb et
            refine ⟨U, _, rfl, SqT.of upd_same, rfl, _, _, rfl, _, _, rfl, rfl, rfl, _, rfl, c2, _, _, _, rfl, rfl, SqT.of hcU, atI_nat (j := 1) rfl, ?_⟩
            refine ⟨m, rfl, by omega, by omega, in_it (walk_range (lo := 0) (n := m.toNat)) (fun j Hz => Same H Hz ∧ Hz D = some (.lst (vints (ex ++ List.replicate j n)))) ⟨TU, by rw [hDU, List.replicate_zero, List.append_nil]⟩ (fun _ _ _ _ => trivial) ?_ ?_⟩
            · rintro j y Hz Hz' hj ⟨S2, hD2⟩ ⟨rfl, rfl⟩
              refine ⟨rfl, _, rfl, _, hD2, ?_, grow nD S2, ?_⟩
              · rw [vints_len, List.length_append, List.length_replicate, sizeLine_eq]
                omega
              · rw [upd_same, List.replicate_succ', ← List.append_assoc, vints_cat (ex ++ List.replicate j n)]
                rfl
            · rintro Hz ⟨S2, hD2⟩
              refine ⟨S2, ?_⟩
              rw [hD2, et]
    · rintro Hx ⟨S, hD⟩
      refine q D Hx S nD ?_
      rw [hD, hl, List.take_length, ← hn, List.take_length]
end
end K3
set_option maxRecDepth 100000
set_option maxHeartbeats 8000000
namespace K3
open PySem PySem.Spec PyProof.Rows L2
/-! ### nested spaces: how often each part counts -/
def nestW (z : Str) : Bool := (z == "product") || ((z == "choice") || ((z == "power") || (z == "decorated")))
/-- no word of a nested space stands at its head -/
def leafD : PyData → Bool
  | .tuple (.str z :: _) => !nestW z
  | _ => true
theorem leaf_ne {z : Str} {ds : List PyData} (h : leafD (.tuple (.str z :: ds)) = true) : (z == "product") = false ∧ (z == "choice") = false ∧ (z == "power") = false ∧ (z == "decorated") = false := by
  have h' : (!nestW z) = true := h
  unfold nestW at h'
  rw [Bool.not_eq_true', Bool.or_eq_false_iff, Bool.or_eq_false_iff, Bool.or_eq_false_iff] at h'
  exact ⟨h'.1, h'.2.1, h'.2.2.1, h'.2.2.2⟩
theorem leaf_nest {d : PyData} (hp : partB d = true) (h : leafD d = true) : nestedD d = [] := by
  obtain ⟨z, ds, rfl, _⟩ := part_cases hp
  obtain ⟨a, b, c, e⟩ := leaf_ne h
  show (if (z == "product") = true then tupItems (at0 (.str z :: ds) 1) else if (z == "choice") = true then tupItems (at0 (.str z :: ds) 1)
              else if (z == "power") = true then [at0 (.str z :: ds) 2] else if (z == "decorated") = true then tupItems (at0 (.str z :: ds) 2) else []) = []
  rw [a, b, c, e]
  rfl
def headD (d : PyData) : PyData := at0 (tupItems d) 0
def occ (d : PyData) : List Nat :=
  if eqStr "power" (headD d) = true then [(intOf (at0 (tupItems d) 1)).toNat] else if eqStr "decorated" (headD d) = true then countsN (at0 (tupItems d) 1)
  else List.replicate (nestedD d).length 1
def jlN (d : PyData) (ls : List Nat) : Nat := (expand (occ d) ls).sum
def jsN (d : PyData) (ns : List Nat) : Nat :=
  if leafD d = true then leafN d else if eqStr "choice" (headD d) = true then (expand (occ d) ns).sum else
  prodN (expand (occ d) ns) * (if eqStr "decorated" (headD d) = true then (multN 0 1 (countsN (at0 (tupItems d) 1))).toNat else 1)
theorem nest_cases {d : PyData} (hp : partB d = true) : leafD d = true ∨ (∃ es, d = .tuple [.str "product", .tuple es] ∧ 1 ≤ es.length ∧ es.length ≤ 6) ∨
    (∃ es, d = .tuple [.str "choice", .tuple es] ∧ 1 ≤ es.length ∧ es.length ≤ 6) ∨ (∃ (k : Nat) (e : PyData), d = .tuple [.str "power", .int k, e] ∧ k ≤ 400) ∨
    (∃ cs es, d = .tuple [.str "decorated", .tuple cs, .tuple es] ∧ countsB (.tuple cs) = true ∧ es.length = cs.length ∧ cs.length ≤ 6) := by
  match d, hp with
  | .tuple (.str z :: ds), h =>
    have h' : (match kinds.lookup z with
      | some c => decide (ds.length + 1 = c.1) && c.2 (.str z :: ds)
      | none => false) = true := h
    by_cases a1 : z = "product"
    · subst a1
      have e2 : kinds.lookup ("product" : Str) = some (2, pRow) := by rfl
      rw [e2, Bool.and_eq_true] at h'
      match ds, of_decide_eq_true h'.1, h'.2 with
      | [d1], _, h2 =>
        obtain ⟨es, e, h1, h6⟩ := tupOf_len (show tupOf 1 6 d1 = true from h2)
        exact .inr (.inl ⟨es, by rw [e], by omega, by omega⟩)
    by_cases a2 : z = "choice"
    · subst a2
      have e2 : kinds.lookup ("choice" : Str) = some (2, pRow) := by rfl
      rw [e2, Bool.and_eq_true] at h'
      match ds, of_decide_eq_true h'.1, h'.2 with
      | [d1], _, h2 =>
        obtain ⟨es, e, h1, h6⟩ := tupOf_len (show tupOf 1 6 d1 = true from h2)
        exact .inr (.inr (.inl ⟨es, by rw [e], by omega, by omega⟩))
    by_cases a3 : z = "power"
    · subst a3
      have e2 : kinds.lookup ("power" : Str) = some (3, pPower) := by rfl
      rw [e2, Bool.and_eq_true] at h'
      match ds, of_decide_eq_true h'.1, h'.2 with
      | [d1, d2], _, h2 =>
        obtain ⟨i, e, i0, i4⟩ := btw_int (show btw 0 400 d1 = true from h2)
        obtain ⟨k, rfl⟩ : ∃ k : Nat, i = k := ⟨i.toNat, by omega⟩
        exact .inr (.inr (.inr (.inl ⟨k, d2, by rw [e], by omega⟩)))
    by_cases a4 : z = "decorated"
    · subst a4
      have e2 : kinds.lookup ("decorated" : Str) = some (3, pDeco) := by rfl
      rw [e2, Bool.and_eq_true] at h'
      match ds, of_decide_eq_true h'.1, h'.2 with
      | [d1, d2], _, h2 =>
        have h3 : (countsB d1 && tupOf ((tupItems d1).length : Int) ((tupItems d1).length : Int) d2) = true := h2
        rw [Bool.and_eq_true] at h3
        obtain ⟨es, e, l1, l2⟩ := tupOf_len h3.2
        have hc := h3.1
        unfold countsB at hc
        rw [Bool.and_eq_true, Bool.and_eq_true] at hc
        obtain ⟨cs, ec, _, h6⟩ := tupOf_len hc.1.1
        subst ec
        have el : (tupItems (.tuple cs)).length = cs.length := rfl
        exact .inr (.inr (.inr (.inr ⟨cs, es, by rw [e], h3.1, by omega, by omega⟩)))
    refine .inl ?_
    show (!nestW z) = true
    unfold nestW
    rw [beq_eq_false_iff_ne.mpr a1, beq_eq_false_iff_ne.mpr a2, beq_eq_false_iff_ne.mpr a3, beq_eq_false_iff_ne.mpr a4]
    rfl
theorem counts_all {cs : List PyData} (h : countsB (.tuple cs) = true) : (∀ c ∈ cs, countB c = true) ∧ (countsN (.tuple cs)).sum ≤ 400 := by
  refine ⟨?_, counts_nat h⟩
  unfold countsB at h
  rw [Bool.and_eq_true, Bool.and_eq_true] at h
  exact List.all_eq_true.mp h.1.2
/-- one entry for each nested space -/
theorem occ_len {d : PyData} (hp : partB d = true) : (occ d).length = (nestedD d).length ∨ leafD d = true := by
  rcases nest_cases hp with h | ⟨es, rfl, _⟩ | ⟨es, rfl, _⟩ | ⟨k, e, rfl, _⟩ | ⟨cs, es, rfl, hc, hl, _⟩
  · exact .inr h
  · exact .inl (by show (List.replicate es.length 1).length = es.length; rw [List.length_replicate])
  · exact .inl (by show (List.replicate es.length 1).length = es.length; rw [List.length_replicate])
  · exact .inl rfl
  · refine .inl ?_
    show (countsN (.tuple cs)).length = es.length
    unfold countsN
    rw [List.length_map, hl]
    rfl
theorem expand_ones : ∀ ns : List Nat, expand (List.replicate ns.length 1) ns = ns
  | [] => rfl
  | n :: l => by
    rw [List.length_cons, List.replicate_succ, expand, expand_ones l]
    rfl
/-- what is known of the sizes' dict -/
structure Sizes (P : Program) (w : World) (K : PySem.W.Frag) (mg : Str → Option Value) (base : Heap) (dS : Addr) (S : Addr → Option Sp) : Prop where
  g : mg "LEAF_SIZES" = some (.ref dS)
  k : ∃ es n, KDict K w dS es n
  held : ∀ f sp, S f = some sp → Held P w K mg base 9 f sp
  at_ : ∀ z len p, kinds.lookup z = some (len, p) → nestW z = false → ∃ (f : Addr) (sp : Sp), PySem.W.nsIn K dS z = some (some (.ref f)) ∧ S f = some sp ∧
    ∀ (H : Hp) (a : Addr) (xs : List V) (ds : List PyData) (Q : VK), H a = some (.tup xs) → DatAll H xs ds → ds.length = len → p ds = true → (∀ (H' : Hp) (n : Nat), Same H H' → n = (zOf z ds).toNat → n < bigN → Q (.int (n : Nat)) H') → sp [.ref a] H Q E0
abbrev sJSize : Stmt := top 59
abbrev sJLeaves : Stmt := top 60
def spJS : Sp := fun vs H Q _ => ∃ (v : V) (b : Addr) (d : PyData) (ns : List Nat), vs = [v, .ref b, .int big] ∧ Dat H v d ∧ partB d = true ∧ H b = some (.lst (vints ns)) ∧ ns.length = (nestedD d).length ∧ (∀ n ∈ ns, n < bigN) ∧ ∀ (H' : Hp) (r : Nat), Same H H' → Near (jsN d ns) r → Q (.int (r : Nat)) H'
def spJL : Sp := fun vs H Q _ => ∃ (v : V) (b : Addr) (d : PyData) (ns : List Nat), vs = [v, .ref b] ∧ Dat H v d ∧ partB d = true ∧ H b = some (.lst (vints ns)) ∧ ns.length = (nestedD d).length ∧ (∀ n ∈ ns, n ≤ 2000) ∧ ∀ H' : Hp, Same H H' → Q (.int ((if leafD d = true then 1 else jlN d ns : Nat) : Nat)) H'
theorem prodN_app : ∀ a b : List Nat, prodN (a ++ b) = prodN a * prodN b
  | [], b => by show prodN b = 1 * prodN b; rw [Nat.one_mul]
  | x :: a, b => by
    show x * prodN (a ++ b) = x * prodN a * prodN b
    rw [prodN_app a b, Nat.mul_assoc]
theorem vints_ints (ns : List Nat) : vints ns = (ns.map fun n : Nat => (n : Int)).map V.int := by
  unfold vints
  rw [List.map_map]
  rfl
theorem rep_flat (k n : Nat) : (List.replicate k (vints [n])).flatten = vints (List.replicate k n) := by
  induction k with
  | zero => rfl
  | succ k ih =>
    rw [List.replicate_succ, List.flatten_cons, ih, List.replicate_succ]
    rfl
section
variable {P : Program} {w : World} {K : PySem.W.Frag} {mg : Str → Option Value} {base : Heap}
theorem scJSize : FnScope ["space", "sizes", "bound", "kind", "count"] ["space", "sizes", "bound"] (defScope sJSize) := ⟨rfl, rfl, rfl, by decide +kernel, rfl, by decide +kernel, by decide +kernel⟩
theorem scJLeaves : FnScope ["space", "leaves", "kind"] ["space", "leaves"] (defScope sJLeaves) := ⟨rfl, rfl, rfl, by decide +kernel, rfl, by decide +kernel, by decide +kernel⟩
theorem ok_jleaves {f fR : Addr} {fd fdR : FuncData} (F : Fun K "joined_leaves" "joined_leaves" sJLeaves f fd) (T : Nm mg) (R : DefOk K mg "repeated" sRepeat ["counts", "items"] fR fdR) : FnOk P w K mg base CX0 2 f fd ["space", "leaves"] spJL := by
  have GR : FnOk P w K mg base CX0 1 fR fdR ["counts", "items"] spRepeat := ok_repeat R.F T
  refine F.ok scJLeaves (fun vs H Q E h => ?_) (fun cdv A outer s H vs Q E hr h => ?_)
  · obtain ⟨v, b, d, ns, rfl, _⟩ := h
    rfl
  · obtain ⟨v, b, d, ns, rfl, hd, hp, hb, hn, h2, q⟩ := h
    have hu0 := hr.units0
    have hu1 := hu_of hr
    refine ⟨_, pss_cons (ps_set (i := 2) scJLeaves.nd rfl (Or.inl rfl) (pe_ix ix_tup (pv 0) pe_int (fun _ _ => rfl)))
      (pss_cons (ps_if (pt_cmpR (op_inStrs hu1) (pv 2) (pe_tup (pa_cons pe_str (pa_cons pe_str pa_nil))) rfl)
        (pss_one (ps_ret (pe_callB (cr_sum rfl) (by rfl) T.sum boot_sum (pa_cons (pv 1) pa_nil))))
        pss_nil)
      (pss_cons (ps_if (pt_cmpR (op_eqStr hu0) (pv 2) pe_str (nomark _))
        (pss_one (ps_ret (pe_op op_mulW (pe_callB (cr_sum rfl) (by rfl) T.sum boot_sum (pa_cons (pv 1) pa_nil)) (pe_ix ix_tup (pv 0) pe_int (fun _ _ => rfl)))))
        pss_nil)
      (pss_cons (ps_if (pt_cmpR (op_eqStr hu0) (pv 2) pe_str (nomark _))
        (pss_one (ps_ret (pe_callB (cr_sum rfl) (by rfl) T.sum boot_sum (pa_cons (pe_call GR hr rfl R.g R.F.kp R.b .nil pass0 (pa_cons (pe_ix ix_tup (pv 0) pe_int (fun _ _ => rfl)) (pa_cons (pv 1) pa_nil))) pa_nil))))
        pss_nil)
      (pss_one (ps_ret pe_int))))), ?_⟩
    have head : ∀ (z : Str) (ds : List PyData), d = .tuple (.str z :: ds) → ∃ (a : Addr) (xs : List V), v = .ref a ∧ z.length ≤ 1000 ∧ H a = some (.tup (.str z :: xs)) ∧ DatAll H (.str z :: xs) (.str z :: ds) := fun z ds e => by
      subst e
      cases hd with
      | @tup a xs _ ha hx =>
        cases hx with
        | @cons x0 xs' _ _ c0 cs =>
          cases c0 with
          | str _ hz => exact ⟨a, xs', rfl, hz, ha, .cons (.str _ hz) cs⟩
    rcases nest_cases hp with hl | ⟨es, rfl, e1, e6⟩ | ⟨es, rfl, e1, e6⟩ | ⟨k, e, rfl, k4⟩ | ⟨cs, es, rfl, hc, hl, hc6⟩
    · rw [if_pos hl] at q
      obtain ⟨z, ds, rfl, _⟩ := part_cases hp
      obtain ⟨a, xs, rfl, hz, ha, hx⟩ := head _ _ rfl
      obtain ⟨b1, b2, b3, b4⟩ := leaf_ne hl
      refine ⟨_, rfl, a, _, _, _, rfl, rfl, SqT.of ha, atI_nat (j := 0) rfl, _, rfl, (by show 2 ≤ sizeLine; decide), fun p np => ?_⟩
      have Sp := same_new (o := HO.tup [.str "product", .str "choice"]) np
      have hpp : upd H p (.tup [.str "product", .str "choice"]) p = some (.tup [.str "product", .str "choice"]) := upd_same
      generalize upd H p (.tup [.str "product", .str "choice"]) = H1 at Sp hpp ⊢
      refine ⟨.str z, p, ["product", "choice"], .str z hz, rfl, hpp, _, rfl, ?_⟩
      have eAny : (["product", "choice"] : List Str).any (fun y => eqStr y (.str z)) = ((z == "product") || (z == "choice")) := by
        rw [List.any_cons, List.any_cons, List.any_nil, Bool.or_false]
        rfl
      show (if (["product", "choice"] : List Str).any (fun y => eqStr y (.str z)) = true then _ else _)
      rw [eAny, b1, b2]
      refine if_f rfl ?_
      refine ⟨_, rfl, .str z, "power", .str z hz, rfl, _, rfl, if_f b3 ?_⟩
      refine ⟨_, rfl, .str z, "decorated", .str z hz, rfl, _, rfl, if_f b4 ?_⟩
      exact q H1 Sp
    · obtain ⟨a, xs, rfl, hz, ha, hx⟩ := head _ _ rfl
      refine ⟨_, rfl, a, _, _, _, rfl, rfl, SqT.of ha, atI_nat (j := 0) rfl, _, rfl, (by show 2 ≤ sizeLine; decide), fun p np => ?_⟩
      have Sp := same_new (o := HO.tup [.str "product", .str "choice"]) np
      have hpp : upd H p (.tup [.str "product", .str "choice"]) p = some (.tup [.str "product", .str "choice"]) := upd_same
      generalize upd H p (.tup [.str "product", .str "choice"]) = H1 at Sp hpp ⊢
      refine ⟨.str "product", p, ["product", "choice"], .str _ hz, rfl, hpp, _, rfl, if_t rfl ?_⟩
      refine ⟨_, rfl, b, ns.map fun n : Nat => (n : Int), rfl, by rw [← vints_ints]; exact SqL.of (Sp _ _ hb), ?_⟩
      rw [sum_cast]
      have q1 := q H1 Sp
      rw [show leafD (.tuple [.str "product", .tuple es]) = false from rfl, if_neg Bool.false_ne_true] at q1
      have e2 : jlN (.tuple [.str "product", .tuple es]) ns = ns.sum := by
        show (expand (List.replicate es.length 1) ns).sum = _
        rw [show es.length = ns.length from hn.symm, expand_ones]
      rw [e2] at q1
      exact q1
    · obtain ⟨a, xs, rfl, hz, ha, hx⟩ := head _ _ rfl
      refine ⟨_, rfl, a, _, _, _, rfl, rfl, SqT.of ha, atI_nat (j := 0) rfl, _, rfl, (by show 2 ≤ sizeLine; decide), fun p np => ?_⟩
      have Sp := same_new (o := HO.tup [.str "product", .str "choice"]) np
      have hpp : upd H p (.tup [.str "product", .str "choice"]) p = some (.tup [.str "product", .str "choice"]) := upd_same
      generalize upd H p (.tup [.str "product", .str "choice"]) = H1 at Sp hpp ⊢
      refine ⟨.str "choice", p, ["product", "choice"], .str _ hz, rfl, hpp, _, rfl, if_t rfl ?_⟩
      refine ⟨_, rfl, b, ns.map fun n : Nat => (n : Int), rfl, by rw [← vints_ints]; exact SqL.of (Sp _ _ hb), ?_⟩
      rw [sum_cast]
      have q1 := q H1 Sp
      rw [show leafD (.tuple [.str "choice", .tuple es]) = false from rfl, if_neg Bool.false_ne_true] at q1
      have e2 : jlN (.tuple [.str "choice", .tuple es]) ns = ns.sum := by
        show (expand (List.replicate es.length 1) ns).sum = _
        rw [show es.length = ns.length from hn.symm, expand_ones]
      rw [e2] at q1
      exact q1
    · obtain ⟨a, xs, rfl, hz, ha, hx⟩ := head _ _ rfl
      refine ⟨_, rfl, a, _, _, _, rfl, rfl, SqT.of ha, atI_nat (j := 0) rfl, _, rfl, (by show 2 ≤ sizeLine; decide), fun p np => ?_⟩
      have Sp := same_new (o := HO.tup [.str "product", .str "choice"]) np
      have hpp : upd H p (.tup [.str "product", .str "choice"]) p = some (.tup [.str "product", .str "choice"]) := upd_same
      have q1 := q _ Sp
      generalize upd H p (.tup [.str "product", .str "choice"]) = H1 at Sp hpp q1 ⊢
      refine ⟨.str "power", p, ["product", "choice"], .str _ hz, rfl, hpp, _, rfl, if_f rfl ?_⟩
      match ns, hn with
      | [n], _ =>
        cases hx with
        | cons _ hx =>
          cases hx with
          | cons t1 hx =>
            cases t1
            refine ⟨_, rfl, .str "power", "power", .str _ hz, rfl, _, rfl, if_t rfl ⟨_, rfl, b, [(n : Int)], rfl, SqL.of (Sp _ _ hb), _, rfl, a, _, _, _, rfl, rfl, SqT.of (Sp _ _ ha), atI_nat (j := 1) rfl, _, _, rfl, rfl, ?_, ?_⟩⟩
            · have n2 := h2 n (by simp)
              show CMulW ((n : Int) + 0) (k : Int)
              exact wide_mul (a := 20) (b := 20) (by omega) (by omega) (by decide) (by decide) (by decide)
            · have e2 : jlN (.tuple [.str "power", .int (k : Nat), e]) [n] = n * k := by
                show (expand [((k : Nat) : Int).toNat] [n]).sum = _
                rw [Int.toNat_natCast]
                show (List.replicate k n ++ []).sum = _
                rw [List.append_nil, List.sum_replicate_nat, Nat.mul_comm]
              rw [show leafD (.tuple [.str "power", .int (k : Nat), e]) = false from rfl, if_neg Bool.false_ne_true, e2] at q1
              show Q (.int (((n : Int) + 0) * (k : Int))) H1
              rw [Int.add_zero, ← Int.natCast_mul]
              exact q1
    · obtain ⟨a, xs, rfl, hz, ha, hx⟩ := head _ _ rfl
      refine ⟨_, rfl, a, _, _, _, rfl, rfl, SqT.of ha, atI_nat (j := 0) rfl, _, rfl, (by show 2 ≤ sizeLine; decide), fun p np => ?_⟩
      have Sp := same_new (o := HO.tup [.str "product", .str "choice"]) np
      have hpp : upd H p (.tup [.str "product", .str "choice"]) p = some (.tup [.str "product", .str "choice"]) := upd_same
      generalize upd H p (.tup [.str "product", .str "choice"]) = H1 at Sp hpp ⊢
      refine ⟨.str "decorated", p, ["product", "choice"], .str _ hz, rfl, hpp, _, rfl, if_f rfl ?_⟩
      cases hx with
      | cons _ hx =>
        cases hx with
        | @cons x1 _ _ _ t1 hx =>
          cases t1 with
          | @tup a2 ys _ ha2 hy =>
            refine ⟨_, rfl, .str "decorated", "power", .str _ hz, rfl, _, rfl, if_f rfl ⟨_, rfl, .str "decorated", "decorated", .str _ hz, rfl, _, rfl, if_t rfl ?_⟩⟩
            have hns : ns.length = cs.length := by
              rw [← hl]
              exact hn
            refine ⟨_, rfl, a, _, _, _, rfl, rfl, SqT.of (Sp _ _ ha), atI_nat (j := 1) rfl, _, rfl, a2, b, ys, cs, ns, rfl, Sp _ _ ha2, hy.same Sp, (counts_all hc).1, hc6, Sp _ _ hb, hns, fun r H2 S2 nr hr2 => ?_⟩
            refine ⟨r, (expand (cs.map fun e => (countOf e).toNat) ns).map fun n : Nat => (n : Int), rfl, by rw [← vints_ints]; exact SqL.of hr2, ?_⟩
            rw [sum_cast]
            have q1 := q H2 (Sp.trans S2)
            rw [show leafD (.tuple [.str "decorated", .tuple cs, .tuple es]) = false from rfl, if_neg Bool.false_ne_true] at q1
            exact q1
end
end K3
set_option maxRecDepth 100000
set_option maxHeartbeats 8000000
namespace K3
open PySem PySem.Spec PyProof.Rows L2
/-! ### joined_size -/
theorem near_of {n r : Nat} (h : n = r) : Near n r := ⟨fun _ => h.symm, fun z => by omega⟩
section
variable {P : Program} {w : World} {K : PySem.W.Frag} {mg : Str → Option Value} {base : Heap}
theorem ok_jsize {f fR fW fMt : Addr} {fd fdR fdW fdMt : FuncData} {dS : Addr} {S : Addr → Option Sp} (F : FunD K "joined_size" "joined_size" (defArgs sJSize) (defBody sJSize) (defScope sJSize) [.non] [] f fd) (T : Nm mg) (Z : Sizes P w K mg base dS S) (U : MulOk P w K mg base) (b2 : L2.Binds K U.fd ["factors", "bound"] [])
    (R : DefOk K mg "repeated" sRepeat ["counts", "items"] fR fdR) (W : DefOk K mg "word_size" sWordSize ["space"] fW fdW) (M : DefOk K mg "multinomial" sMulti ["counts"] fMt fdMt) (c : mg "comb" = some (.builtin "math.comb")) : FnOk P w K mg base CX0 10 f fd ["space", "sizes", "bound"] spJS := by
  have GR : FnOk P w K mg base CX0 1 fR fdR ["counts", "items"] spRepeat := ok_repeat R.F T
  have GU : FnOk P w K mg base CX0 1 U.f U.fd ["factors", "bound"] spMulB := ok_mulB U.F
  have GW : FnOk P w K mg base CX0 2 fW fdW ["space"] spWordSize := ok_wordsize W.F M c
  obtain ⟨es0, n0, D⟩ := Z.k
  refine F.ok scJSize (fun vs H Q E h => ?_) (fun cdv A outer s H vs Q E hr h => ?_)
  · obtain ⟨v, b, d, ns, rfl, _⟩ := h
    rfl
  · obtain ⟨v, b, d, ns, rfl, hd, hp, hb, hn, hB, q⟩ := h
    have hu0 := hr.units0
    have hr1 : Room 1 _ := hr.mono (by decide)
    have hr2 : Room 2 _ := hr.mono (by decide)
    refine ⟨_, PSs.nox (pss_cons (ps_set (i := 3) scJSize.nd rfl (Or.inl rfl) (pe_ix ix_tup (pv 0) pe_int (fun _ _ => rfl)))
      (pss_cons (ps_if (pt_cmpR (op_eqStr hu0) (pv 3) pe_str (nomark _))
        (pss_one (ps_ret (pe_call GU hr1 rfl U.g U.F.kp b2 .nil pass0 (pa_cons (pv 1) (pa_cons (pv 2) pa_nil)))))
        pss_nil)
      (pss_cons (ps_if (pt_cmpR (op_eqStr hu0) (pv 3) pe_str (nomark _))
        (pss_one (ps_ret (pe_callB (cr_sum rfl) (by rfl) T.sum boot_sum (pa_cons (pv 1) pa_nil))))
        pss_nil)
      (pss_cons (ps_if (pt_cmpR (op_eqStr hu0) (pv 3) pe_str (nomark _))
        (pss_one (ps_ret (pe_call GU hr1 rfl U.g U.F.kp b2 .nil pass0 (pa_cons (pe_op op_rep (pv 1) (pe_ix ix_tup (pv 0) pe_int (fun _ _ => rfl))) (pa_cons (pv 2) pa_nil)))))
        pss_nil)
      (pss_cons (ps_if (pt_cmpR (op_eqStr hu0) (pv 3) pe_str (nomark _))
        (pss_one (ps_ret (pe_call GU hr1 rfl U.g U.F.kp b2 .nil pass0 (pa_cons (pe_op op_cat (pe_lst (pa_cons (pe_call GW hr2 rfl W.g W.F.kp W.b .nil pass0 (pa_cons (pv 0) pa_nil)) pa_nil)) (pe_call GR hr1 rfl R.g R.F.kp R.b .nil pass0 (pa_cons (pe_ix ix_tup (pv 0) pe_int (fun _ _ => rfl)) (pa_cons (pv 1) pa_nil)))) (pa_cons (pv 2) pa_nil)))))
        pss_nil)
      (pss_cons (ps_set (i := 4) scJSize.nd rfl (Or.inl rfl) (pe_ix (ix_kd (X := _) D) (pe_glob (v := .ref dS) rfl Z.g rfl) (pv 3) (fun _ _ => rfl)))
      (pss_one (ps_ret (pe_callA (i := 4) (S := S) Z.held hr rfl (Or.inl rfl) (pa_cons (pv 0) pa_nil)))))))))), ?_⟩
    have head : ∀ (z : Str) (ds : List PyData), d = .tuple (.str z :: ds) → ∃ (a : Addr) (xs : List V), v = .ref a ∧ z.length ≤ 1000 ∧ H a = some (.tup (.str z :: xs)) ∧ DatAll H (.str z :: xs) (.str z :: ds) := fun z ds e => by
      subst e
      cases hd with
      | @tup a xs _ ha hx =>
        cases hx with
        | @cons x0 xs' _ _ c0 cs =>
          cases c0 with
          | str _ hz => exact ⟨a, xs', rfl, hz, ha, .cons (.str _ hz) cs⟩
    rcases nest_cases hp with hl | ⟨es, rfl, e1, e6⟩ | ⟨es, rfl, e1, e6⟩ | ⟨k, e, rfl, k4⟩ | ⟨cs, es, rfl, hc, hl, hc6⟩
    · obtain ⟨z, ds, rfl, _⟩ := part_cases hp
      obtain ⟨a, xs, rfl, hz, ha, hx⟩ := head _ _ rfl
      obtain ⟨b1, b2, b3, b4⟩ := leaf_ne hl
      have hp' : (match kinds.lookup z with
        | some c => decide (ds.length + 1 = c.1) && c.2 (.str z :: ds)
        | none => false) = true := hp
      cases hk : kinds.lookup z with
      | none =>
        rw [hk] at hp'
        cases hp'
      | some c =>
        obtain ⟨len, p⟩ := c
        rw [hk, Bool.and_eq_true] at hp'
        have hlen : ds.length + 1 = len := of_decide_eq_true hp'.1
        have hpp : p (.str z :: ds) = true := hp'.2
        have hn : nestW z = false := by
          unfold nestW
          rw [b1, b2, b3, b4]
          rfl
        obtain ⟨fz, sp, e1, e2, e3⟩ := Z.at_ z len p hk hn
        refine ⟨_, rfl, a, _, _, _, rfl, rfl, SqT.of ha, atI_nat (j := 0) rfl, ?_⟩
        refine ⟨_, rfl, .str z, "product", .str z hz, rfl, _, rfl, if_f b1 ?_⟩
        refine ⟨_, rfl, .str z, "choice", .str z hz, rfl, _, rfl, if_f b2 ?_⟩
        refine ⟨_, rfl, .str z, "power", .str z hz, rfl, _, rfl, if_f b3 ?_⟩
        refine ⟨_, rfl, .str z, "decorated", .str z hz, rfl, _, rfl, if_f b4 ?_⟩
        refine ⟨_, rfl, z, .ref fz, .ref fz, rfl, rfl, e1, rfl, ?_⟩
        refine ⟨fz, sp, rfl, e2, _, rfl, e3 H a (.str z :: xs) (.str z :: ds) _ ha hx (by rw [List.length_cons]; exact hlen) hpp fun H' n S' en _ => q H' n S' ?_⟩
        refine near_of ?_
        unfold jsN
        rw [if_pos hl, en]
        rfl
    · obtain ⟨a, xs, rfl, hz, ha, hx⟩ := head _ _ rfl
      refine ⟨_, rfl, a, _, _, _, rfl, rfl, SqT.of ha, atI_nat (j := 0) rfl, ?_⟩
      refine ⟨_, rfl, .str "product", "product", .str _ hz, rfl, _, rfl, if_t rfl ?_⟩
      refine ⟨_, rfl, _, rfl, b, ns, rfl, hb, hB, fun r hr' => q H r (Same.refl H) ?_⟩
      have e2 : jsN (.tuple [.str "product", .tuple es]) ns = prodN ns := by
        show prodN (expand (List.replicate es.length 1) ns) * 1 = _
        rw [show es.length = ns.length from hn.symm, expand_ones, Nat.mul_one]
      rw [e2]
      exact hr'
    · obtain ⟨a, xs, rfl, hz, ha, hx⟩ := head _ _ rfl
      refine ⟨_, rfl, a, _, _, _, rfl, rfl, SqT.of ha, atI_nat (j := 0) rfl, ?_⟩
      refine ⟨_, rfl, .str "choice", "product", .str _ hz, rfl, _, rfl, if_f rfl ?_⟩
      refine ⟨_, rfl, .str "choice", "choice", .str _ hz, rfl, _, rfl, if_t rfl ?_⟩
      refine ⟨_, rfl, b, ns.map fun n : Nat => (n : Int), rfl, by rw [← vints_ints]; exact SqL.of hb, ?_⟩
      rw [sum_cast]
      refine q H _ (Same.refl H) (near_of ?_)
      show (expand (List.replicate es.length 1) ns).sum = _
      rw [show es.length = ns.length from hn.symm, expand_ones]
    · obtain ⟨a, xs, rfl, hz, ha, hx⟩ := head _ _ rfl
      refine ⟨_, rfl, a, _, _, _, rfl, rfl, SqT.of ha, atI_nat (j := 0) rfl, ?_⟩
      refine ⟨_, rfl, .str "power", "product", .str _ hz, rfl, _, rfl, if_f rfl ?_⟩
      refine ⟨_, rfl, .str "power", "choice", .str _ hz, rfl, _, rfl, if_f rfl ?_⟩
      refine ⟨_, rfl, .str "power", "power", .str _ hz, rfl, _, rfl, if_t rfl ?_⟩
      match ns, hn with
      | [n], _ =>
        cases hx with
        | cons _ hx =>
          cases hx with
          | cons t1 hx =>
            cases t1
            refine ⟨_, rfl, _, rfl, a, _, _, _, rfl, rfl, SqT.of ha, atI_nat (j := 1) rfl, b, k, _, rfl, rfl, hb, by omega, by omega, ?_, fun p np => ?_⟩
            · show 1 * ((k : Nat) : Int).toNat ≤ sizeLine
              rw [sizeLine_eq]
              omega
            · rw [Int.toNat_natCast, rep_flat]
              refine ⟨_, rfl, p, List.replicate k n, rfl, upd_same, fun m hm => ?_, fun r hr' => q _ r (same_new np) ?_⟩
              · rw [(List.mem_replicate.mp hm).2]
                exact hB n (by simp)
              · have e2 : jsN (.tuple [.str "power", .int (k : Nat), e]) [n] = prodN (List.replicate k n) := by
                  show prodN (expand [((k : Nat) : Int).toNat] [n]) * 1 = _
                  rw [Int.toNat_natCast, Nat.mul_one]
                  show prodN (List.replicate k n ++ []) = _
                  rw [List.append_nil]
                rw [e2]
                exact hr'
    · obtain ⟨a, xs, rfl, hz, ha, hx⟩ := head _ _ rfl
      refine ⟨_, rfl, a, _, _, _, rfl, rfl, SqT.of ha, atI_nat (j := 0) rfl, ?_⟩
      refine ⟨_, rfl, .str "decorated", "product", .str _ hz, rfl, _, rfl, if_f rfl ?_⟩
      refine ⟨_, rfl, .str "decorated", "choice", .str _ hz, rfl, _, rfl, if_f rfl ?_⟩
      refine ⟨_, rfl, .str "decorated", "power", .str _ hz, rfl, _, rfl, if_f rfl ?_⟩
      refine ⟨_, rfl, .str "decorated", "decorated", .str _ hz, rfl, _, rfl, if_t rfl ?_⟩
      refine ⟨_, rfl, a, _, [.str "decorated", .tuple cs, .tuple es], rfl, ha, hx, by simp, hc, fun H1 S1 w1 w2 => ?_⟩
      have eW : zWord [.str "decorated", .tuple cs, .tuple es] = multN 0 1 (countsN (.tuple cs)) := rfl
      rw [eW] at w1 w2 ⊢
      obtain ⟨wn, ew, hw1, hwb⟩ := zb_counts hc
      rw [ew]
      have hwb' : wn < bigN := by
        rw [big_nat] at hwb
        omega
      cases hx with
      | cons _ hx =>
        cases hx with
        | @cons x1 _ _ _ t1 hx =>
          cases t1 with
          | @tup a2 ys _ ha2 hy =>
            have hns : ns.length = cs.length := by
              rw [← hl]
              exact hn
            refine ⟨(by show 1 ≤ sizeLine; decide), fun l nl => ?_⟩
            have Sl := S1.trans (same_new (o := HO.lst [V.int (wn : Int)]) nl)
            have hl1 : upd H1 l (.lst [V.int (wn : Int)]) l = some (.lst (vints [wn])) := upd_same
            generalize upd H1 l (.lst [V.int (wn : Int)]) = H2 at Sl hl1 ⊢
            refine ⟨_, rfl, a, _, _, _, rfl, rfl, SqT.of (Sl _ _ ha), atI_nat (j := 1) rfl, _, rfl, a2, b, ys, cs, ns, rfl, Sl _ _ ha2, hy.same Sl, (counts_all hc).1, hc6, Sl _ _ hb, hns, fun r H3 S3 nr hr2 => ?_⟩
            have lb : (expand (cs.map fun e => (countOf e).toNat) ns).length ≤ 400 := by
              rw [expand_len (by rw [List.length_map, hns])]
              exact (counts_all hc).2
            refine ⟨l, r, _, _, rfl, rfl, S3 _ _ hl1, hr2, ?_, fun p np => ?_⟩
            · rw [vints_len, vints_len, sizeLine_eq]
              show 1 + _ ≤ _
              omega
            · rw [← vints_cat]
              refine ⟨_, rfl, p, [wn] ++ expand (cs.map fun e => (countOf e).toNat) ns, rfl, upd_same, fun m hm => ?_, fun r' hr' => q _ r' ((Sl.trans S3).trans (same_new np)) ?_⟩
              · rcases List.mem_append.mp hm with z | z
                · rw [List.mem_singleton.mp z]
                  exact hwb'
                · exact hB m (expand_mem z)
              · have e2 : jsN (.tuple [.str "decorated", .tuple cs, .tuple es]) ns = prodN ([wn] ++ expand (cs.map fun e => (countOf e).toNat) ns) := by
                  show prodN (expand (countsN (.tuple cs)) ns) * (multN 0 1 (countsN (.tuple cs))).toNat = _
                  rw [ew, Int.toNat_natCast, prodN_app, Nat.mul_comm]
                  show wn * _ = wn * 1 * _
                  rw [Nat.mul_one]
                  rfl
                rw [e2]
                exact hr'
end
end K3
set_option maxRecDepth 100000
set_option maxHeartbeats 8000000
namespace K3
open PySem PySem.Spec PyProof.Rows L2
/-! ### measure -/
def allS {α : Type} : List (Option α) → Option (List α)
  | [] => some []
  | none :: _ => none
  | some x :: r => (allS r).map (x :: ·)
theorem allS_some {α : Type} : ∀ {l : List (Option α)} {r : List α}, allS l = some r → l = r.map some
  | [], r, h => by
    obtain rfl := Option.some.inj h
    rfl
  | none :: _, r, h => by cases h
  | some x :: l, r, h => by
    rw [allS] at h
    cases e : allS l with
    | none =>
      rw [e] at h
      cases h
    | some r' =>
      rw [e] at h
      obtain rfl := Option.some.inj h
      rw [List.map_cons, allS_some e]
theorem allS_map {α : Type} : ∀ r : List α, allS (r.map some) = some r
  | [] => rfl
  | x :: r => by
    rw [List.map_cons, allS, allS_map r]
    rfl
theorem allS_none {α : Type} : ∀ {l : List (Option α)}, allS l = none → none ∈ l
  | none :: _, _ => by simp
  | some x :: l, h => by
    rw [allS] at h
    cases e : allS l with
    | none => exact List.mem_cons_of_mem _ (allS_none e)
    | some r =>
      rw [e] at h
      cases h
theorem allS_mem {α : Type} {l : List (Option α)} (h : none ∈ l) : allS l = none := by
  cases e : allS l with
  | none => rfl
  | some r =>
    rw [allS_some e] at h
    obtain ⟨x, _, hx⟩ := List.mem_map.mp h
    cases hx
/-- leaves and size, of a part whose nested spaces are well formed -/
def msN : Nat → PyData → Option (Nat × Nat)
  | 0, _ => none
  | k + 1, d => match allS ((nestedD d).map (msN k)) with
    | none => none
    | some l => if (2000 < (if leafD d = true then 1 else jlN d (l.map (·.1)))) ∨ bigN ≤ jsN d (l.map (·.2)) then none
      else some ((if leafD d = true then 1 else jlN d (l.map (·.1))), jsN d (l.map (·.2)))
def wfT : Nat → PyData → Bool
  | 0, _ => false
  | k + 1, d => partB d && (nestedD d).all (wfT k)
theorem ms_bd : ∀ {k : Nat} {d : PyData} {p : Nat × Nat}, msN k d = some p → p.1 ≤ 2000 ∧ p.2 < bigN
  | 0, _, _, h => by cases h
  | k + 1, d, p, h => by
    rw [msN] at h
    cases e : allS ((nestedD d).map (msN k)) with
    | none =>
      rw [e] at h
      cases h
    | some l =>
      rw [e] at h
      dsimp only at h
      generalize (if leafD d = true then 1 else jlN d (l.map (·.1))) = L at h
      generalize jsN d (l.map (·.2)) = S at h
      by_cases c : (2000 < L) ∨ bigN ≤ S
      · rw [if_pos c] at h
        cases h
      · rw [if_neg c] at h
        obtain rfl := Option.some.inj h
        show L ≤ 2000 ∧ S < bigN
        exact ⟨by omega, by omega⟩
/-- what stands for a measure -/
inductive Ms (H : Hp) : List V → List (Option (Nat × Nat)) → Prop
  | nil : Ms H [] []
  | non {zs : List V} {os : List (Option (Nat × Nat))} : Ms H zs os → Ms H (.non :: zs) (none :: os)
  | tup {a : Addr} {l s : Nat} {zs : List V} {os : List (Option (Nat × Nat))} : H a = some (.tup [.int (l : Nat), .int (s : Nat)]) → Ms H zs os → Ms H (.ref a :: zs) (some (l, s) :: os)
theorem Ms.mono {H H' : Hp} (S : ∀ a ts, H a = some (.tup ts) → H' a = some (.tup ts)) : ∀ {zs : List V} {os : List (Option (Nat × Nat))}, Ms H zs os → Ms H' zs os
  | _, _, .nil => .nil
  | _, _, .non t => .non (t.mono S)
  | _, _, .tup h t => .tup (S _ _ h) (t.mono S)
theorem Ms.app {H : Hp} : ∀ {zs zs' : List V} {os os' : List (Option (Nat × Nat))}, Ms H zs os → Ms H zs' os' → Ms H (zs ++ zs') (os ++ os')
  | _, _, _, _, .nil, u => u
  | _, _, _, _, .non t, u => .non (t.app u)
  | _, _, _, _, .tup h t, u => .tup h (t.app u)
theorem Ms.len {H : Hp} : ∀ {zs : List V} {os : List (Option (Nat × Nat))}, Ms H zs os → zs.length = os.length
  | _, _, .nil => rfl
  | _, _, .non t => congrArg (· + 1) t.len
  | _, _, .tup _ t => congrArg (· + 1) t.len
theorem Ms.nonT {H : Hp} : ∀ {zs : List V} {os : List (Option (Nat × Nat))}, Ms H zs os → ∀ z ∈ zs, NonT H z
  | _, _, .nil, z, h => by cases h
  | _, _, .non t, z, h => by
    rcases List.mem_cons.mp h with e | e
    · exact .inl e
    · exact t.nonT z e
  | _, _, .tup h t, z, hz => by
    rcases List.mem_cons.mp hz with e | e
    · exact .inr ⟨_, _, e, h⟩
    · exact t.nonT z e
theorem Ms.any {H : Hp} : ∀ {zs : List V} {os : List (Option (Nat × Nat))}, Ms H zs os → zs.any isNon = (allS os).isNone
  | _, _, .nil => rfl
  | _, _, .non t => rfl
  | _, _, .tup (l := l) (s := s) (os := os) h t => by
    rw [List.any_cons, t.any, allS]
    cases allS os <;> rfl
theorem Ms.get {H : Hp} : ∀ {zs : List V} {ps : List (Nat × Nat)} {i : Nat} {z : V}, Ms H zs (ps.map some) → zs[i]? = some z → ∃ (a : Addr) (p : Nat × Nat), z = .ref a ∧ ps[i]? = some p ∧ H a = some (.tup [.int (p.1 : Nat), .int (p.2 : Nat)])
  | _, [], i, z, .nil, h => by simp at h
  | _, p :: ps, 0, z, .tup ha t, h => by
    obtain rfl := Option.some.inj h
    exact ⟨_, p, rfl, rfl, ha⟩
  | _, p :: ps, i + 1, z, .tup ha t, h => by
    obtain ⟨a, q, e1, e2, e3⟩ := t.get (i := i) (z := z) (by simpa using h)
    exact ⟨a, q, e1, by simpa using e2, e3⟩
/-- [e(x) for x in a list], the values known -/
theorem lc_valsL {K : PySem.W.Frag} {H : Hp} {a : Addr} {xs : List V} {g : TG} {te : TE} {vs : List Nat} {σ : L2.St} {D : Addr} {Qd : Hp → Prop} (out : Nat → V) (ha : H a = some (.lst xs)) (hz : xs.length ≤ 1000000) (nD : H D = none)
    (hs : ∀ (i : Nat) (x : V) (Hx : Hp), xs[i]? = some x → Same H Hx → ∀ R : VK, (∀ H', Same Hx H' → R (out i) H') → g x (wipe σ vs) Hx fun σ2 H2 => wipe σ2 vs = wipe σ vs ∧ te σ2 H2 R)
    (mono : ∀ (x : V) (Hx : Hp) (A B : L2.St → Hp → Prop), (∀ σ2 H2, A σ2 H2 → B σ2 H2) → g x (wipe σ vs) Hx A → g x (wipe σ vs) Hx B)
    (hd : ∀ Hx, Same H Hx → Hx D = some (.lst ((List.range xs.length).map out)) → Qd Hx) :
    ∃ W : Nat → Nat → Hp → Prop, (∃ m, W 0 m (upd H D (.lst []))) ∧ ∀ i m H, W i m H →
      ((Itl K a).stop i H ∧ Qd H) ∨ ((Itl K a).go i H ∧ ∃ Nx : Hp → Prop, (∀ H', Nx H' → ∃ m', m' < m ∧ W (i + 1) m' H') ∧ ∀ x H', (Itl K a).yld i H x H' → g x (wipe σ vs) H' fun σ2 H2 => wipe σ2 vs = wipe σ vs ∧ tYes σ2 H2 fun b H3 =>
        if b = true then te σ2 H3 fun y H4 => ∃ acc, H4 D = some (.lst acc) ∧ acc.length < sizeLine ∧ Nx (upd H4 D (.lst (acc ++ [y]))) else Nx H3) := by
  refine lc_list (K := K) (a := a) (xs := xs) (fun j Hx => Same H Hx ∧ Hx D = some (.lst ((List.range j).map out))) ⟨same_new nD, upd_same⟩ (fun j Hx _ ⟨S, _⟩ => SqL.of (S _ _ ha)) ?_ fun Hx ⟨S, hD⟩ => hd Hx S hD
  rintro i x Hx hi ⟨S, hD⟩
  refine mono x Hx _ _ (fun σ2 H2 h => ⟨h.1, ?_⟩) (hs i x Hx hi S (fun y H4 => ∃ acc, H4 D = some (.lst acc) ∧ acc.length < sizeLine ∧ Same H (upd H4 D (.lst (acc ++ [y]))) ∧ upd H4 D (.lst (acc ++ [y])) D = some (.lst ((List.range (i + 1)).map out))) fun H' S' => ?_)
  · dsimp only [tYes]
    first
      | exact if_t rfl h.2
      | exact h.2
  · have hi' : i < xs.length := (List.getElem?_eq_some_iff.mp hi).1
    refine ⟨_, S' _ _ hD, ?_, grow nD (S.trans S'), ?_⟩
    · rw [List.length_map, List.length_range, sizeLine_eq]
      omega
    · rw [upd_same, List.range_succ, List.map_append]
      rfl
theorem range_vints {α : Type} (ps : List α) (f : α → Nat) (g : Nat → V) (h : ∀ i p, ps[i]? = some p → g i = V.int ((f p : Nat) : Int)) : (List.range ps.length).map g = vints (ps.map f) := by
  unfold vints
  rw [List.map_map]
  apply List.ext_getElem?
  intro i
  rw [List.getElem?_map, List.getElem?_map]
  by_cases hi : i < ps.length
  · rw [List.getElem?_range hi, List.getElem?_eq_getElem hi]
    show some (g i) = some (V.int ((f ps[i] : Nat) : Int))
    rw [h i ps[i] (List.getElem?_eq_getElem hi)]
  · rw [List.getElem?_eq_none (by rw [List.length_range]; omega), List.getElem?_eq_none (by omega)]
    rfl
abbrev sMeasure : Stmt := top 76
def spMeas (k : Nat) : Sp := fun vs H Q _ => ∃ (v : V) (d : PyData), vs = [v, .int big] ∧ Dat H v d ∧ wfT k d = true ∧ (∀ H', Same H H' → msN k d = none → Q .non H') ∧ (∀ (p : Addr) (l s : Nat) (H' : Hp), Same H H' → msN k d = some (l, s) → H' p = some (.tup [.int (l : Nat), .int (s : Nat)]) → Q (.ref p) H')
section
variable {P : Program} {w : World} {K : PySem.W.Frag} {mg : Str → Option Value} {base : Heap}
theorem scMeasure : FnScope ["space", "bound", "measures", "leaves", "size", "inner", "pair"] ["space", "bound"] (defScope sMeasure) := ⟨rfl, rfl, rfl, by decide +kernel, rfl, by decide +kernel, by decide +kernel⟩
theorem measure_body {f fN fL fJ : Addr} {fd fdN fdL fdJ : FuncData} {sp : Sp} (n : Nat) (F : Fun K "measure" "measure" sMeasure f fd) (b : L2.Binds K fd ["space", "bound"] []) (g : mg "measure" = some (.ref f)) (G : FnOk P w K mg base CX0 (10 + n) f fd ["space", "bound"] sp)
    (N : DefOk K mg "nested_spaces" sNested ["space"] fN fdN) (L : DefOk K mg "joined_leaves" sJLeaves ["space", "leaves"] fL fdL) (GL : FnOk P w K mg base CX0 2 fL fdL ["space", "leaves"] spJL)
    (J : FunD K "joined_size" "joined_size" (defArgs sJSize) (defBody sJSize) (defScope sJSize) [.non] [] fJ fdJ) (bJ : L2.Binds K fdJ ["space", "sizes", "bound"] []) (gJ : mg "joined_size" = some (.ref fJ)) (GJ : FnOk P w K mg base CX0 10 fJ fdJ ["space", "sizes", "bound"] spJS) (C : Cst mg)
    (hn : ∀ m, n = m + 1 → ∀ (x : V) (d : PyData) (H : Hp) (R : VK), Dat H x d → wfT m d = true → (∀ H', Same H H' → msN m d = none → R .non H') → (∀ (p : Addr) (l s : Nat) (H' : Hp), Same H H' → msN m d = some (l, s) → H' p = some (.tup [.int (l : Nat), .int (s : Nat)]) → R (.ref p) H') → sp [x, .int big] H R E0) : FnOk P w K mg base CX0 (11 + n) f fd ["space", "bound"] (spMeas n) := by
  have GN : FnOk P w K mg base CX0 1 fN fdN ["space"] spNested := ok_nested N.F
  obtain ⟨t, z⟩ := C.leaves
  rw [show 11 + n = (10 + n) + 1 by omega]
  refine F.ok scMeasure (fun vs H Q E h => ?_) (fun cdv A outer s H vs Q E hr h => ?_)
  · obtain ⟨v, d, rfl, _⟩ := h
    rfl
  · obtain ⟨v, d, rfl, hd, hw, q0, q1⟩ := h
    have hr1 : Room 1 _ := hr.mono (by omega)
    have hr2 : Room 2 _ := hr.mono (by omega)
    have hr10 : Room 10 _ := hr.mono (by omega)
    have hu := hr.units
    refine ⟨_, pss_cons (ps_setLc (i := 2) (own := [("inner", 5)]) (g := gName 5) (tt := tYes) rfl scMeasure.nd rfl rfl (sw_true rfl rfl rfl (by decide +kernel)) (pi_tup (pe_call GN hr1 rfl N.g N.F.kp N.b .nil pass0 (pa_cons (pv 0) pa_nil))) (blkOk_by (N := ["space", "bound", "measures", "leaves", "size", "inner", "pair"]) (sc := defScope sMeasure) (by decide +kernel))
            (fun _ _ _ _ _ => pg_name (i := 5) scMeasure.nd rfl (Or.inl rfl)) (fun _ _ _ _ _ => pts_nil) (fun _ _ _ _ _ => pe_call G hr rfl g F.kp b .nil pass0 (pa_cons (pv 5) (pa_cons (pv 1) pa_nil))))
      (pss_cons (ps_if (pt_cmpR (op_noneInT hu) pe_non (pv 2) rfl) (pss_one (ps_ret pe_non)) pss_nil)
      (pss_cons (ps_set (i := 3) scMeasure.nd rfl (Or.inl rfl) (pe_call GL hr2 rfl L.g L.F.kp L.b .nil pass0 (pa_cons (pv 0) (pa_cons (pe_lc (own := [("pair", 6)]) (g := gName 6) (tt := tYes) (te := tOp (rIxT K) (tVar 6) (tC (.int 0))) rfl scMeasure.nd (pi_list (pv 2)) (blkOk_by (N := ["space", "bound", "measures", "leaves", "size", "inner", "pair"]) (sc := defScope sMeasure) (by decide +kernel))
            (fun _ _ _ _ _ => pg_name (i := 6) scMeasure.nd rfl (Or.inl rfl)) (fun _ _ _ _ _ => pts_nil) (fun _ _ _ _ _ => pe_ix ix_tup (pv 6) pe_int (fun _ _ => rfl))) pa_nil))))
      (pss_cons (ps_set (i := 4) scMeasure.nd rfl (Or.inl rfl) (pe_call GJ hr10 rfl gJ J.kp bJ .nil pass0 (pa_cons (pv 0) (pa_cons (pe_lc (own := [("pair", 6)]) (g := gName 6) (tt := tYes) (te := tOp (rIxT K) (tVar 6) (tC (.int 1))) rfl scMeasure.nd (pi_list (pv 2)) (blkOk_by (N := ["space", "bound", "measures", "leaves", "size", "inner", "pair"]) (sc := defScope sMeasure) (by decide +kernel))
            (fun _ _ _ _ _ => pg_name (i := 6) scMeasure.nd rfl (Or.inl rfl)) (fun _ _ _ _ _ => pts_nil) (fun _ _ _ _ _ => pe_ix ix_tup (pv 6) pe_int (fun _ _ => rfl))) (pa_cons (pv 1) pa_nil)))))
      (pss_cons (ps_if (PW.pt (pw_or (pt_cmpR op_gt (pv 3) (pe_glob (v := .int 2000) rfl z ⟨_, rfl⟩) (nomark _)) (pw_or1 (pt_cmpR op_ge (pv 4) (pv 1) (nomark _))))) (pss_one (ps_ret pe_non)) pss_nil)
      (pss_one (ps_ret (pe_tup (pa_cons (pv 3) (pa_cons (pv 4) pa_nil))))))))), ?_⟩
    cases n with
    | zero => exact Bool.noConfusion ((show false = true from hw) : false = true)
    | succ m =>
      have hw' : (partB d && (nestedD d).all (wfT m)) = true := hw
      rw [Bool.and_eq_true] at hw'
      obtain ⟨hp, hin⟩ := hw'
      have hin' := List.all_eq_true.mp hin
      have n6 := nested_len hp
      have eM : msN (m + 1) d = match allS ((nestedD d).map (msN m)) with
        | none => none
        | some l => if (2000 < (if leafD d = true then 1 else jlN d (l.map (·.1)))) ∨ bigN ≤ jsN d (l.map (·.2)) then none
          else some ((if leafD d = true then 1 else jlN d (l.map (·.1))), jsN d (l.map (·.2))) := rfl
      rw [eM] at q0 q1
      refine ⟨_, rfl, v, d, H, rfl, Same.refl H, hd, hp, fun p ys H1 S1 hpy hy => ?_⟩
      have hyl := hy.len
      refine ⟨p, rfl, ⟨_, SqT.of hpy⟩, fun D nD => lc_tup (K := K) (a := p) (xs := ys) (fun j Hx => Same H1 Hx ∧ ∃ zs : List V, Hx D = some (.lst zs) ∧ Ms Hx zs (((nestedD d).take j).map (msN m)))
        ⟨same_new nD, [], upd_same, .nil⟩ (fun j Hx _ ⟨S, _⟩ => SqT.of (S _ _ hpy)) ?_ ?_⟩
      · rintro i x Hx hi ⟨S, zs, hD, B⟩
        obtain ⟨e, hei, te⟩ := hy.get hi
        have hil : i < (nestedD d).length := (List.getElem?_eq_some_iff.mp hei).1
        have lz := B.len
        rw [List.length_map, List.length_take] at lz
        have key : ∀ (y : V) (o : Option (Nat × Nat)) (H' : Hp), Same Hx H' → o = msN m e → Ms H' [y] [o] → ∃ acc, H' D = some (.lst acc) ∧ acc.length < sizeLine ∧ Same H1 (upd H' D (.lst (acc ++ [y]))) ∧ ∃ zs', upd H' D (.lst (acc ++ [y])) D = some (.lst zs') ∧ Ms (upd H' D (.lst (acc ++ [y]))) zs' (((nestedD d).take (i + 1)).map (msN m)) := by
          intro y o H' S' eo B1
          have hD' := S' _ _ hD
          refine ⟨zs, hD', by rw [sizeLine_eq]; omega, grow nD (S.trans S'), zs ++ [y], upd_same, ?_⟩
          rw [List.take_add_one, hei, List.map_append]
          have B2 : Ms H' (zs ++ [y]) (((nestedD d).take i).map (msN m) ++ [msN m e]) := (B.mono fun a ts h => S' _ _ h).app (by rw [← eo]; exact B1)
          refine B2.mono fun a ts h => ?_
          have ne : a ≠ D := fun z => by
            rw [z, hD'] at h
            cases h
          rw [upd_ne ne]
          exact h
        refine ⟨rfl, _, rfl, _, rfl, hn m rfl x e Hx _ ((te.same S1).same S) (hin' e (List.mem_of_getElem? hei)) (fun H' S' h => key .non none H' S' h.symm (.non .nil)) fun p2 l s H' S' h hp2 => key (.ref p2) (some (l, s)) H' S' h.symm (.tup hp2 .nil)⟩
      · rintro Hx ⟨S, zs, hD, B⟩
        rw [hyl, List.take_length] at B
        have T1 := S1.trans S
        have lz := B.len
        rw [List.length_map] at lz
        refine ⟨_, rfl, D, zs, rfl, rfl, hD, B.nonT, _, rfl, ?_⟩
        rw [B.any]
        cases hall : allS ((nestedD d).map (msN m)) with
        | none =>
          rw [hall] at q0
          exact if_t rfl (q0 Hx T1 rfl)
        | some l =>
          rw [hall] at q0 q1
          have eL := allS_some hall
          rw [eL] at B
          have ll : l.length = (nestedD d).length := by
            have z := congrArg List.length eL
            rw [List.length_map, List.length_map] at z
            exact z.symm
          have lzl : zs.length = l.length := by omega
          have bd : ∀ p ∈ l, p.1 ≤ 2000 ∧ p.2 < bigN := fun p hp => by
            have z : some p ∈ (nestedD d).map (msN m) := by rw [eL]; exact List.mem_map_of_mem hp
            obtain ⟨e, _, he⟩ := List.mem_map.mp z
            exact ms_bd he
          refine if_f rfl ⟨_, rfl, _, rfl, D, rfl, ⟨_, SqL.of hD⟩, fun D2 nD2 => lc_valsL (K := K) (a := D) (xs := zs) (fun i => V.int (((l.getD i (0, 0)).1 : Nat) : Int)) hD (by omega) nD2 (fun i x Hy hi S2 R hR => ?_) mono_name fun H2 S2 hD2 => ?_⟩
          · obtain ⟨a, pr, rfl, hpr, ha⟩ := B.get hi
            have g0 : l.getD i (0, 0) = pr := by rw [List.getD_eq_getElem?_getD, hpr]; rfl
            rw [g0] at hR
            exact ⟨rfl, _, rfl, a, _, _, _, rfl, rfl, SqT.of (S2 _ _ ha), atI_nat (j := 0) rfl, hR Hy (Same.refl Hy)⟩
          · rw [lzl, range_vints l (·.1) _ (fun i p h => by rw [List.getD_eq_getElem?_getD, h]; rfl)] at hD2
            have T2 := T1.trans S2
            refine ⟨v, D2, d, l.map (·.1), rfl, hd.same T2, hp, hD2, by rw [List.length_map, ll], fun n hn2 => ?_, fun H3 S3 => ?_⟩
            · obtain ⟨pr, hpr, rfl⟩ := List.mem_map.mp hn2
              exact (bd pr hpr).1
            · have T3 := T2.trans S3
              have hD3 := S3 _ _ (S2 _ _ hD)
              have B3 := (B.mono fun a ts h => S2 _ _ h).mono fun a ts h => S3 _ _ h
              refine ⟨_, rfl, _, rfl, D, rfl, ⟨_, SqL.of hD3⟩, fun D4 nD4 => lc_valsL (K := K) (a := D) (xs := zs) (fun i => V.int (((l.getD i (0, 0)).2 : Nat) : Int)) hD3 (by omega) nD4 (fun i x Hy hi S4 R hR => ?_) mono_name fun H4 S4 hD4 => ?_⟩
              · obtain ⟨a, pr, rfl, hpr, ha⟩ := B3.get hi
                have g0 : l.getD i (0, 0) = pr := by rw [List.getD_eq_getElem?_getD, hpr]; rfl
                rw [g0] at hR
                exact ⟨rfl, _, rfl, a, _, _, _, rfl, rfl, SqT.of (S4 _ _ ha), atI_nat (j := 1) rfl, hR Hy (Same.refl Hy)⟩
              · rw [lzl, range_vints l (·.2) _ (fun i p h => by rw [List.getD_eq_getElem?_getD, h]; rfl)] at hD4
                have T4 := T3.trans S4
                refine ⟨_, rfl, v, D4, d, l.map (·.2), rfl, hd.same T4, hp, hD4, by rw [List.length_map, ll], fun n hn2 => ?_, fun H5 r S5 nr => ?_⟩
                · obtain ⟨pr, hpr, rfl⟩ := List.mem_map.mp hn2
                  exact (bd pr hpr).2
                · have T5 := T4.trans S5
                  dsimp only at q0 q1
                  generalize (if leafD d = true then 1 else jlN d (l.map (·.1))) = Lf at q0 q1 ⊢
                  generalize jsN d (l.map (·.2)) = Sz at q0 q1 nr
                  have nl := nr.lt
                  refine ⟨_, rfl, _, _, rfl, rfl, _, rfl, ?_⟩
                  by_cases c1 : 2000 < Lf
                  · rw [if_pos (.inl c1)] at q0
                    exact if_t (decide_eq_true (by omega)) (if_t rfl (q0 H5 T5 rfl))
                  · refine if_f (decide_eq_false (by omega)) ⟨_, rfl, _, rfl, _, _, rfl, rfl, _, rfl, ?_⟩
                    by_cases c2 : bigN ≤ Sz
                    · rw [if_pos (.inr c2)] at q0
                      exact if_t (decide_eq_true (by rw [big_nat]; have := nr.2 c2; omega)) (q0 H5 T5 rfl)
                    · rw [if_neg (by omega)] at q1
                      refine if_f (decide_eq_false (by rw [big_nat]; omega)) ?_
                      refine ⟨_, rfl, _, rfl, (by show 2 ≤ sizeLine; decide), fun p2 np2 => q1 p2 Lf Sz _ (T5.trans (same_new np2)) rfl ?_⟩
                      rw [upd_same, nr.1 (by omega)]
theorem ok_measure {f fN fL fJ : Addr} {fd fdN fdL fdJ : FuncData} (F : Fun K "measure" "measure" sMeasure f fd) (b : L2.Binds K fd ["space", "bound"] []) (g : mg "measure" = some (.ref f))
    (N : DefOk K mg "nested_spaces" sNested ["space"] fN fdN) (L : DefOk K mg "joined_leaves" sJLeaves ["space", "leaves"] fL fdL) (GL : FnOk P w K mg base CX0 2 fL fdL ["space", "leaves"] spJL)
    (J : FunD K "joined_size" "joined_size" (defArgs sJSize) (defBody sJSize) (defScope sJSize) [.non] [] fJ fdJ) (bJ : L2.Binds K fdJ ["space", "sizes", "bound"] []) (gJ : mg "joined_size" = some (.ref fJ)) (GJ : FnOk P w K mg base CX0 10 fJ fdJ ["space", "sizes", "bound"] spJS) (C : Cst mg) : ∀ n : Nat, FnOk P w K mg base CX0 (11 + n) f fd ["space", "bound"] (spMeas n)
  | 0 => measure_body (sp := fun _ _ _ _ => False) 0 F b g fn_none N L GL J bJ gJ GJ C fun m e => by cases e
  | n + 1 => by
    have G := ok_measure F b g N L GL J bJ gJ GJ C n
    rw [show 11 + n = 10 + (n + 1) by omega] at G
    refine measure_body (n + 1) F b g G N L GL J bJ gJ GJ C fun m e x d H R hd hw h0 h1 => ?_
    obtain rfl : n = m := Nat.succ.inj e
    exact ⟨x, d, rfl, hd, hw, h0, h1⟩
end
end K3
set_option maxRecDepth 100000
set_option maxHeartbeats 8000000
namespace K3
open PySem PySem.Spec PyProof.Rows L2
/-! ### is_space of any value -/
/-- the number of parts -/
def szN : Nat → PyData → Nat
  | 0, _ => 0
  | k + 1, d => 1 + ((nestedD d).map (szN k)).sum
theorem sum_flat {f : PyData → Nat} {g : PyData → List PyData} : ∀ l : List PyData, ((l.flatMap g).map f).sum + l.length = (l.map fun d => 1 + ((g d).map f).sum).sum
  | [] => rfl
  | a :: l => by
    rw [List.flatMap_cons, List.map_append, List.sum_append, List.map_cons, List.sum_cons, List.length_cons, ← sum_flat l]
    omega
theorem all_flat {p : PyData → Bool} {g : PyData → List PyData} : ∀ l : List PyData, (l.flatMap g).all p = l.all fun d => (g d).all p
  | [] => rfl
  | a :: l => by rw [List.flatMap_cons, List.all_append, all_flat l, List.all_cons]
theorem wf_all (k : Nat) : ∀ l : List PyData, l.all (wfT (k + 1)) = (l.all partB && (l.flatMap nestedD).all (wfT k))
  | [] => rfl
  | a :: l => by
    rw [List.all_cons, wf_all k l, List.all_cons, List.flatMap_cons, List.all_append]
    show ((partB a && (nestedD a).all (wfT k)) && _) = _
    cases partB a <;> cases (nestedD a).all (wfT k) <;> cases l.all partB <;> rfl
theorem sz_len (k : Nat) : ∀ l : List PyData, l.length ≤ (l.map (szN (k + 1))).sum
  | [] => Nat.le_refl _
  | a :: l => by
    have z := sz_len k l
    rw [List.length_cons, List.map_cons, List.sum_cons]
    show _ ≤ (1 + ((nestedD a).map (szN k)).sum) + _
    omega
theorem wfB_eq : ∀ (k p : Nat) (l : List PyData), p ≤ 40 → wfB k p l = (l.all (wfT k) && decide (p + (l.map (szN k)).sum ≤ 40))
  | 0, p, l, h => by
    cases l with
    | nil =>
      show true = (true && decide (p + 0 ≤ 40))
      rw [decide_eq_true (by omega)]
      rfl
    | cons a l => rfl
  | k + 1, p, l, h => by
    rw [wfB]
    by_cases c : p + l.length > 40
    · rw [if_pos c]
      have z := sz_len k l
      rw [decide_eq_false (by omega), Bool.and_false]
    · rw [if_neg c, wf_all]
      cases hp : l.all partB with
      | false => rfl
      | true =>
        rw [if_neg (by decide), wfB_eq k (p + l.length) (l.flatMap nestedD) (by omega), Bool.true_and]
        congr 2
        have z := sum_flat (f := szN k) (g := nestedD) l
        have e : (l.map (szN (k + 1))).sum = (l.map fun d => 1 + ((nestedD d).map (szN k)).sum).sum := rfl
        rw [e, ← z]
        exact propext ⟨fun _ => by omega, fun _ => by omega⟩
theorem wf_eq (d : PyData) : isWf d = (wfT 6 d && decide (szN 6 d ≤ 40)) := by
  unfold isWf
  rw [wfB_eq 6 0 [d] (by decide)]
  show (wfT 6 d && true && decide (0 + (szN 6 d + 0) ≤ 40)) = _
  rw [Bool.and_true, Nat.zero_add, Nat.add_zero]
abbrev s_is_space : Stmt := top 74
/-- what is_space says -/
def spaceB (d : PyData) : Bool := isWf d && (msN 6 d).isSome
def spSpace : Sp := fun vs H Q _ => ∃ (v : V) (d : PyData), vs = [v] ∧ Dat H v d ∧ ∀ H', Same H H' → Q (.bl (spaceB d)) H'
section
variable {P : Program} {w : World} {K : PySem.W.Frag} {mg : Str → Option Value} {base : Heap}
theorem scis_space : FnScope ["value"] ["value"] (defScope s_is_space) := ⟨rfl, rfl, rfl, by decide +kernel, rfl, by decide +kernel, by decide +kernel⟩
theorem ok_space {f fW fM fR : Addr} {fd fdW fdM fdR : FuncData} (F : Fun K "is_space" "is_space" s_is_space f fd) (C : Cst mg)
    (W : DefOk K mg "is_well_formed" sWell ["value"] fW fdW) (GW : FnOk P w K mg base CX0 12 fW fdW ["value"] (spP isWf))
    (M : DefOk K mg "measure" sMeasure ["space", "bound"] fM fdM) (GM : FnOk P w K mg base CX0 17 fM fdM ["space", "bound"] (spMeas 6))
    (R : DefOk K mg "raise_to" sRaise ["base", "exponent"] fR fdR) : FnOk P w K mg base CX0 18 f fd ["value"] spSpace := by
  have GR : FnOk P w K mg base CX0 1 fR fdR ["base", "exponent"] spRaise := ok_raise R.F
  obtain ⟨t, z⟩ := C.digits
  refine F.ok scis_space (fun vs H Q E h => ?_) (fun cdv A outer s H vs Q E hr h => ?_)
  · obtain ⟨v, d, rfl, _⟩ := h
    rfl
  · obtain ⟨v, d, rfl, hd, q⟩ := h
    have hr12 : Room 12 _ := hr.mono (by decide)
    have hr1 : Room 1 _ := hr.mono (by decide)
    refine ⟨_, (pss_cons (ps_if (pt_not (pt_val (pe_call GW hr12 rfl W.g W.F.kp W.b .nil pass0 (pa_cons (pv 0) pa_nil))))
        (pss_one (ps_ret pe_bl))
        pss_nil)
      (pss_one (ps_ret (pe_cmpR op_notN (pe_call GM hr rfl M.g M.F.kp M.b .nil pass0 (pa_cons (pv 0) (pa_cons (pe_call GR hr1 rfl R.g R.F.kp R.b .nil pass0 (pa_cons pe_int (pa_cons (pe_glob (v := .int 4000) rfl z ⟨_, rfl⟩) pa_nil))) pa_nil))) pe_non (nomark _))))), ?_⟩
    refine ⟨_, rfl, v, d, rfl, hd, fun H1 S1 => ?_⟩
    cases hp : isWf d with
    | false =>
      refine ⟨_, rfl, if_t rfl ?_⟩
      have q1 := q H1 S1
      unfold spaceB at q1
      rw [hp] at q1
      exact q1
    | true =>
      have hw : wfT 6 d = true := by
        have z := wf_eq d
        rw [hp] at z
        have z2 := z.symm
        rw [Bool.and_eq_true] at z2
        exact z2.1
      refine ⟨_, rfl, if_f rfl ?_⟩
      have eB : (((10 ^ 4000 : Nat) : Int)) = big := by
        unfold big
        exact Int.natCast_pow 10 4000
      refine ⟨_, rfl, 10, 4000, rfl, by decide, by decide, ?_⟩
      rw [eB]
      refine ⟨v, d, rfl, hd.same S1, hw, fun H2 S2 h => ?_, fun p l s H2 S2 h _ => ?_⟩
      · have q1 := q H2 (S1.trans S2)
        unfold spaceB at q1
        rw [hp, h] at q1
        exact ⟨rfl, q1⟩
      · have q1 := q H2 (S1.trans S2)
        unfold spaceB at q1
        rw [hp, h] at q1
        refine ⟨rfl, ?_⟩
        show Q (.bl (!decide (V.ref p = V.non))) H2
        rw [decide_eq_false (fun e => nomatch e)]
        exact q1
end
end K3
set_option maxRecDepth 100000
set_option maxHeartbeats 8000000
namespace K3
open PySem PySem.Spec PyProof.Rows L2
/-! ### size_of: joined_size without a bound -/
abbrev sSizeOf : Stmt := top 75
def spJS0 : Sp := fun vs H Q _ => ∃ (v : V) (b : Addr) (d : PyData) (ns : List Nat), vs = [v, .ref b, .non] ∧ Dat H v d ∧ partB d = true ∧ H b = some (.lst (vints ns)) ∧ ns.length = (nestedD d).length ∧ (∀ n ∈ ns, n < bigN) ∧ jsN d ns < bigN ∧ ∀ H' : Hp, Same H H' → Q (.int (jsN d ns : Nat)) H'
theorem big_400 : bigN < 2 ^ 400000 := Nat.lt_of_lt_of_le bigN_bits (Nat.pow_le_pow_right (by decide) (by decide))
/-- multiply(list, None), the product below the bound -/
theorem mul_of {H : Hp} {a : Addr} {ns : List Nat} {Q : VK} (ha : H a = some (.lst (vints ns))) (hb : ∀ n ∈ ns, n < bigN) (hp : prodN ns < bigN) (q : Q (.int (prodN ns : Nat)) H) : spMul [.ref a, .non] H Q E0 :=
  ⟨a, ns, rfl, ha, fun _ => Nat.lt_trans hp big_400, fun n hn => Nat.lt_trans (hb n hn) big_400, fun z => by
    have e := prod_zero z
    rw [e] at q
    exact q, fun _ => q⟩
section
variable {P : Program} {w : World} {K : PySem.W.Frag} {mg : Str → Option Value} {base : Heap}
theorem ok_jsize0 {f fR fW fMt : Addr} {fd fdR fdW fdMt : FuncData} {dS : Addr} {S : Addr → Option Sp} (F : FunD K "joined_size" "joined_size" (defArgs sJSize) (defBody sJSize) (defScope sJSize) [.non] [] f fd) (T : Nm mg) (Z : Sizes P w K mg base dS S) (U : MulOk P w K mg base) (b2 : L2.Binds K U.fd ["factors", "bound"] [])
    (R : DefOk K mg "repeated" sRepeat ["counts", "items"] fR fdR) (W : DefOk K mg "word_size" sWordSize ["space"] fW fdW) (M : DefOk K mg "multinomial" sMulti ["counts"] fMt fdMt) (c : mg "comb" = some (.builtin "math.comb")) : FnOk P w K mg base CX0 10 f fd ["space", "sizes", "bound"] spJS0 := by
  have GR : FnOk P w K mg base CX0 1 fR fdR ["counts", "items"] spRepeat := ok_repeat R.F T
  have GU : FnOk P w K mg base CX0 1 U.f U.fd ["factors", "bound"] spMul := ok_mul U.F
  have GW : FnOk P w K mg base CX0 2 fW fdW ["space"] spWordSize := ok_wordsize W.F M c
  obtain ⟨es0, n0, D⟩ := Z.k
  refine F.ok scJSize (fun vs H Q E h => ?_) (fun cdv A outer s H vs Q E hr h => ?_)
  · obtain ⟨v, b, d, ns, rfl, _⟩ := h
    rfl
  · obtain ⟨v, b, d, ns, rfl, hd, hp, hb, hn, hB, hJ, q⟩ := h
    have hu0 := hr.units0
    have hr1 : Room 1 _ := hr.mono (by decide)
    have hr2 : Room 2 _ := hr.mono (by decide)
    refine ⟨_, PSs.nox (pss_cons (ps_set (i := 3) scJSize.nd rfl (Or.inl rfl) (pe_ix ix_tup (pv 0) pe_int (fun _ _ => rfl)))
      (pss_cons (ps_if (pt_cmpR (op_eqStr hu0) (pv 3) pe_str (nomark _))
        (pss_one (ps_ret (pe_call GU hr1 rfl U.g U.F.kp b2 .nil pass0 (pa_cons (pv 1) (pa_cons (pv 2) pa_nil)))))
        pss_nil)
      (pss_cons (ps_if (pt_cmpR (op_eqStr hu0) (pv 3) pe_str (nomark _))
        (pss_one (ps_ret (pe_callB (cr_sum rfl) (by rfl) T.sum boot_sum (pa_cons (pv 1) pa_nil))))
        pss_nil)
      (pss_cons (ps_if (pt_cmpR (op_eqStr hu0) (pv 3) pe_str (nomark _))
        (pss_one (ps_ret (pe_call GU hr1 rfl U.g U.F.kp b2 .nil pass0 (pa_cons (pe_op op_rep (pv 1) (pe_ix ix_tup (pv 0) pe_int (fun _ _ => rfl))) (pa_cons (pv 2) pa_nil)))))
        pss_nil)
      (pss_cons (ps_if (pt_cmpR (op_eqStr hu0) (pv 3) pe_str (nomark _))
        (pss_one (ps_ret (pe_call GU hr1 rfl U.g U.F.kp b2 .nil pass0 (pa_cons (pe_op op_cat (pe_lst (pa_cons (pe_call GW hr2 rfl W.g W.F.kp W.b .nil pass0 (pa_cons (pv 0) pa_nil)) pa_nil)) (pe_call GR hr1 rfl R.g R.F.kp R.b .nil pass0 (pa_cons (pe_ix ix_tup (pv 0) pe_int (fun _ _ => rfl)) (pa_cons (pv 1) pa_nil)))) (pa_cons (pv 2) pa_nil)))))
        pss_nil)
      (pss_cons (ps_set (i := 4) scJSize.nd rfl (Or.inl rfl) (pe_ix (ix_kd (X := _) D) (pe_glob (v := .ref dS) rfl Z.g rfl) (pv 3) (fun _ _ => rfl)))
      (pss_one (ps_ret (pe_callA (i := 4) (S := S) Z.held hr rfl (Or.inl rfl) (pa_cons (pv 0) pa_nil)))))))))), ?_⟩
    have head : ∀ (z : Str) (ds : List PyData), d = .tuple (.str z :: ds) → ∃ (a : Addr) (xs : List V), v = .ref a ∧ z.length ≤ 1000 ∧ H a = some (.tup (.str z :: xs)) ∧ DatAll H (.str z :: xs) (.str z :: ds) := fun z ds e => by
      subst e
      cases hd with
      | @tup a xs _ ha hx =>
        cases hx with
        | @cons x0 xs' _ _ c0 cs =>
          cases c0 with
          | str _ hz => exact ⟨a, xs', rfl, hz, ha, .cons (.str _ hz) cs⟩
    rcases nest_cases hp with hl | ⟨es, rfl, e1, e6⟩ | ⟨es, rfl, e1, e6⟩ | ⟨k, e, rfl, k4⟩ | ⟨cs, es, rfl, hc, hl, hc6⟩
    · obtain ⟨z, ds, rfl, _⟩ := part_cases hp
      obtain ⟨a, xs, rfl, hz, ha, hx⟩ := head _ _ rfl
      obtain ⟨b1, b2, b3, b4⟩ := leaf_ne hl
      have hp' : (match kinds.lookup z with
        | some c => decide (ds.length + 1 = c.1) && c.2 (.str z :: ds)
        | none => false) = true := hp
      cases hk : kinds.lookup z with
      | none =>
        rw [hk] at hp'
        cases hp'
      | some c =>
        obtain ⟨len, p⟩ := c
        rw [hk, Bool.and_eq_true] at hp'
        have hlen : ds.length + 1 = len := of_decide_eq_true hp'.1
        have hpp : p (.str z :: ds) = true := hp'.2
        have hn : nestW z = false := by
          unfold nestW
          rw [b1, b2, b3, b4]
          rfl
        obtain ⟨fz, sp, e1, e2, e3⟩ := Z.at_ z len p hk hn
        refine ⟨_, rfl, a, _, _, _, rfl, rfl, SqT.of ha, atI_nat (j := 0) rfl, ?_⟩
        refine ⟨_, rfl, .str z, "product", .str z hz, rfl, _, rfl, if_f b1 ?_⟩
        refine ⟨_, rfl, .str z, "choice", .str z hz, rfl, _, rfl, if_f b2 ?_⟩
        refine ⟨_, rfl, .str z, "power", .str z hz, rfl, _, rfl, if_f b3 ?_⟩
        refine ⟨_, rfl, .str z, "decorated", .str z hz, rfl, _, rfl, if_f b4 ?_⟩
        refine ⟨_, rfl, z, .ref fz, .ref fz, rfl, rfl, e1, rfl, ?_⟩
        refine ⟨fz, sp, rfl, e2, _, rfl, e3 H a (.str z :: xs) (.str z :: ds) _ ha hx (by rw [List.length_cons]; exact hlen) hpp fun H' n S' en _ => ?_⟩
        have q1 := q H' S'
        have ej : jsN (.tuple (.str z :: ds)) ns = n := by
          unfold jsN
          rw [if_pos hl, en]
          rfl
        rw [ej] at q1
        exact q1
    · obtain ⟨a, xs, rfl, hz, ha, hx⟩ := head _ _ rfl
      have e2 : jsN (.tuple [.str "product", .tuple es]) ns = prodN ns := by
        show prodN (expand (List.replicate es.length 1) ns) * 1 = _
        rw [show es.length = ns.length from hn.symm, expand_ones, Nat.mul_one]
      rw [e2] at q hJ
      refine ⟨_, rfl, a, _, _, _, rfl, rfl, SqT.of ha, atI_nat (j := 0) rfl, ?_⟩
      refine ⟨_, rfl, .str "product", "product", .str _ hz, rfl, _, rfl, if_t rfl ?_⟩
      exact ⟨_, rfl, _, rfl, mul_of hb hB hJ (q H (Same.refl H))⟩
    · obtain ⟨a, xs, rfl, hz, ha, hx⟩ := head _ _ rfl
      have e2 : jsN (.tuple [.str "choice", .tuple es]) ns = ns.sum := by
        show (expand (List.replicate es.length 1) ns).sum = _
        rw [show es.length = ns.length from hn.symm, expand_ones]
      rw [e2] at q
      refine ⟨_, rfl, a, _, _, _, rfl, rfl, SqT.of ha, atI_nat (j := 0) rfl, ?_⟩
      refine ⟨_, rfl, .str "choice", "product", .str _ hz, rfl, _, rfl, if_f rfl ?_⟩
      refine ⟨_, rfl, .str "choice", "choice", .str _ hz, rfl, _, rfl, if_t rfl ?_⟩
      refine ⟨_, rfl, b, ns.map fun n : Nat => (n : Int), rfl, by rw [← vints_ints]; exact SqL.of hb, ?_⟩
      rw [sum_cast]
      exact q H (Same.refl H)
    · obtain ⟨a, xs, rfl, hz, ha, hx⟩ := head _ _ rfl
      refine ⟨_, rfl, a, _, _, _, rfl, rfl, SqT.of ha, atI_nat (j := 0) rfl, ?_⟩
      refine ⟨_, rfl, .str "power", "product", .str _ hz, rfl, _, rfl, if_f rfl ?_⟩
      refine ⟨_, rfl, .str "power", "choice", .str _ hz, rfl, _, rfl, if_f rfl ?_⟩
      refine ⟨_, rfl, .str "power", "power", .str _ hz, rfl, _, rfl, if_t rfl ?_⟩
      match ns, hn with
      | [n], _ =>
        have e2 : jsN (.tuple [.str "power", .int (k : Nat), e]) [n] = prodN (List.replicate k n) := by
          show prodN (expand [((k : Nat) : Int).toNat] [n]) * 1 = _
          rw [Int.toNat_natCast, Nat.mul_one]
          show prodN (List.replicate k n ++ []) = _
          rw [List.append_nil]
        rw [e2] at q hJ
        cases hx with
        | cons _ hx =>
          cases hx with
          | cons t1 hx =>
            cases t1
            refine ⟨_, rfl, _, rfl, a, _, _, _, rfl, rfl, SqT.of ha, atI_nat (j := 1) rfl, b, k, _, rfl, rfl, hb, by omega, by omega, ?_, fun p np => ?_⟩
            · show 1 * ((k : Nat) : Int).toNat ≤ sizeLine
              rw [sizeLine_eq]
              omega
            · rw [Int.toNat_natCast, rep_flat]
              exact ⟨_, rfl, mul_of upd_same (fun m hm => by rw [(List.mem_replicate.mp hm).2]; exact hB n (by simp)) hJ (q _ (same_new np))⟩
    · obtain ⟨a, xs, rfl, hz, ha, hx⟩ := head _ _ rfl
      refine ⟨_, rfl, a, _, _, _, rfl, rfl, SqT.of ha, atI_nat (j := 0) rfl, ?_⟩
      refine ⟨_, rfl, .str "decorated", "product", .str _ hz, rfl, _, rfl, if_f rfl ?_⟩
      refine ⟨_, rfl, .str "decorated", "choice", .str _ hz, rfl, _, rfl, if_f rfl ?_⟩
      refine ⟨_, rfl, .str "decorated", "power", .str _ hz, rfl, _, rfl, if_f rfl ?_⟩
      refine ⟨_, rfl, .str "decorated", "decorated", .str _ hz, rfl, _, rfl, if_t rfl ?_⟩
      refine ⟨_, rfl, a, _, [.str "decorated", .tuple cs, .tuple es], rfl, ha, hx, by simp, hc, fun H1 S1 w1 w2 => ?_⟩
      have eW : zWord [.str "decorated", .tuple cs, .tuple es] = multN 0 1 (countsN (.tuple cs)) := rfl
      rw [eW] at w1 w2 ⊢
      obtain ⟨wn, ew, hw1, hwb⟩ := zb_counts hc
      rw [ew]
      have hwb' : wn < bigN := by
        rw [big_nat] at hwb
        omega
      have e2 : jsN (.tuple [.str "decorated", .tuple cs, .tuple es]) ns = prodN ([wn] ++ expand (cs.map fun e => (countOf e).toNat) ns) := by
        show prodN (expand (countsN (.tuple cs)) ns) * (multN 0 1 (countsN (.tuple cs))).toNat = _
        rw [ew, Int.toNat_natCast, prodN_app, Nat.mul_comm]
        show wn * _ = wn * 1 * _
        rw [Nat.mul_one]
        rfl
      rw [e2] at q hJ
      cases hx with
      | cons _ hx =>
        cases hx with
        | @cons x1 _ _ _ t1 hx =>
          cases t1 with
          | @tup a2 ys _ ha2 hy =>
            have hns : ns.length = cs.length := by
              rw [← hl]
              exact hn
            refine ⟨(by show 1 ≤ sizeLine; decide), fun l nl => ?_⟩
            have Sl := S1.trans (same_new (o := HO.lst [V.int (wn : Int)]) nl)
            have hl1 : upd H1 l (.lst [V.int (wn : Int)]) l = some (.lst (vints [wn])) := upd_same
            generalize upd H1 l (.lst [V.int (wn : Int)]) = H2 at Sl hl1 ⊢
            refine ⟨_, rfl, a, _, _, _, rfl, rfl, SqT.of (Sl _ _ ha), atI_nat (j := 1) rfl, _, rfl, a2, b, ys, cs, ns, rfl, Sl _ _ ha2, hy.same Sl, (counts_all hc).1, hc6, Sl _ _ hb, hns, fun r H3 S3 nr hr2 => ?_⟩
            have lb : (expand (cs.map fun e => (countOf e).toNat) ns).length ≤ 400 := by
              rw [expand_len (by rw [List.length_map, hns])]
              exact (counts_all hc).2
            refine ⟨l, r, _, _, rfl, rfl, S3 _ _ hl1, hr2, ?_, fun p np => ?_⟩
            · rw [vints_len, vints_len, sizeLine_eq]
              show 1 + _ ≤ _
              omega
            · rw [← vints_cat]
              refine ⟨_, rfl, mul_of upd_same (fun m hm => ?_) hJ (q _ ((Sl.trans S3).trans (same_new np)))⟩
              rcases List.mem_append.mp hm with z | z
              · rw [List.mem_singleton.mp z]
                exact hwb'
              · exact hB m (expand_mem z)
/-- size_of, of a space of at most k levels -/
def spSzOf (k : Nat) : Sp := fun vs H Q _ => ∃ (v : V) (d : PyData) (l s : Nat), vs = [v] ∧ Dat H v d ∧ wfT k d = true ∧ msN k d = some (l, s) ∧ ∀ H', Same H H' → Q (.int (s : Nat)) H'
theorem scSizeOf : FnScope ["space", "inner"] ["space"] (defScope sSizeOf) := ⟨rfl, rfl, rfl, by decide +kernel, rfl, by decide +kernel, by decide +kernel⟩
theorem sizeof_body {f fN fJ : Addr} {fd fdN fdJ : FuncData} {sp : Sp} (n : Nat) (F : Fun K "size_of" "size_of" sSizeOf f fd) (b : L2.Binds K fd ["space"] []) (g : mg "size_of" = some (.ref f)) (G : FnOk P w K mg base CX0 (10 + n) f fd ["space"] sp)
    (N : DefOk K mg "nested_spaces" sNested ["space"] fN fdN)
    (J : FunD K "joined_size" "joined_size" (defArgs sJSize) (defBody sJSize) (defScope sJSize) [.non] [] fJ fdJ) (bJ : L2.Binds K fdJ ["space", "sizes", "bound"] [Value.none]) (gJ : mg "joined_size" = some (.ref fJ)) (GJ : FnOk P w K mg base CX0 10 fJ fdJ ["space", "sizes", "bound"] spJS0)
    (hn : ∀ m, n = m + 1 → ∀ (x : V) (d : PyData) (l s : Nat) (H : Hp) (R : VK), Dat H x d → wfT m d = true → msN m d = some (l, s) → (∀ H', Same H H' → R (.int (s : Nat)) H') → sp [x] H R E0) : FnOk P w K mg base CX0 (11 + n) f fd ["space"] (spSzOf n) := by
  have GN : FnOk P w K mg base CX0 1 fN fdN ["space"] spNested := ok_nested N.F
  rw [show 11 + n = (10 + n) + 1 by omega]
  refine F.ok scSizeOf (fun vs H Q E h => ?_) (fun cdv A outer s H vs Q E hr h => ?_)
  · obtain ⟨v, d, l, s, rfl, _⟩ := h
    rfl
  · obtain ⟨v, d, lv, sz, rfl, hd, hw, hm, q⟩ := h
    have hr1 : Room 1 _ := hr.mono (by omega)
    have hr10 : Room 10 _ := hr.mono (by omega)
    refine ⟨_, pss_one (ps_ret (pe_call GJ hr10 rfl gJ J.kp bJ (Paired.cons (F := RelV) (a := .non) (b := Value.none) rfl .nil) pass0 (pa_cons (pv 0) (pa_cons (pe_lc (own := [("inner", 1)]) (g := gName 1) (tt := tYes) rfl scSizeOf.nd (pi_tup (pe_call GN hr1 rfl N.g N.F.kp N.b .nil pass0 (pa_cons (pv 0) pa_nil))) (blkOk_by (N := ["space", "inner"]) (sc := defScope sSizeOf) (by decide +kernel))
            (fun _ _ _ _ _ => pg_name (i := 1) scSizeOf.nd rfl (Or.inl rfl)) (fun _ _ _ _ _ => pts_nil) (fun _ _ _ _ _ => pe_call G hr rfl g F.kp b .nil pass0 (pa_cons (pv 1) pa_nil))) pa_nil)))), ?_⟩
    cases n with
    | zero => exact Bool.noConfusion ((show false = true from hw) : false = true)
    | succ m =>
      have hw' : (partB d && (nestedD d).all (wfT m)) = true := hw
      rw [Bool.and_eq_true] at hw'
      obtain ⟨hp, hin⟩ := hw'
      have hin' := List.all_eq_true.mp hin
      have n6 := nested_len hp
      have bdd := ms_bd hm
      rw [msN] at hm
      cases hall : allS ((nestedD d).map (msN m)) with
      | none =>
        rw [hall] at hm
        cases hm
      | some l =>
        rw [hall] at hm
        dsimp only at hm
        have eL := allS_some hall
        have ll : l.length = (nestedD d).length := by
          have z := congrArg List.length eL
          rw [List.length_map, List.length_map] at z
          exact z.symm
        have ej : jsN d (l.map (·.2)) = sz := by
          generalize (if leafD d = true then 1 else jlN d (l.map (·.1))) = A at hm
          generalize jsN d (l.map (·.2)) = B at hm ⊢
          by_cases c : (2000 < A) ∨ bigN ≤ B
          · rw [if_pos c] at hm
            cases hm
          · rw [if_neg c] at hm
            exact (Prod.mk.inj (Option.some.inj hm)).2
        have at_i : ∀ (i : Nat) (e : PyData), (nestedD d)[i]? = some e → msN m e = some (l.getD i (0, 0)) := fun i e h => by
          have z := congrArg (fun r => r[i]?) eL
          simp only [List.getElem?_map, h] at z
          cases hl2 : l[i]? with
          | none =>
            rw [hl2] at z
            cases z
          | some p =>
            rw [hl2] at z
            rw [List.getD_eq_getElem?_getD, hl2]
            exact Option.some.inj z
        refine ⟨_, rfl, _, rfl, v, d, H, rfl, Same.refl H, hd, hp, fun p ys H1 S1 hpy hy => ?_⟩
        have hyl := hy.len
        refine ⟨p, rfl, ⟨_, SqT.of hpy⟩, fun D nD => lc_vals (K := K) (a := p) (xs := ys) (fun i => V.int (((l.getD i (0, 0)).2 : Nat) : Int)) hpy (by omega) nD (fun i x Hx hi S R hR => ?_) mono_name fun H2 S2 hD => ?_⟩
        · obtain ⟨e, hei, te⟩ := hy.get hi
          exact ⟨rfl, _, rfl, hn m rfl x e _ _ Hx _ ((te.same S1).same S) (hin' e (List.mem_of_getElem? hei)) (at_i i e hei) hR⟩
        · rw [hyl, ← ll, range_vints l (·.2) _ (fun i p h => by rw [List.getD_eq_getElem?_getD, h]; rfl)] at hD
          have T2 := S1.trans S2
          refine ⟨v, D, d, l.map (·.2), rfl, hd.same T2, hp, hD, by rw [List.length_map, ll], fun n hn2 => ?_, ?_, fun H3 S3 => ?_⟩
          · obtain ⟨pr, hpr, rfl⟩ := List.mem_map.mp hn2
            have z : some pr ∈ (nestedD d).map (msN m) := by rw [eL]; exact List.mem_map_of_mem hpr
            obtain ⟨e, _, he⟩ := List.mem_map.mp z
            exact (ms_bd he).2
          · rw [ej]
            exact bdd.2
          · rw [ej]
            exact q H3 (T2.trans S3)
theorem ok_sizeof {f fN fJ : Addr} {fd fdN fdJ : FuncData} (F : Fun K "size_of" "size_of" sSizeOf f fd) (b : L2.Binds K fd ["space"] []) (g : mg "size_of" = some (.ref f))
    (N : DefOk K mg "nested_spaces" sNested ["space"] fN fdN)
    (J : FunD K "joined_size" "joined_size" (defArgs sJSize) (defBody sJSize) (defScope sJSize) [.non] [] fJ fdJ) (bJ : L2.Binds K fdJ ["space", "sizes", "bound"] [Value.none]) (gJ : mg "joined_size" = some (.ref fJ)) (GJ : FnOk P w K mg base CX0 10 fJ fdJ ["space", "sizes", "bound"] spJS0) : ∀ n : Nat, FnOk P w K mg base CX0 (11 + n) f fd ["space"] (spSzOf n)
  | 0 => sizeof_body (sp := fun _ _ _ _ => False) 0 F b g fn_none N J bJ gJ GJ fun m e => by cases e
  | n + 1 => by
    have G := ok_sizeof F b g N J bJ gJ GJ n
    rw [show 11 + n = 10 + (n + 1) by omega] at G
    refine sizeof_body (n + 1) F b g G N J bJ gJ GJ fun m e x d l s H R hd hw hm h => ?_
    obtain rfl : n = m := Nat.succ.inj e
    exact ⟨x, d, l, s, rfl, hd, hw, hm, h⟩
end
end K3
set_option maxRecDepth 100000
set_option maxHeartbeats 4000000
namespace K3
open PySem PySem.Spec PyProof.Rows L2
abbrev sDeck : Stmt := top 78
abbrev sDraw : Stmt := top 79
abbrev sPick : Stmt := top 80
/-! ### the deck of choices -/
/-- a deck at p: its cells at q, the mixed number m, the count c -/
structure DeckAt (H : Hp) (p q : Addr) (ns : List Int) (m c : Int) : Prop where
  ob : H p = some (.lst [.ref q, .int m, .int c])
  ce : H q = some (.lst (ns.map V.int))
  m0 : 0 ≤ m
  m1 : m < 2147483629
  c0 : 0 ≤ c
  c1 : c ≤ 1000000000
  ln : ns.length ≤ 63
theorem DeckAt.ne {H : Hp} {p q : Addr} {ns : List Int} {m c : Int} (D : DeckAt H p q ns m c) : p ≠ q := fun e => by
  have z := D.ce
  rw [← e, D.ob] at z
  have z' := Option.some.inj z
  injection z' with z''
  cases ns with
  | nil => cases z''
  | cons a l => injection z'' with y _; cases y
theorem DeckAt.same {H H' : Hp} {p q : Addr} {ns : List Int} {m c : Int} (D : DeckAt H p q ns m c) (S : Same H H') : DeckAt H' p q ns m c := ⟨S _ _ D.ob, S _ _ D.ce, D.m0, D.m1, D.c0, D.c1, D.ln⟩
/-- what was tracked, but at p and q -/
def Off (p q : Addr) (H H' : Hp) : Prop := ∀ b o, H b = some o → b ≠ p → b ≠ q → H' b = some o
theorem Off.of_same {p q : Addr} {H H' : Hp} (S : Same H H') : Off p q H H' := fun b o e _ _ => S b o e
theorem Off.trans {p q : Addr} {H H1 H2 : Hp} (a : Off p q H H1) (b : Off p q H1 H2) : Off p q H H2 := fun c o e h1 h2 => b c o (a c o e h1 h2) h1 h2
theorem Off.refl {p q : Addr} {H : Hp} : Off p q H H := fun _ _ e _ _ => e
theorem dp_ints {K : PySem.W.Frag} {H : Hp} : ∀ ns : List Int, DpAll K H (ns.map V.int) (ns.map PyData.int)
  | [] => .nil
  | a :: l => .cons (.int a) (dp_ints l)
theorem lay_ints : ∀ ns : List Int, PyData.canLayAll0 (ns.map PyData.int) = true
  | [] => by simp [PyData.canLayAll0]
  | a :: l => by simp [PyData.canLayAll0, PyData.canLay0, lay_ints l]
theorem depth_ints : ∀ ns : List Int, PyData.depthAll (ns.map PyData.int) = 0
  | [] => by simp [PyData.depthAll]
  | a :: l => by simp [PyData.depthAll, PyData.depth, depth_ints l]
theorem shaped_ints (ns : List Int) : SeqAt.shaped (.list (ns.map PyData.int)) = true := by
  have h2 : PyData.depth (.list (ns.map PyData.int)) ≤ 64 := by
    rw [PyData.depth, depth_ints]
    decide
  unfold SeqAt.shaped
  rw [Bool.and_eq_true, PyData.canLay0]
  exact ⟨lay_ints ns, decide_eq_true h2⟩
def spDeck (K : PySem.W.Frag) : Sp := fun vs H Q _ => ∃ (a : Addr) (ns : List Int), vs = [.ref a] ∧ SqL K H a (ns.map V.int) ∧ ns.length ≤ 63 ∧
  ∀ (p q : Addr) (ms : List Int) (m : Int) (H' : Hp), Same H H' → H p = none → H q = none → DeckAt H' p q ms m 0 → Q (.ref p) H'
def spDraw : Sp := fun vs H Q _ => ∃ (p q : Addr) (ns : List Int) (m c n : Int), vs = [.ref p, .int n] ∧ 0 < n ∧ n ≤ 1000000 ∧ DeckAt H p q ns m c ∧ c + 1 ≤ 1000000000 ∧
  ∀ (i : Int) (ns' : List Int) (H' : Hp), 0 ≤ i → i < n → Off p q H H' → DeckAt H' p q ns' m (c + 1) → Q (.int i) H'
section
variable {P : Program} {w : World} {K : PySem.W.Frag} {mg : Str → Option Value} {base : Heap}
theorem scDeck : FnScope ["_law_script", "_law_cells", "_law_mix", "_law_cell"] ["_law_script"] (defScope sDeck) := ⟨rfl, rfl, rfl, by decide +kernel, rfl, by decide +kernel, by decide +kernel⟩
theorem ok_deck {f : Addr} {fd : FuncData} (F : Fun K "_law_deck" "_law_deck" sDeck f fd) (T : Nm mg) (Tl : mg "list" = none) : FnOk P w K mg base CX0 1 f fd ["_law_script"] (spDeck K) := by
  refine F.ok scDeck (fun vs H Q E h => ?_) (fun cdv A outer s H vs Q E hr h => ?_)
  · obtain ⟨a, ns, rfl, _⟩ := h
    rfl
  · obtain ⟨a, ns, rfl, hS, hl, k⟩ := h
    refine ⟨_, pss_cons (ps_par (i := 1) (j := 2) rfl scDeck.nd rfl rfl (by decide) rfl rfl (pa_cons (pe_callTy call_list_of (by rfl) Tl (by decide +kernel) (pa_cons (pe_slice sl_list (pv 0) po_none (po_some pe_int)) pa_nil)) (pa_cons pe_int pa_nil)) (by rfl))
      (pss_cons (ps_for PassesOwn.never rfl (pi_list (pv 1)) (pg_name (i := 3) scDeck.nd rfl (Or.inl rfl))
        (pss_one (ps_set (i := 2) scDeck.nd rfl (Or.inl rfl) (pe_op op_mod (pe_op op_add (pe_op op_add (pe_op op_mul (pv 2) pe_int) (pe_op op_mod (pv 3) pe_int)) pe_int) pe_int))))
      (pss_one (ps_ret (pe_lst (pa_cons (pe_revL (pv 1)) (pa_cons (pv 2) (pa_cons pe_int pa_nil))))))), ?_⟩
    -- script[:63]; list(..)
    refine ⟨_, rfl, 63, rfl, a, _, rfl, hS, fun p1 np1 => ?_⟩
    have hcut : (cutV (ns.map V.int) none (some 63)).length ≤ 63 := by
      have z := cutV_length (ns.map V.int) none (some 63)
      rw [List.length_map] at z
      omega
    obtain ⟨cs, hcs, hcl⟩ : ∃ cs : List Int, cutV (ns.map V.int) none (some 63) = cs.map V.int ∧ cs.length ≤ 63 := by
      refine ⟨(ns.drop (HT.sIx ns.length 0 none)).take (HT.sIx ns.length ns.length (some 63) - HT.sIx ns.length 0 none), ?_, ?_⟩
      · unfold cutV
        rw [List.length_map, List.map_take, List.map_drop]
      · rw [List.length_take, List.length_drop]
        omega
    rw [hcs]
    refine ⟨p1, _, rfl, .inl (.inl (.inl upd_same)), fun q1 nq1 => ⟨_, _, rfl, ?_⟩⟩
    have s1 : Same H (upd (upd H p1 (.lst (cs.map V.int))) q1 (.lst (cs.map V.int))) := (same_new np1).trans (same_new nq1)
    -- the loop
    refine ⟨_, rfl, q1, rfl, ⟨_, .inl (.inl upd_same)⟩, for_list (K := K) (a := q1) (xs := cs.map V.int) (fun i σ H' => ∃ (m : Int) (v : Option V), σ = [some (.ref a), some (.ref q1), some (.int m), v] ∧ H' = upd (upd H p1 (.lst (cs.map V.int))) q1 (.lst (cs.map V.int)) ∧ 0 ≤ m ∧ m < 2147483629)
      ⟨60317, none, rfl, rfl, by decide, by decide⟩ (fun i σ H' _ ⟨_, _, _, e, _⟩ => by rw [e]; exact .inl (.inl upd_same)) ?_ ?_⟩
    · rintro i y σ H' hi ⟨m, v, rfl, rfl, h0, h1⟩
      obtain ⟨z, rfl⟩ : ∃ z, y = V.int z := by
        rw [List.getElem?_map] at hi
        cases e : cs[i]? with
        | none =>
          rw [e] at hi
          cases hi
        | some z =>
          rw [e] at hi
          exact ⟨z, (Option.some.inj hi).symm⟩
      refine ⟨_, rfl, _, _, rfl, rfl, .inl ⟨by omega, by omega⟩, ?_⟩
      refine ⟨_, rfl, _, _, rfl, rfl, (by decide : (0 : Int) < 2147483587), _, _, rfl, rfl, _, _, rfl, rfl, _, _, rfl, rfl, (by decide : (0 : Int) < 2147483629), ?_⟩
      exact ⟨_, _, rfl, rfl, Int.emod_nonneg _ (by decide), Int.emod_lt_of_pos _ (by decide)⟩
    · rintro σ H' ⟨m, v, rfl, rfl, h0, h1⟩
      refine ⟨_, rfl, q1, _, rfl, .inl (.inl upd_same), fun r1 nr1 => ⟨_, rfl, (by show 3 ≤ sizeLine; decide), fun d nd => ?_⟩⟩
      rw [← List.map_reverse] at nd ⊢
      refine k d r1 cs.reverse m _ ((s1.trans (same_new nr1)).trans (same_new nd)) ?_ ?_ ⟨upd_same, ?_, h0, h1, by decide, by decide, by rw [List.length_reverse]; exact hcl⟩
      · exact ((s1.trans (same_new nr1))).free nd
      · exact s1.free nr1
      · rw [upd_ne (ne_of_none upd_same nd), upd_same]
theorem scDraw : FnScope ["_law_deck_here", "_law_bound_here", "_law_cell", "_law_mixed"] ["_law_deck_here", "_law_bound_here"] (defScope sDraw) := ⟨rfl, rfl, rfl, by decide +kernel, rfl, by decide +kernel, by decide +kernel⟩
theorem ok_draw {f : Addr} {fd : FuncData} (F : Fun K "_law_draw" "_law_draw" sDraw f fd) : FnOk P w K mg base CX0 1 f fd ["_law_deck_here", "_law_bound_here"] spDraw := by
  refine F.ok scDraw (fun vs H Q E h => ?_) (fun cdv A outer s H vs Q E hr h => ?_)
  · obtain ⟨p, q, ns, m, c, n, rfl, _⟩ := h
    rfl
  · obtain ⟨p, q, ns, m, c, n, rfl, hn0, hn1, D, hc, k⟩ := h
    have hu := hr.units
    have hpq := D.ne
    refine ⟨_, pss_cons (ps_asg (pe_op op_add (pe_ix ix_list (pv 0) pe_int (fun _ _ => rfl)) pe_int) (pg_sub (pv 0) pe_int set_list (fun _ => rfl)))
      (pss_cons (ps_set (i := 2) scDraw.nd rfl (Or.inl rfl) (pe_ix ix_list (pv 0) pe_int (fun _ _ => rfl)))
      (C8.pss_cut (ps_if (pt_cmpR (op_neD hu) (pe_ix ix_list (pv 0) pe_int (fun _ _ => rfl)) (pe_lst pa_nil) (nomark _))
          (pss_cons (ps_set (i := 2) scDraw.nd rfl (Or.inl rfl) (pe_bm0 PySem.F.plainAttrs_list PySem.F.slot_list_pop PySem.F.type_list_pop mt_pop (pe_ix ix_list (pv 0) pe_int (fun _ _ => rfl))))
          (pss_cons (ps_if (pt_cmpR op_ge (pv 2) (pe_op op_pow pe_int pe_int) (nomark _))
              (pss_cons (ps_expr (pe_bm PySem.F.plainAttrs_list PySem.F.slot_list_append PySem.F.type_list_append mt_append (pe_ix ix_list (pv 0) pe_int (fun _ _ => rfl)) (pa_cons (pe_op op_fdivN (pv 2) (pv 1)) pa_nil)))
              (pss_one (ps_ret (pe_op op_mod (pv 2) (pv 1))))) pss_nil)
          (pss_one (ps_set (i := 2) scDraw.nd rfl (Or.inl rfl) (pe_op op_add (pv 2) (pe_ix ix_list (pv 0) pe_int (fun _ _ => rfl))))))) pss_nil)
      (pss_cons (ps_set (i := 3) scDraw.nd rfl (Or.inl rfl) (pe_op op_mod (pe_op op_mul (pe_op op_add (pe_op op_add (pe_op op_mod (pv 2) pe_int) (pe_op op_mul (pe_op op_mul pe_int (pe_ix ix_list (pv 0) pe_int (fun _ _ => rfl))) (pe_ix ix_list (pv 0) pe_int (fun _ _ => rfl)))) pe_int) pe_int) pe_int))
      (pss_cons (ps_set (i := 3) scDraw.nd rfl (Or.inl rfl) (pe_op op_mod (pe_op op_add (pe_op op_add (pe_op op_mul (pv 3) (pv 3)) (pe_op op_mul pe_int (pe_ix ix_list (pv 0) pe_int (fun _ _ => rfl)))) pe_int) pe_int))
      (pss_one (ps_ret (pe_op op_mod (pe_op op_fdiv (pe_op op_mod (pe_op op_mul (pv 3) pe_int) pe_int) pe_int) (pv 1)))))))), ?_⟩
    have c2 : ∀ {x y z : V}, atI [x, y, z] 2 = some z := fun {x y z} => atI_nat (xs := [x, y, z]) (j := 2) rfl
    have c1 : ∀ {x y z : V}, atI [x, y, z] 1 = some y := fun {x y z} => atI_nat (xs := [x, y, z]) (j := 1) rfl
    have c0 : ∀ {x y z : V}, atI [x, y, z] 0 = some x := fun {x y z} => atI_nat (xs := [x, y, z]) (j := 0) rfl
    -- deck[2] = deck[2] + 1
    refine ⟨_, rfl, p, _, _, _, rfl, rfl, SqL.of D.ob, c2, _, _, rfl, rfl, _, rfl, p, _, _, 2, rfl, rfl, D.ob, rfl, ?_⟩
    have eset : ([V.ref q, V.int m, V.int c].set 2 (V.int (c + 1))) = [V.ref q, V.int m, V.int (c + 1)] := rfl
    rw [eset]
    have D1 : DeckAt (upd H p (.lst [.ref q, .int m, .int (c + 1)])) p q ns m (c + 1) :=
      ⟨upd_same, by rw [upd_ne hpq.symm]; exact D.ce, D.m0, D.m1, by have := D.c0; omega, hc, D.ln⟩
    have off1 : Off p q H (upd H p (.lst [.ref q, .int m, .int (c + 1)])) := fun b o e h1 _ => by rw [upd_ne h1]; exact e
    -- cell = deck[1]
    refine ⟨_, rfl, p, _, _, _, rfl, rfl, SqL.of D1.ob, c1, ?_⟩
    -- if deck[0] != []: .. ; what follows holds for any cell
    refine ⟨fun σ H' => ∃ (z : Int) (ns' : List Int), σ = [some (.ref p), some (.int n), some (.int z), none] ∧ Off p q H H' ∧ DeckAt H' p q ns' m (c + 1), ?_, ?_⟩
    · refine ⟨_, rfl, p, _, _, _, rfl, rfl, SqL.of D1.ob, c0, (by show 0 ≤ sizeLine; decide), fun e ne => ?_⟩
      have D2 : DeckAt (upd (upd H p (.lst [.ref q, .int m, .int (c + 1)])) e (.lst [])) p q ns m (c + 1) := D1.same (same_new ne)
      have off2 : Off p q H (upd (upd H p (.lst [.ref q, .int m, .int (c + 1)])) e (.lst [])) := off1.trans (.of_same (same_new ne))
      refine ⟨.list (ns.map .int), .list [], .lst (SqL.of D2.ce) (dp_ints ns), .lst (SqL.of upd_same) .nil, shaped_ints ns, shaped_ints [], _, rfl, ?_⟩
      generalize hH2 : upd (upd H p (.lst [.ref q, .int m, .int (c + 1)])) e (.lst []) = H2 at D2 off2 ⊢
      cases hns : ns with
      | nil =>
        have e0 : PyData.eqv (.list (([] : List Int).map PyData.int)) (.list []) = true := by simp [PyData.eqv, PyData.eqvAll]
        rw [e0]
        refine iteF ?_
        exact ⟨m, [], rfl, off2, by rw [hns] at D2; exact D2⟩
      | cons a l =>
        have e0 : PyData.eqv (.list ((a :: l).map PyData.int)) (.list []) = false := by simp [PyData.eqv, PyData.eqvAll]
        rw [e0]
        refine iteT ?_
        rw [hns] at D2
        -- cell = deck[0].pop()
        obtain ⟨l', z, hz⟩ : ∃ (l' : List Int) (z : Int), a :: l = l' ++ [z] := ⟨(a :: l).dropLast, (a :: l).getLast (by simp), (List.dropLast_concat_getLast (by simp)).symm⟩
        rw [hz] at D2
        have hln : l'.length + 1 ≤ 63 := by
          have z1 := D2.ln
          rw [List.length_append] at z1
          exact z1
        have elast : ((l' ++ [z]).map V.int)[((l' ++ [z]).map V.int).length - 1]? = some (.int z) := by simp
        have edrop : ((l' ++ [z]).map V.int).dropLast = l'.map V.int := by simp
        refine ⟨_, rfl, p, _, _, _, rfl, rfl, SqL.of D2.ob, c0, .inl ⟨rfl, _, SqL.of D2.ce⟩, q, _, _, rfl, rfl, D2.ce, elast, ?_⟩
        rw [edrop]
        have D3 : DeckAt (upd H2 q (.lst (l'.map V.int))) p q l' m (c + 1) := ⟨by rw [upd_ne hpq]; exact D2.ob, upd_same, D2.m0, D2.m1, D2.c0, D2.c1, by omega⟩
        have off3 : Off p q H (upd H2 q (.lst (l'.map V.int))) := off2.trans fun b o e _ h2 => by rw [upd_ne h2]; exact e
        generalize upd H2 q (.lst (l'.map V.int)) = H3 at D3 off3 ⊢
        -- if cell >= 10 ** 18
        refine ⟨_, rfl, _, _, rfl, rfl, ⟨by decide, by decide, by decide⟩, _, _, rfl, rfl, _, rfl, ?_⟩
        refine ite2 (fun _ => ?_) (fun _ => ?_)
        · refine ⟨_, rfl, p, _, _, _, rfl, rfl, SqL.of D3.ob, c0, .inl ⟨rfl, _, SqL.of D3.ce⟩, _, rfl, _, rfl, _, _, rfl, rfl, ⟨by omega, by omega⟩, q, _, _, rfl, rfl, D3.ce, (by rw [List.length_map, sizeLine_eq]; omega), ?_⟩
          have eapp : l'.map V.int ++ [V.int (z.fdiv n)] = (l' ++ [z.fdiv n]).map V.int := by simp
          rw [eapp]
          have D4 : DeckAt (upd H3 q (.lst ((l' ++ [z.fdiv n]).map V.int))) p q (l' ++ [z.fdiv n]) m (c + 1) :=
            ⟨by rw [upd_ne hpq]; exact D3.ob, upd_same, D3.m0, D3.m1, D3.c0, D3.c1, by rw [List.length_append]; exact hln⟩
          refine ⟨_, rfl, _, rfl, _, _, rfl, rfl, hn0, ?_⟩
          exact k _ _ _ (Int.emod_nonneg _ (by omega)) (Int.emod_lt_of_pos _ hn0) (off3.trans fun b o e _ h2 => by rw [upd_ne h2]; exact e) D4
        · refine ⟨_, rfl, _, rfl, p, _, _, _, rfl, rfl, SqL.of D3.ob, c1, _, _, rfl, rfl, ?_⟩
          exact ⟨_, l', rfl, off3, D3⟩
    · rintro σ' H' ⟨z, ns', rfl, off', D'⟩
      have ix2 := fun (g : Hp → Prop) => g
      refine ⟨_, rfl, _, _, rfl, rfl, (by decide : (0 : Int) < 2147483563), _, rfl, p, _, _, _, rfl, rfl, SqL.of D'.ob, c2, _, _, rfl, rfl, .inl ⟨by decide, by decide⟩, _, rfl, p, _, _, _, rfl, rfl, SqL.of D'.ob, c2, _, _, rfl, rfl, .inl ⟨by have := D'.c0; omega, by have := D'.c1; omega⟩,
        _, _, rfl, rfl, _, _, rfl, rfl, _, _, rfl, rfl, .inr ⟨by decide, by decide⟩, _, _, rfl, rfl, (by decide : (0 : Int) < 2147483647), ?_⟩
      generalize hx : (z % 2147483563 + 73727 * (c + 1) * (c + 1) + 19) * 48271 % 2147483647 = x
      have x0 : 0 ≤ x := by rw [← hx]; exact Int.emod_nonneg _ (by decide)
      have x1 : x < 2147483647 := by rw [← hx]; exact Int.emod_lt_of_pos _ (by decide)
      refine ⟨_, rfl, _, rfl, _, _, rfl, rfl, .inl ⟨by omega, by omega⟩, _, rfl, p, _, _, _, rfl, rfl, SqL.of D'.ob, c2, _, _, rfl, rfl, .inl ⟨by decide, by decide⟩, _, _, rfl, rfl, _, _, rfl, rfl, _, _, rfl, rfl, (by decide : (0 : Int) < 2147483629), ?_⟩
      refine ⟨_, rfl, _, _, rfl, rfl, .inr ⟨by decide, by decide⟩, _, _, rfl, rfl, (by decide : (0 : Int) < 2147483587), _, _, rfl, rfl, ⟨by decide, by decide⟩, _, rfl, _, _, rfl, rfl, hn0, ?_⟩
      exact k _ ns' H' (Int.emod_nonneg _ (by omega)) (Int.emod_lt_of_pos _ hn0) off' D'
theorem scPick : FnScope ["_law_deck_here", "_law_items"] ["_law_deck_here", "_law_items"] (defScope sPick) := ⟨rfl, rfl, rfl, by decide +kernel, rfl, by decide +kernel, by decide +kernel⟩
/-- one of the items, at some place -/
def spPick : Sp := fun vs H Q _ => ∃ (p q t : Addr) (ns : List Int) (m c : Int) (xs : List V), vs = [.ref p, .ref t] ∧ H t = some (.lst xs) ∧ t ≠ p ∧ t ≠ q ∧ 0 < xs.length ∧ xs.length ≤ 1000 ∧ DeckAt H p q ns m c ∧ c + 1 ≤ 1000000000 ∧
  ∀ (j : Nat) (x : V) (ns' : List Int) (H' : Hp), xs[j]? = some x → Off p q H H' → DeckAt H' p q ns' m (c + 1) → Q x H'
theorem ok_pick {f fD : Addr} {fd fdD : FuncData} (F : Fun K "_law_pick" "_law_pick" sPick f fd) (T : Nm mg) (FD : Fun K "_law_draw" "_law_draw" sDraw fD fdD) (bD : Binds K fdD ["_law_deck_here", "_law_bound_here"] []) (gD : mg "_law_draw" = some (.ref fD)) :
    FnOk P w K mg base CX0 2 f fd ["_law_deck_here", "_law_items"] spPick := by
  have GD : FnOk P w K mg base CX0 1 fD fdD ["_law_deck_here", "_law_bound_here"] spDraw := ok_draw FD
  refine F.ok scPick (fun vs H Q E h => ?_) (fun cdv A outer s H vs Q E hr h => ?_)
  · obtain ⟨p, q, t, ns, m, c, xs, rfl, _⟩ := h
    rfl
  · obtain ⟨p, q, t, ns, m, c, xs, rfl, ht, tp, tq, hx0, hx1, D, hc, k⟩ := h
    refine ⟨_, pss_one (ps_ret (pe_ix ix_list (pv 1) (pe_call GD hr rfl gD FD.kp bD .nil pass0 (pa_cons (pv 0) (pa_cons (pe_callB call_len_seq (by rfl) T.len PySem.boot_len (pa_cons (pv 1) pa_nil)) pa_nil))) (fun _ _ => rfl))), ?_⟩
    refine ⟨_, rfl, _, rfl, _, rfl, t, _, rfl, .inl (SqL.of ht), p, q, ns, m, c, (xs.length : Int), rfl, by omega, by omega, D, hc, fun i ns' H' h0 h1 off D' => ?_⟩
    obtain ⟨j, rfl⟩ : ∃ j : Nat, i = (j : Int) := ⟨i.toNat, by omega⟩
    have hj : j < xs.length := by omega
    exact ⟨t, xs, _, xs[j], rfl, rfl, SqL.of (off _ _ ht tp tq), atI_nat (List.getElem?_eq_getElem hj), k j _ ns' H' (List.getElem?_eq_getElem hj) off D'⟩
end
end K3
set_option maxRecDepth 100000
set_option maxHeartbeats 4000000
namespace L2
open PySem PySem.Spec PyProof.Rows
section
variable {X : Cx}
/-- a list beside an empty list, a tuple beside an empty tuple -/
def rEmpty (neg : Bool) : R2 := fun x y H Q => ∃ (a b : Addr) (xs : List V), x = .ref a ∧ y = .ref b ∧ ((H a = some (.lst xs) ∧ H b = some (.lst [])) ∨ (H a = some (.tup xs) ∧ H b = some (.tup []))) ∧ Q (.bl (if neg then !xs.isEmpty else xs.isEmpty)) H
theorem nil_of {us : List Value} (r : Vals ([] : List V) us) : us = [] := by
  cases r
  rfl
theorem op_empty (hu : X.A.units < cLine) : OpR X (compareOp .Eq) (rEmpty false) := by
  intro pins s σ H x y v u Q I rx ry h
  obtain ⟨a, b, xs, rfl, rfl, h, q⟩ := h
  cases rx
  cases ry
  rcases h with ⟨ha, hb⟩ | ⟨ha, hb⟩
  · obtain ⟨its, rv, p, _⟩ := I.list (SqL.of ha)
    obtain ⟨its2, rv2, p2, _⟩ := I.list (SqL.of hb)
    obtain rfl := nil_of rv2
    cases xs with
    | nil =>
      obtain rfl := nil_of rv
      exact SeqAt.eq_listAt (e := fun _ => true) p.isList p2.isList rfl hu (fun j h1 h2 => absurd h1 (Nat.not_lt_zero _)) ⟨.bl true, H, I, rfl, q⟩
    | cons x0 l =>
      cases rv with
      | cons r0 rs => exact SeqAt.eq_list_lengthsAt p.isList p2.isList (by simp) hu ⟨.bl false, H, I, rfl, q⟩
  · obtain ⟨its, rv, p, _⟩ := I.tuple (SqT.of ha)
    obtain ⟨its2, rv2, p2, _⟩ := I.tuple (SqT.of hb)
    obtain rfl := nil_of rv2
    cases xs with
    | nil =>
      obtain rfl := nil_of rv
      exact SeqAt.eq_tupleAt (e := fun _ => true) p p2 hu (fun j h1 h2 => absurd h1 (Nat.not_lt_zero _)) ⟨.bl true, H, I, rfl, q⟩
    | cons x0 l =>
      cases rv with
      | cons r0 rs => exact SeqAt.eq_tupleAt (e := fun _ => true) p p2 hu (fun j h1 h2 => absurd h2 (Nat.not_lt_zero _)) ⟨.bl false, H, I, by simp [RelV], q⟩
theorem op_nempty (hu : X.A.units < cLine) : OpR X (compareOp .NotEq) (rEmpty true) := by
  intro pins s σ H x y v u Q I rx ry h
  obtain ⟨a, b, xs, rfl, rfl, h, q⟩ := h
  cases rx
  cases ry
  rcases h with ⟨ha, hb⟩ | ⟨ha, hb⟩
  · obtain ⟨its, rv, p, _⟩ := I.list (SqL.of ha)
    obtain ⟨its2, rv2, p2, _⟩ := I.list (SqL.of hb)
    obtain rfl := nil_of rv2
    cases xs with
    | nil =>
      obtain rfl := nil_of rv
      exact SeqAt.RcNeAt.lists (e := fun _ => true) p.isList p2.isList rfl hu (fun j h1 h2 => absurd h1 (Nat.not_lt_zero _)) _ _ _ _ ⟨.bl false, H, I, rfl, q⟩
    | cons x0 l =>
      cases rv with
      | cons r0 rs => exact SeqAt.RcNeAt.lists_lengths p.isList p2.isList (by simp) hu _ _ _ _ ⟨.bl true, H, I, rfl, q⟩
  · obtain ⟨its, rv, p, _⟩ := I.tuple (SqT.of ha)
    obtain ⟨its2, rv2, p2, _⟩ := I.tuple (SqT.of hb)
    obtain rfl := nil_of rv2
    cases xs with
    | nil =>
      obtain rfl := nil_of rv
      exact SeqAt.RcNeAt.tuples (e := fun _ => true) p p2 hu (fun j h1 h2 => absurd h1 (Nat.not_lt_zero _)) _ _ _ _ ⟨.bl false, H, I, rfl, q⟩
    | cons x0 l =>
      cases rv with
      | cons r0 rs => exact SeqAt.RcNeAt.tuples (e := fun _ => true) p p2 hu (fun j h1 h2 => absurd h2 (Nat.not_lt_zero _)) _ _ _ _ ⟨.bl true, H, I, by simp [RelV], q⟩
end
end L2
namespace K3
open PySem PySem.Spec PyProof.Rows L2
/-! ### the deck stands apart -/
def hide (p q : Addr) (H : Hp) : Hp := fun b => if b = p ∨ b = q then none else H b
/-- a deck at p with its cells at q, at most b choices made -/
def Dk (H : Hp) (p q : Addr) (b : Nat) : Prop := ∃ ns m c, DeckAt H p q ns m c ∧ c ≤ (b : Int)
section
variable {H H' : Hp} {p q t : Addr} {b : Nat}
theorem hide_sub (p q : Addr) (H : Hp) : Same (hide p q H) H := fun c o e => by
  unfold hide at e
  split at e
  · cases e
  · exact e
theorem hide_at {c : Addr} {o : HO} (h : H c = some o) (hp : c ≠ p) (hq : c ≠ q) : hide p q H c = some o := by
  unfold hide
  rw [if_neg (fun z => z.elim hp hq)]
  exact h
theorem hide_same (S : Same H H') : Same (hide p q H) (hide p q H') := fun c o e => by
  unfold hide at e ⊢
  split at e
  · cases e
  · rename_i h
    rw [if_neg h]
    exact S _ _ e
theorem hide_off (O : Off p q H H') : Same (hide p q H) (hide p q H') := fun c o e => by
  unfold hide at e ⊢
  split at e
  · cases e
  · rename_i h
    rw [if_neg h]
    exact O _ _ e (fun z => h (.inl z)) (fun z => h (.inr z))
theorem Dk.same (D : Dk H p q b) (S : Same H H') : Dk H' p q b := by
  obtain ⟨ns, m, c, D, h⟩ := D
  exact ⟨ns, m, c, D.same S, h⟩
theorem Dk.mono {b' : Nat} (D : Dk H p q b) (h : b ≤ b') : Dk H p q b' := by
  obtain ⟨ns, m, c, D, hc⟩ := D
  exact ⟨ns, m, c, D, by omega⟩
theorem Dk.new (D : Dk H p q b) (n : H t = none) : t ≠ p ∧ t ≠ q := by
  obtain ⟨ns, m, c, D, hc⟩ := D
  refine ⟨fun e => ?_, fun e => ?_⟩
  · rw [e, D.ob] at n
    cases n
  · rw [e, D.ce] at n
    cases n
theorem hide_new {o : HO} (D : Dk H p q b) (n : H t = none) : hide p q (upd H t o) t = some o := hide_at upd_same (D.new n).1 (D.new n).2
theorem hide_none (h : hide p q H t = none) (hp : t ≠ p) (hq : t ≠ q) : H t = none := by
  unfold hide at h
  rw [if_neg (fun z => z.elim hp hq)] at h
  exact h
/-- a choice of n -/
theorem draw_of {n : Int} {Q : VK} {E : XK} (D : Dk H p q b) (h0 : 0 < n) (h1 : n ≤ 1000000) (hb : b < 100000000) (k : ∀ (i : Nat) (H' : Hp), (i : Int) < n → Off p q H H' → Dk H' p q (b + 1) → Q (.int (i : Nat)) H') : spDraw [.ref p, .int n] H Q E := by
  obtain ⟨ns, m, c, D, hc⟩ := D
  refine ⟨p, q, ns, m, c, n, rfl, h0, h1, D, by omega, fun i ns' H' i0 i1 off D' => ?_⟩
  obtain ⟨j, rfl⟩ : ∃ j : Nat, i = j := ⟨i.toNat, by omega⟩
  exact k j H' i1 off ⟨ns', m, c + 1, D', by omega⟩
/-- one of the items of a list -/
theorem pick_of {xs : List V} {Q : VK} {E : XK} (D : Dk H p q b) (ht : H t = some (.lst xs)) (tp : t ≠ p) (tq : t ≠ q) (h0 : 0 < xs.length) (h1 : xs.length ≤ 1000) (hb : b < 100000000) (k : ∀ (j : Nat) (x : V) (H' : Hp), xs[j]? = some x → Off p q H H' → Dk H' p q (b + 1) → Q x H') : spPick [.ref p, .ref t] H Q E := by
  obtain ⟨ns, m, c, D, hc⟩ := D
  exact ⟨p, q, t, ns, m, c, xs, rfl, ht, tp, tq, h0, h1, D, by omega, fun j x ns' H' hx off D' => k j x H' hx off ⟨ns', m, c + 1, D', by omega⟩⟩
end
end K3
set_option maxRecDepth 100000
set_option maxHeartbeats 4000000
namespace K3
open PySem PySem.Spec PyProof.Rows L2
/-! ### the law's own small checks -/
abbrev s_is_int : Stmt := top 81
abbrev s_is_name : Stmt := top 82
abbrev s_rises : Stmt := top 83
abbrev s_choose : Stmt := top 84
def letters : Str := "abcdefghijklmnopqrstuvwxyz"
theorem az_in (c : Nat) : azB c = decide (c ∈ letters.cps.toList) := by
  by_cases h : c < 128
  · have z : ∀ c : Fin 128, azB c.val = decide (c.val ∈ letters.cps.toList) := by decide +kernel
    exact z ⟨c, h⟩
  · have e1 : azB c = false := by
      unfold azB
      have z : ("z" : Str).cps.toList < [c] := by
        show [122] < [c]
        exact List.Lex.rel (by omega)
      rw [decide_eq_true z, Bool.not_true, Bool.and_false]
    have e2 : ¬ c ∈ letters.cps.toList := fun m => by
      have z : ∀ x ∈ letters.cps.toList, x < 128 := by decide +kernel
      exact h (z c m)
    rw [e1, decide_eq_false e2]
theorem eqv_nil : ∀ js : List PyData, PyData.eqv (.list js) (.list []) = js.isEmpty
  | [] => by simp [PyData.eqv, PyData.eqvAll]
  | a :: l => by simp [PyData.eqv, PyData.eqvAll]
section
variable {P : Program} {w : World} {K : PySem.W.Frag} {mg : Str → Option Value} {base : Heap}
theorem sc_is_int : FnScope ["_law_thing", "_law_low", "_law_high"] ["_law_thing", "_law_low", "_law_high"] (defScope s_is_int) := ⟨rfl, rfl, rfl, by decide +kernel, rfl, by decide +kernel, by decide +kernel⟩
theorem sc_is_name : FnScope ["_law_thing", "_law_letters", "_law_sign"] ["_law_thing"] (defScope s_is_name) := ⟨rfl, rfl, rfl, by decide +kernel, rfl, by decide +kernel, by decide +kernel⟩
theorem sc_rises : FnScope ["_law_items", "_law_k"] ["_law_items"] (defScope s_rises) := ⟨rfl, rfl, rfl, by decide +kernel, rfl, by decide +kernel, by decide +kernel⟩
theorem okl_int {f : Addr} {fd : FuncData} (F : Fun K "_law_is_int" "_law_is_int" s_is_int f fd) (T : Nm mg) : FnOk P w K mg base CX0 1 f fd ["_law_thing", "_law_low", "_law_high"] spBtw := by
  refine F.ok sc_is_int (fun vs H Q E h => ?_) (fun cdv A outer s H vs Q E hr h => ?_)
  · obtain ⟨v, d, lo, hi, rfl, _⟩ := h
    rfl
  · obtain ⟨v, d, lo, hi, rfl, hd, q⟩ := h
    refine ⟨_, pss_one (ps_ret (pe_and (pe_callB call_isi (by rfl) T.isinstance boot_isinstance (pa_cons (pv 0) (pa_cons (pe_bltn (v := .ty "int") rfl T.int (by decide +kernel) rfl) pa_nil))) (pe_and (pe_not (pe_callB call_isi (by rfl) T.isinstance boot_isinstance (pa_cons (pv 0) (pa_cons (pe_bltn (v := .ty "bool") rfl T.bool (by decide +kernel) rfl) pa_nil)))) (pe_one (pe_chain op_le op_le (pv 1) (pv 0) (pv 2)))))), ?_⟩
    have q0 := q H fun _ _ e => e
    refine ⟨_, rfl, v, .ty "int", _, _, _, rfl, .ty _, hd.ty, kit_int _ d, _, rfl, ?_⟩
    cases d with
    | int i =>
      cases hd
      refine ⟨_, rfl, V.int i, .ty "bool", _, _, _, rfl, .ty _, (Dat.int i : Dat H _ _).ty, kit_bool _ _, _, rfl, _, rfl, _, rfl, _, rfl, _, _, rfl, rfl, _, rfl, ?_⟩
      by_cases h : lo ≤ i
      · have e : btw lo hi (.int i) = decide (i ≤ hi) := by
          show (decide (lo ≤ i) && decide (i ≤ hi)) = _
          rw [decide_eq_true h, Bool.true_and]
        rw [e] at q0
        rw [if_pos (decide_eq_true h)]
        exact ⟨_, rfl, _, _, rfl, rfl, q0⟩
      · have e : btw lo hi (.int i) = false := by
          show (decide (lo ≤ i) && decide (i ≤ hi)) = _
          rw [decide_eq_false h, Bool.false_and]
        rw [e] at q0
        rw [if_neg (by rw [decide_eq_false h]; exact Bool.false_ne_true)]
        exact q0
    | bool b => exact ⟨_, rfl, v, .ty "bool", _, _, _, rfl, .ty _, hd.ty, kit_bool _ _, _, rfl, _, rfl, q0⟩
    | none => exact q0
    | str x => exact q0
    | list ds => exact q0
    | tuple ds => exact q0
    | dict kv => exact q0
theorem okl_name {f : Addr} {fd : FuncData} (F : Fun K "_law_is_name" "_law_is_name" s_is_name f fd) (T : Nm mg) : FnOk P w K mg base CX0 1 f fd ["_law_thing"] (spP nameB) := by
  refine F.ok sc_is_name (fun vs H Q E h => ?_) (fun cdv A outer s H vs Q E hr h => ?_)
  · obtain ⟨v, d, rfl, _⟩ := h
    rfl
  · obtain ⟨v, d, rfl, hd, q⟩ := h
    have hu0 := hr.units0
    refine ⟨_, pss_cons (ps_set (i := 1) sc_is_name.nd rfl (Or.inr rfl) pe_str)
      (pss_one (ps_ret (pe_and (pe_callB call_isi (by rfl) T.isinstance boot_isinstance (pa_cons (pv 0) (pa_cons (pe_bltn (v := .ty "str") rfl T.str (by decide +kernel) rfl) pa_nil))) (pe_and (pe_chain op_le op_le pe_int (pe_callB call_len_str (by rfl) T.len PySem.boot_len (pa_cons (pv 0) pa_nil)) pe_int) (pe_one (pe_cmpR (op_empty hu0) (pe_lc (own := [("_law_sign", 2)]) (g := (gName 2)) rfl sc_is_name.nd (pi_str (pv 0)) (blkOk_by (N := ["_law_thing", "_law_letters", "_law_sign"]) (sc := defScope s_is_name) (by decide +kernel))
          (fun _ _ _ _ _ => (pg_name (i := 2) sc_is_name.nd rfl (Or.inl rfl))) (fun _ _ _ _ _ => pts_one (pt_cmpR op_notIn_sign (pv 2) (pv 1) rfl)) (fun _ _ _ _ _ => (pv 2))) (pe_lst pa_nil) (nomark _))))))), ?_⟩
    have q0 := q H fun _ _ e => e
    refine ⟨_, rfl, v, .ty "str", _, _, _, rfl, .ty _, hd.ty, kit_str _ d, _, rfl, ?_⟩
    cases d with
    | str x =>
      cases hd with
      | str _ hx =>
        refine ⟨_, rfl, x, rfl, Nat.le_trans hx (by decide), _, _, rfl, rfl, _, rfl, ?_⟩
        by_cases h1 : (1 : Int) ≤ (x.length : Int)
        · rw [if_pos (decide_eq_true h1)]
          refine ⟨_, _, rfl, rfl, _, rfl, ?_⟩
          by_cases h6 : (x.length : Int) ≤ 6
          · refine if_t (decide_eq_true h6) ?_
            refine ⟨_, rfl, x, rfl, fun D nD => lc_it (walk_str (z := x)) (fun j Hx => Same H Hx ∧ ∃ cs : List Nat, Hx D = some (.lst (cs.map fun c => V.str ⟨#[c]⟩)) ∧ cs.length ≤ j ∧ cs.isEmpty = (x.cps.toList.take j).all azB) ⟨same_new nD, [], upd_same, Nat.le_refl _, rfl⟩ (fun _ _ _ _ => trivial) ?_ ?_⟩
            · rintro j y Hx Hy hj ⟨S, cs, hD, hl, he⟩ ⟨rfl, c, hc, rfl⟩
              have hcl : x.cps.toList[j]? = some c := by simpa using hc
              have et : (x.cps.toList.take (j + 1)).all azB = ((x.cps.toList.take j).all azB && azB c) := by
                rw [List.take_add_one, hcl, List.all_append]
                simp
              refine ⟨rfl, _, rfl, _, rfl, c, letters, rfl, rfl, _, rfl, ?_⟩
              rw [az_in c] at et
              cases hm : decide (c ∈ letters.cps.toList) with
              | true =>
                rw [hm, Bool.and_true, ← he] at et
                exact if_f rfl ⟨S, cs, hD, by omega, et.symm⟩
              | false =>
                rw [hm, Bool.and_false] at et
                refine if_t rfl ⟨_, rfl, _, hD, ?_, grow nD S, cs ++ [c], ?_, ?_, ?_⟩
                · rw [List.length_map, sizeLine_eq]
                  have : j < x.cps.size := hj
                  have : x.cps.size = x.length := rfl
                  omega
                · rw [upd_same, List.map_append]
                  rfl
                · rw [List.length_append]
                  show cs.length + 1 ≤ j + 1
                  omega
                · rw [et]
                  cases cs <;> rfl
            · rintro Hx ⟨S, cs, hD, hl, he⟩
              refine ⟨(by show 0 ≤ sizeLine; decide), fun e ne => ⟨D, e, cs.map fun c => V.str ⟨#[c]⟩, rfl, rfl, .inl ⟨same_new ne _ _ hD, upd_same⟩, ?_⟩⟩
              have q1 := q _ (S.trans (same_new (o := HO.lst []) ne))
              have el : x.cps.toList.take x.cps.size = x.cps.toList := List.take_of_length_le (by simp)
              rw [el] at he
              have e1 : nameB (.str x) = x.cps.toList.all azB := by
                show (decide (1 ≤ (x.length : Int)) && decide ((x.length : Int) ≤ 6) && x.cps.toList.all azB) = _
                rw [decide_eq_true h1, decide_eq_true h6]
                rfl
              rw [e1, ← he] at q1
              have e2 : (cs.map fun c => V.str ⟨#[c]⟩).isEmpty = cs.isEmpty := by cases cs <;> rfl
              show Q (.bl (cs.map fun c => V.str ⟨#[c]⟩).isEmpty) _
              rw [e2]
              exact q1
          · refine if_f (decide_eq_false h6) ?_
            have e : nameB (.str x) = false := by
              show (decide (1 ≤ (x.length : Int)) && decide ((x.length : Int) ≤ 6) && x.cps.toList.all azB) = _
              rw [decide_eq_true h1, decide_eq_false h6]
              rfl
            rw [e] at q0
            exact q0
        · rw [if_neg (by rw [decide_eq_false h1]; exact Bool.false_ne_true)]
          refine ⟨_, rfl, if_f rfl ?_⟩
          have e : nameB (.str x) = false := by
            show (decide (1 ≤ (x.length : Int)) && decide ((x.length : Int) ≤ 6) && x.cps.toList.all azB) = _
            rw [decide_eq_false h1]
            rfl
          rw [e] at q0
          exact q0
    | int i => exact q0
    | bool b => exact q0
    | none => exact q0
    | tuple ds => exact q0
    | list ds => exact q0
    | dict kv => exact q0
/-- whether a tuple ascends -/
def spRises : Sp := fun vs H Q _ => ∃ (a : Addr) (xs : List V) (ds : List PyData), vs = [.ref a] ∧ H a = some (.tup xs) ∧ DatAll H xs ds ∧ AscOk ds ∧ ds.length ≤ 1000000 ∧ ∀ H', Same H H' → Q (.bl (ascB ds)) H'
theorem okl_rises {f : Addr} {fd : FuncData} (F : Fun K "_law_rises" "_law_rises" s_rises f fd) (T : Nm mg) : FnOk P w K mg base CX0 1 f fd ["_law_items"] spRises := by
  refine F.ok sc_rises (fun vs H Q E h => ?_) (fun cdv A outer s H vs Q E hr h => ?_)
  · obtain ⟨a, xs, ds, rfl, _⟩ := h
    rfl
  · obtain ⟨a, xs, ds, rfl, ha, hx, ok, hz, q⟩ := h
    have hu0 := hr.units0
    have hu := hr.units
    have hl := hx.len
    refine ⟨_, pss_one (ps_ret (pe_cmpR (op_empty hu0) (pe_lc (own := [("_law_k", 1)]) (g := (gName 1)) (tt := tNot (tTest (tOp rLtDat (tOp (rIxT K) (tVar 0) (tVar 1)) (tOp (rIxT K) (tVar 0) (tOp (rI0 fun i j => .int (i + j)) (tVar 1) (tC (.int 1))))))) rfl sc_rises.nd (pi_range1 rfl T.range (pa_cons (pe_op op_sub (pe_callB call_len_seq (by rfl) T.len PySem.boot_len (pa_cons (pv 0) pa_nil)) pe_int) pa_nil)) (blkOk_by (N := ["_law_items", "_law_k"]) (sc := defScope s_rises) (by decide +kernel))
          (fun _ _ _ _ _ => (pg_name (i := 1) sc_rises.nd rfl (Or.inl rfl))) (fun _ _ _ _ _ => pts_one (pt_not (pt_cmpR (op_ltDat hu) (pe_ix ix_tup (pv 0) (pv 1) (fun _ _ => rfl)) (pe_ix ix_tup (pv 0) (pe_op op_add (pv 1) pe_int) (fun _ _ => rfl)) (nomark _)))) (fun _ _ _ _ _ => (pv 1))) (pe_lst pa_nil) (nomark _))), ?_⟩
    have atr : ∀ (j : Nat) (x : V) (z : Int), z = (j : Int) → xs[j]? = some x → atI xs z = some x := fun j x z e h => by
      rw [e]
      exact atI_nat h
    refine ⟨_, rfl, a, xs, rfl, .inr (SqT.of ha), _, _, rfl, rfl, (xs.length : Int) - 1, rfl, by omega, by omega, fun D nD => lc_it (walk_range (lo := 0) (n := ((xs.length : Int) - 1).toNat)) (fun j Hx => Same H Hx ∧ ∃ js : List Int, Hx D = some (.lst (js.map V.int)) ∧ js.length ≤ j ∧ js.isEmpty = (List.range j).all fun i => PySem.W.dataLt (ds.getD i .none) (ds.getD (i + 1) .none)) ⟨same_new nD, [], upd_same, Nat.le_refl _, rfl⟩ (fun _ _ _ _ => trivial) ?_ ?_⟩
    · rintro j y Hx Hy hj ⟨S, js, hD, hlj, he⟩ ⟨rfl, rfl⟩
      have hj1 : j + 1 < ds.length := by omega
      obtain ⟨d, hdj⟩ : ∃ d, ds[j]? = some d := ⟨ds[j], List.getElem?_eq_getElem (by omega)⟩
      obtain ⟨e, hej⟩ : ∃ e, ds[j + 1]? = some e := ⟨ds[j + 1], List.getElem?_eq_getElem hj1⟩
      obtain ⟨x, hxj, tx⟩ := hx.at hdj
      obtain ⟨y, hyj, ty⟩ := hx.at hej
      have g1 : ds.getD j .none = d := by rw [List.getD_eq_getElem?_getD, hdj]; rfl
      have g2 : ds.getD (j + 1) .none = e := by rw [List.getD_eq_getElem?_getD, hej]; rfl
      obtain ⟨o1, o2, o3⟩ := ok j hj1
      rw [g1, g2] at o1
      rw [g1] at o2 o3
      refine ⟨rfl, _, rfl, _, rfl, a, _, _, x, rfl, rfl, SqT.of (S _ _ ha), atr j x _ (by omega) hxj, _, rfl, _, rfl, _, _, rfl, rfl, a, _, _, y, rfl, rfl, SqT.of (S _ _ ha), atr (j + 1) y _ (by omega) hyj, d, e, tx.same S, ty.same S, o1, o2, o3, _, rfl, ?_⟩
      have et : ((List.range (j + 1)).all fun i => PySem.W.dataLt (ds.getD i .none) (ds.getD (i + 1) .none)) = (((List.range j).all fun i => PySem.W.dataLt (ds.getD i .none) (ds.getD (i + 1) .none)) && PySem.W.dataLt d e) := by
        rw [List.range_succ, List.all_append, ← g1, ← g2]
        simp
      cases hlt : PySem.W.dataLt d e with
      | true =>
        rw [hlt, Bool.and_true, ← he] at et
        exact if_f rfl ⟨S, js, hD, by omega, et.symm⟩
      | false =>
        rw [hlt, Bool.and_false] at et
        refine if_t rfl ⟨_, rfl, _, hD, ?_, grow nD S, js ++ [0 + (j : Int)], ?_, ?_, ?_⟩
        · rw [List.length_map, sizeLine_eq]
          omega
        · rw [upd_same, List.map_append]
          rfl
        · rw [List.length_append]
          show js.length + 1 ≤ j + 1
          omega
        · rw [et]
          cases js <;> rfl
    · rintro Hx ⟨S, js, hD, hlj, he⟩
      refine ⟨(by show 0 ≤ sizeLine; decide), fun e ne => ⟨D, e, js.map V.int, rfl, rfl, .inl ⟨same_new ne _ _ hD, upd_same⟩, ?_⟩⟩
      have q1 := q _ (S.trans (same_new (o := HO.lst []) ne))
      have e1 : ascB ds = js.isEmpty := by
        unfold ascB
        rw [he]
        congr 2
        omega
      rw [e1] at q1
      have e2 : (js.map V.int).isEmpty = js.isEmpty := by cases js <;> rfl
      show Q (.bl (js.map V.int).isEmpty) _
      rw [e2]
      exact q1
end
end K3
set_option maxRecDepth 100000
set_option maxHeartbeats 4000000
namespace K3
open PySem PySem.Spec PyProof.Rows L2
/-! ### choose; the counts of a word, one by one -/
abbrev s_word_size : Stmt := top 85
def spChoose : Sp := fun vs H Q _ => ∃ n k : Nat, vs = [.int n, .int k] ∧ k ≤ n ∧ n ≤ 890 ∧ ∀ H' : Hp, Same H H' → chN n k ≤ n ^ k → Q (.int (chN n k : Nat)) H'
theorem pow_bits {a k c : Nat} (ha : a ≤ 2 ^ c) : a ^ k ≤ 2 ^ (c * k) := by
  rw [Nat.pow_mul]
  exact Nat.pow_le_pow_left ha k
section
variable {X : Cx}
def rGtDat : R2 := fun x y H Q => ∃ d e, Dat H x d ∧ Dat H y e ∧ PySem.W.alike d e = true ∧ d ≠ .none ∧ d.depth ≤ 60 ∧ Q (.bl (PySem.W.dataLt e d)) H
theorem op_gtDat (hu : X.A.units + 64 < cLine) : OpR X (compareOp .Gt) rGtDat := by
  intro pins s σ H x y v u Q I rx ry h
  obtain ⟨d, e, hd, he, ha, hn, hz, q⟩ := h
  obtain ⟨as, r1⟩ := hd.reads I.hok rx
  obtain ⟨bs, r2⟩ := he.reads I.hok ry
  exact PySem.W.gt_data r1 r2 ha hn (by omega) ⟨.bl _, H, I, rfl, q⟩
end
/-- a word's counts from the left: the sum so far, the letter before -/
def wl : List PyData → Int → PyData → Bool
  | [], _, _ => true
  | e :: r, t, b => countB e && (PySem.W.dataLt b (letterOf e) && (decide (t + countOf e ≤ 400) && wl r (t + countOf e) (letterOf e)))
/-- strictly ascending from b on -/
def ascF : PyData → List PyData → Bool
  | _, [] => true
  | b, e :: r => PySem.W.dataLt b e && ascF e r
theorem ascB_cons (e : PyData) : ∀ r : List PyData, ascB (e :: r) = ascF e r
  | [] => rfl
  | x :: r => by
    have z := ascB_cons x r
    have e1 : ascB (e :: x :: r) = (PySem.W.dataLt e x && ascB (x :: r)) := by
      unfold ascB
      show (List.range (r.length + 1)).all _ = (_ && (List.range r.length).all _)
      rw [List.range_succ_eq_map, List.all_cons, List.all_map]
      rfl
    rw [e1, z]
    rfl
theorem empty_lt {s : Str} (h : nameB (.str s) = true) : PySem.W.dataLt (.str "") (.str s) = true := by
  have h' : (decide (1 ≤ (s.length : Int)) && decide ((s.length : Int) ≤ 6) && s.cps.toList.all azB) = true := h
  rw [Bool.and_eq_true, Bool.and_eq_true] at h'
  have h1 : 1 ≤ (s.length : Int) := of_decide_eq_true h'.1.1
  obtain ⟨c, l, e⟩ : ∃ c l, s.cps.toList = c :: l := by
    cases hl : s.cps.toList with
    | nil =>
      have : s.length = s.cps.toList.length := by simp [Str.length]
      rw [hl] at this
      simp at this
      omega
    | cons c l => exact ⟨c, l, rfl⟩
  unfold PySem.W.dataLt PySem.W.keyToks
  rw [e]
  rfl
theorem wl_all : ∀ (ds : List PyData) (t : Int) (b : PyData), t ≤ 400 → wl ds t b = (ds.all countB && (ascF b (ds.map letterOf) && decide (t + (ds.map countOf).sum ≤ 400)))
  | [], t, b, ht => by
    show true = (true && (true && decide (t + 0 ≤ 400)))
    rw [decide_eq_true (by omega)]
    rfl
  | e :: r, t, b, ht => by
    rw [wl, List.all_cons]
    show _ = (countB e && r.all countB && (PySem.W.dataLt b (letterOf e) && ascF (letterOf e) (r.map letterOf) && decide (t + (countOf e + (r.map countOf).sum) ≤ 400)))
    cases hc : countB e with
    | false => rfl
    | true =>
      by_cases h4 : t + countOf e ≤ 400
      · rw [decide_eq_true h4, wl_all r _ _ h4, show t + countOf e + (r.map countOf).sum = t + (countOf e + (r.map countOf).sum) by omega]
        cases PySem.W.dataLt b (letterOf e) <;> cases r.all countB <;> cases ascF (letterOf e) (r.map letterOf) <;> rfl
      · rw [decide_eq_false h4]
        cases hr : r.all countB with
        | false =>
          cases PySem.W.dataLt b (letterOf e) <;> rfl
        | true =>
          have pos : 0 ≤ (r.map countOf).sum := by
            have hall := List.all_eq_true.mp hr
            rw [← sum_nat hall]
            omega
          rw [decide_eq_false (show ¬ t + (countOf e + (r.map countOf).sum) ≤ 400 by omega)]
          cases PySem.W.dataLt b (letterOf e) <;> cases ascF (letterOf e) (r.map letterOf) <;> rfl
theorem ascF_empty {ds : List PyData} (h : ds.all countB = true) : ascF (.str "") (ds.map letterOf) = ascB (ds.map letterOf) := by
  cases ds with
  | nil => rfl
  | cons e r =>
    rw [List.map_cons, ascB_cons]
    rw [List.all_cons, Bool.and_eq_true] at h
    obtain ⟨d0, i, rfl, hn, _⟩ := count_cases h.1
    obtain ⟨s, rfl, _⟩ := name_str hn
    show (PySem.W.dataLt (.str "") (.str s) && ascF (.str s) (r.map letterOf)) = _
    rw [empty_lt hn, Bool.true_and]
    rfl
theorem counts_wl (ds : List PyData) : countsB (.tuple ds) = (tupOf 1 6 (.tuple ds) && wl ds 0 (.str "")) := by
  rw [wl_all ds 0 _ (by decide)]
  show (tupOf 1 6 (.tuple ds) && ds.all countB && (decide ((ds.map countOf).sum ≤ 400) && ascB (ds.map letterOf))) = _
  rw [show (0 : Int) + (ds.map countOf).sum = (ds.map countOf).sum by omega]
  cases h : ds.all countB with
  | false =>
    cases tupOf 1 6 (.tuple ds) <;> rfl
  | true =>
    rw [ascF_empty h]
    cases tupOf 1 6 (.tuple ds) <;> cases ascB (ds.map letterOf) <;> cases decide ((ds.map countOf).sum ≤ 400) <;> rfl
/-- None, or a number where f holds -/
def spOptZ (f : PyData → Bool) (sz : PyData → Int) : Sp := fun vs H Q _ => ∃ (v : V) (d : PyData), vs = [v] ∧ Dat H v d ∧ (∀ H', Same H H' → f d = false → Q .non H') ∧ (∀ H' : Hp, Same H H' → f d = true → Q (.int (sz d)) H')
def zCounts (d : PyData) : Int := multN 0 1 (countsN d)
section
variable {P : Program} {w : World} {K : PySem.W.Frag} {mg : Str → Option Value} {base : Heap}
theorem sc_choose : FnScope ["_law_n", "_law_k", "_law_top", "_law_bottom", "_law_turn"] ["_law_n", "_law_k"] (defScope s_choose) := ⟨rfl, rfl, rfl, by decide +kernel, rfl, by decide +kernel, by decide +kernel⟩
theorem sc_word_size : FnScope ["_law_counts_here", "_law_total", "_law_before", "_law_size", "_law_one"] ["_law_counts_here"] (defScope s_word_size) := ⟨rfl, rfl, rfl, by decide +kernel, rfl, by decide +kernel, by decide +kernel⟩
theorem okl_choose {f : Addr} {fd : FuncData} (F : Fun K "_law_choose" "_law_choose" s_choose f fd) (T : Nm mg) : FnOk P w K mg base CX0 1 f fd ["_law_n", "_law_k"] spChoose := by
  refine F.ok sc_choose (fun vs H Q E h => ?_) (fun cdv A outer s H vs Q E hr h => ?_)
  · obtain ⟨n, k, rfl, _⟩ := h
    rfl
  · obtain ⟨n, k, rfl, hkn, hn, q⟩ := h
    refine ⟨_, pss_cons (ps_asg (pe_tup (pa_cons pe_int (pa_cons pe_int pa_nil))) (pg_tup rfl (pgs_cons (pg_name (i := 2) sc_choose.nd rfl (Or.inl rfl)) (pgs_cons (pg_name (i := 3) sc_choose.nd rfl (Or.inl rfl)) pgs_nil))))
      (pss_cons (ps_for PassesOwn.never rfl (pi_range1 rfl T.range (pa_cons (pv 1) pa_nil)) (pg_name (i := 4) sc_choose.nd rfl (Or.inl rfl))
        (pss_one (ps_par (i := 2) (j := 3) rfl sc_choose.nd rfl rfl (by decide) rfl rfl (pa_cons (pe_op op_mulW (pv 2) (pe_op op_sub (pv 0) (pv 4))) (pa_cons (pe_op op_mulW (pv 3) (pe_op op_add (pv 4) pe_int)) pa_nil)) (by rfl))))
      (pss_one (ps_ret (pe_op op_fdivW (pv 2) (pv 3))))), ?_⟩
    refine ⟨(by show 2 ≤ sizeLine; decide), fun u nu => ⟨u, _, rfl, SqT.of upd_same, rfl, _, _, rfl, _, _, rfl, rfl, ?_⟩⟩
    have S0 := same_new (o := HO.tup [V.int 1, V.int 1]) nu
    generalize upd H u (.tup [V.int 1, V.int 1]) = H0 at S0 ⊢
    refine ⟨_, rfl, (k : Int), rfl, by omega, by omega, for_range (n := (k : Int).toNat) (fun i σ Hx => ∃ (t b : Nat) (x4 : Option V), σ = [some (.int n), some (.int k), some (.int (t : Nat)), some (.int (b : Nat)), x4] ∧ Hx = H0 ∧ t ≤ n ^ i ∧ 1 ≤ b ∧ b ≤ 1024 ^ i ∧ t = fallN n i ∧ b = fac i) ⟨1, 1, none, rfl, rfl, Nat.le_refl _, Nat.le_refl _, Nat.le_refl _, rfl, rfl⟩ ?_ ?_⟩
    · rintro i σ Hx hi ⟨t, b, x4, rfl, rfl, ht, hb1, hb, et, eb⟩
      have hik : i < k := by omega
      have h1 : n ^ i ≤ 2 ^ (10 * i) := pow_bits (by omega)
      have h2 : 1024 ^ i ≤ 2 ^ (10 * i) := pow_bits (by decide)
      have h3 : (2 : Nat) ^ (10 * i) < 2 ^ 9000 := Nat.pow_lt_pow_right (by decide) (by omega)
      have w1 : CMulW (t : Int) ((n : Int) - (0 + (i : Int))) := wide_mul (a := 9000) (b := 10) (by rw [Int.natAbs_natCast]; omega) (by omega) (by decide) (by decide) (by decide)
      have w2 : CMulW (b : Int) (0 + (i : Int) + 1) := wide_mul (a := 9000) (b := 10) (by rw [Int.natAbs_natCast]; omega) (by omega) (by decide) (by decide) (by decide)
      refine ⟨_, rfl, _, rfl, _, rfl, _, _, rfl, rfl, _, _, rfl, rfl, w1, _, rfl, _, rfl, _, _, rfl, rfl, _, _, rfl, rfl, w2, _, _, rfl, t * (n - i), b * (i + 1), some (.int (0 + (i : Int))), ?_, rfl, ?_, ?_, ?_, ?_, ?_⟩
      · have e1 : (t : Int) * ((n : Int) - (0 + (i : Int))) = ((t * (n - i) : Nat) : Int) := by
          rw [Int.natCast_mul]
          congr 1
          omega
        have e2 : (b : Int) * (0 + (i : Int) + 1) = ((b * (i + 1) : Nat) : Int) := by
          rw [Int.natCast_mul]
          congr 1
          omega
        show [some (V.int n), some (V.int k), some (V.int ((t : Int) * ((n : Int) - (0 + (i : Int))))), some (V.int ((b : Int) * (0 + (i : Int) + 1))), some (V.int (0 + (i : Int)))] = _
        rw [e1, e2]
      · rw [Nat.pow_succ]
        exact Nat.mul_le_mul ht (by omega)
      · exact Nat.mul_le_mul hb1 (show 1 ≤ i + 1 by omega)
      · rw [Nat.pow_succ]
        exact Nat.mul_le_mul hb (show i + 1 ≤ 1024 by omega)
      · rw [et]
        rfl
      · rw [eb, fac_succ]
    · rintro σ Hx ⟨t, b, x4, rfl, rfl, ht, hb1, hb, et, eb⟩
      rw [Int.toNat_natCast] at ht hb et eb
      have h2 : 1024 ^ k ≤ 2 ^ (10 * k) := pow_bits (by decide)
      have h3 : (2 : Nat) ^ (10 * k) < 2 ^ 9000 := Nat.pow_lt_pow_right (by decide) (by omega)
      refine ⟨_, rfl, _, rfl, _, _, rfl, rfl, wide_div (b := 9000) (by omega) (by rw [Int.natAbs_natCast]; omega) (by decide) (by decide), ?_⟩
      show Q (.int ((t / b : Nat) : Int)) Hx
      have e : t / b = chN n k := by rw [et, eb, fall_div hkn]
      have z := Nat.le_trans (Nat.div_le_self t b) ht
      rw [e] at z ⊢
      exact q _ S0 z
end
end K3
set_option maxRecDepth 100000
set_option maxHeartbeats 4000000
namespace K3
open PySem PySem.Spec PyProof.Rows L2
/-! ### the law's word_size -/
section
variable {P : Program} {w : World} {K : PySem.W.Frag} {mg : Str → Option Value} {base : Heap}
theorem okl_word {f fI fN fC : Addr} {fd fdI fdN fdC : FuncData} (F : Fun K "_law_word_size" "_law_word_size" s_word_size f fd) (T : Nm mg) (D_is_int : DefOk K mg "_law_is_int" s_is_int ["_law_thing", "_law_low", "_law_high"] fI fdI) (D_is_name : DefOk K mg "_law_is_name" s_is_name ["_law_thing"] fN fdN) (D_choose : DefOk K mg "_law_choose" s_choose ["_law_n", "_law_k"] fC fdC) : FnOk P w K mg base CX0 2 f fd ["_law_counts_here"] (spOptZ countsB zCounts) := by
  have G_is_int : FnOk P w K mg base CX0 1 fI fdI ["_law_thing", "_law_low", "_law_high"] spBtw := okl_int D_is_int.F T
  have G_is_name : FnOk P w K mg base CX0 1 fN fdN ["_law_thing"] (spP nameB) := okl_name D_is_name.F T
  have G_choose : FnOk P w K mg base CX0 1 fC fdC ["_law_n", "_law_k"] spChoose := okl_choose D_choose.F T
  refine F.ok sc_word_size (fun vs H Q E h => ?_) (fun cdv A outer s H vs Q E hr h => ?_)
  · obtain ⟨v, d, rfl, _⟩ := h
    rfl
  · obtain ⟨v, d, rfl, hd, q0, q1⟩ := h
    have hu := hr.units
    refine ⟨_, pss_cons (ps_if (PW.pt (pw_or (pt_not (pt_val (pe_callB call_isi (by rfl) T.isinstance boot_isinstance (pa_cons (pv 0) (pa_cons (pe_bltn (v := .ty "tuple") rfl T.tuple (by decide +kernel) rfl) pa_nil))))) (pw_or1 (pt_not (pt_chain op_le op_le pe_int (pe_callB call_len_seq (by rfl) T.len PySem.boot_len (pa_cons (pv 0) pa_nil)) pe_int)))))
        (pss_one (ps_ret pe_non))
        pss_nil)
      (pss_cons (ps_asg (pe_tup (pa_cons pe_int (pa_cons pe_str (pa_cons pe_int pa_nil)))) (pg_tup rfl (pgs_cons (pg_name (i := 1) sc_word_size.nd rfl (Or.inl rfl)) (pgs_cons (pg_name (i := 2) sc_word_size.nd rfl (Or.inl rfl)) (pgs_cons (pg_name (i := 3) sc_word_size.nd rfl (Or.inl rfl)) pgs_nil)))))
      (pss_cons (ps_for PassesOwn.never rfl (pi_tup (pv 0)) (pg_name (i := 4) sc_word_size.nd rfl (Or.inl rfl))
        (pss_cons (ps_if (PW.pt (pw_or (pt_not (pt_val (pe_callB call_isi (by rfl) T.isinstance boot_isinstance (pa_cons (pv 4) (pa_cons (pe_bltn (v := .ty "tuple") rfl T.tuple (by decide +kernel) rfl) pa_nil))))) (pw_or (pt_cmpR op_ne (pe_callB call_len_seq (by rfl) T.len PySem.boot_len (pa_cons (pv 4) pa_nil)) pe_int (nomark _)) (pw_or (pt_not (pt_val (pe_call G_is_name hr rfl D_is_name.g D_is_name.F.kp D_is_name.b .nil pass0 (pa_cons (pe_ix ix_tup (pv 4) pe_int (fun _ _ => rfl)) pa_nil)))) (pw_or1 (pt_not (pt_cmpR (op_gtDat hu) (pe_ix ix_tup (pv 4) pe_int (fun _ _ => rfl)) (pv 2) (nomark _))))))))
          (pss_one (ps_ret pe_non))
          pss_nil)
        (pss_cons (ps_if (pt_not (pt_val (pe_call G_is_int hr rfl D_is_int.g D_is_int.F.kp D_is_int.b .nil pass0 (pa_cons (pe_ix ix_tup (pv 4) pe_int (fun _ _ => rfl)) (pa_cons pe_int (pa_cons pe_int pa_nil))))))
          (pss_one (ps_ret pe_non))
          pss_nil)
        (pss_cons (ps_par (i := 1) (j := 2) rfl sc_word_size.nd rfl rfl (by decide) rfl rfl (pa_cons (pe_op op_add (pv 1) (pe_ix ix_tup (pv 4) pe_int (fun _ _ => rfl))) (pa_cons (pe_ix ix_tup (pv 4) pe_int (fun _ _ => rfl)) pa_nil)) (by rfl))
        (pss_cons (ps_if (pt_cmpR op_gt (pv 1) pe_int (nomark _))
          (pss_one (ps_ret pe_non))
          pss_nil)
        (pss_one (ps_set (i := 3) sc_word_size.nd rfl (Or.inl rfl) (pe_op op_mulW (pv 3) (pe_call G_choose hr rfl D_choose.g D_choose.F.kp D_choose.b .nil pass0 (pa_cons (pv 1) (pa_cons (pe_ix ix_tup (pv 4) pe_int (fun _ _ => rfl)) pa_nil)))))))))))
      (pss_one (ps_ret (pv 3))))), ?_⟩
    have qn := q0 H (Same.refl H)
    refine ⟨_, rfl, v, .ty "tuple", _, _, _, rfl, .ty _, hd.ty, kit_tuple _ d, _, rfl, ?_⟩
    cases d with
    | tuple ds =>
      cases hd with
      | @tup a xs _ ha hx =>
        have hl := hx.len
        have eT : tupOf 1 6 (.tuple ds) = (decide ((1 : Int) ≤ (ds.length : Int)) && decide ((ds.length : Int) ≤ 6)) := rfl
        have hw := counts_wl ds
        rw [eT] at hw
        refine if_f rfl ⟨_, rfl, a, xs, rfl, .inr (SqT.of ha), _, _, rfl, rfl, _, rfl, ?_⟩
        by_cases h1 : (1 : Int) ≤ (xs.length : Int)
        · refine if_t (decide_eq_true h1) ⟨_, _, rfl, rfl, _, rfl, ?_⟩
          by_cases h6 : (xs.length : Int) ≤ 6
          · rw [decide_eq_true (by omega), decide_eq_true (by omega), Bool.true_and, Bool.true_and] at hw
            rw [hw] at q0 q1 qn
            refine if_f (by rw [decide_eq_true h6]; rfl) ?_
            refine ⟨(by show 3 ≤ sizeLine; decide), fun u nu => ⟨u, _, rfl, SqT.of upd_same, rfl, _, _, rfl, _, _, rfl, _, _, rfl, rfl, ?_⟩⟩
            have S0 := same_new (o := HO.tup [V.int 0, V.str "", V.int 1]) nu
            generalize upd H u (.tup [V.int 0, V.str "", V.int 1]) = H0 at S0 ⊢
            refine ⟨_, rfl, a, rfl, ⟨_, SqT.of (S0 _ _ ha)⟩, for_tup (K := K) (a := a) (xs := xs) (fun i σ Hx => ∃ (t sz : Nat) (b : Str) (x4 : Option V), σ = [some (.ref a), some (.int (t : Nat)), some (.str b), some (.int (sz : Nat)), x4] ∧ Same H Hx ∧ b.length ≤ 6 ∧ t ≤ 400 ∧ sz ≤ 400 ^ t ∧ wl (ds.drop i) t (.str b) = wl ds 0 (.str "") ∧ multN t sz ((ds.drop i).map fun e => (countOf e).toNat) = zCounts (.tuple ds))
              ⟨0, 1, "", none, rfl, S0, by decide, by decide, Nat.le_refl _, rfl, rfl⟩ (fun i σ Hx _ ⟨_, _, _, _, _, S, _⟩ => SqT.of (S _ _ ha)) ?_ ?_⟩
            · rintro i x σ Hx hi ⟨t, sz, b, x4, rfl, S, hb, ht, hsz, hwl, hmu⟩
              obtain ⟨e, hei, te⟩ := hx.get hi
              have hil : i < ds.length := (List.getElem?_eq_some_iff.mp hei).1
              have ed : ds.drop i = e :: ds.drop (i + 1) := by
                rw [List.drop_eq_getElem_cons hil]
                congr 1
                exact (List.getElem?_eq_some_iff.mp hei).2
              rw [ed, wl] at hwl
              rw [ed, List.map_cons, multN] at hmu
              have bad : ∀ H', Same Hx H' → (countB e && (PySem.W.dataLt (.str b) (letterOf e) && (decide ((t : Int) + countOf e ≤ 400) && wl (ds.drop (i + 1)) (t + countOf e) (letterOf e)))) = false → Q .non H' := fun H' S' z => q0 H' (S.trans S') (by rw [← hwl]; exact z)
              have tx : Dat Hx x e := te.same S
              refine ⟨_, rfl, x, .ty "tuple", _, _, _, rfl, .ty _, tx.ty, kit_tuple _ e, _, rfl, ?_⟩
              cases hc2 : tupOf 2 2 e with
              | false =>
                have eC : countB e = false := by
                  unfold countB
                  rw [hc2]
                  rfl
                have bad' := bad Hx (Same.refl _) (by rw [eC]; rfl)
                cases e with
                | tuple es =>
                  cases tx with
                  | @tup a2 ys _ ha2 hy =>
                    have hyl := hy.len
                    refine if_f rfl ⟨_, rfl, a2, ys, rfl, .inr (SqT.of ha2), rfl, _, rfl, ?_⟩
                    have e1 : decide (V.int ((ys.length : Nat) : Int) = V.int 2) = false := decide_eq_false fun z => by
                      injection z with z
                      have h2 : (decide ((2 : Int) ≤ (es.length : Int)) && decide ((es.length : Int) ≤ 2)) = false := hc2
                      rw [decide_eq_true (by omega), decide_eq_true (by omega)] at h2
                      cases h2
                    rw [e1]
                    exact if_t rfl (if_t rfl bad')
                | int i => exact if_t rfl (if_t rfl bad')
                | bool b => exact if_t rfl (if_t rfl bad')
                | none => exact if_t rfl (if_t rfl bad')
                | str x => exact if_t rfl (if_t rfl bad')
                | list ds => exact if_t rfl (if_t rfl bad')
                | dict kv => exact if_t rfl (if_t rfl bad')
              | true =>
                obtain ⟨es, rfl, l1, l2⟩ := tupOf_len hc2
                match es, (show es.length = 2 by omega), tx with
                | [d0, d1], _, tx =>
                 cases tx with
                 | @tup a2 ys _ ha2 hy =>
                  cases hy with
                  | @cons y0 _ _ _ c0 t0 =>
                   cases t0 with
                   | @cons y1 _ _ _ c1 t1 =>
                    cases t1
                    have eC : countB (.tuple [d0, d1]) = (nameB d0 && btw 1 400 d1) := by
                      unfold countB
                      rw [hc2]
                      rfl
                    rw [eC] at bad hwl
                    refine if_f rfl ⟨_, rfl, a2, _, rfl, .inr (SqT.of ha2), rfl, _, rfl, if_f rfl ?_⟩
                    refine ⟨_, rfl, a2, _, _, y0, rfl, rfl, SqT.of ha2, atI_nat (j := 0) rfl, y0, d0, rfl, c0, fun H1 S1 => ⟨_, rfl, ?_⟩⟩
                    cases hn : nameB d0 with
                    | false =>
                      rw [hn] at bad
                      exact if_t rfl (if_t rfl (bad H1 S1 rfl))
                    | true =>
                      rw [hn] at bad hwl
                      obtain ⟨s, rfl, hs6⟩ := name_str hn
                      refine if_f rfl ⟨_, rfl, a2, _, _, y0, rfl, rfl, SqT.of (S1 _ _ ha2), atI_nat (j := 0) rfl, _, rfl, .str s, .str b, c0.same S1, .str _ (by omega), rfl, nofun, by simp [PyData.depth], _, rfl, ?_⟩
                      cases hlt : PySem.W.dataLt (.str b) (.str s) with
                      | false =>
                        refine if_t rfl (bad H1 S1 ?_)
                        show (true && btw 1 400 d1 && (PySem.W.dataLt (.str b) (.str s) && _)) = false
                        rw [hlt]
                        cases btw 1 400 d1 <;> rfl
                      | true =>
                        refine if_f rfl ⟨_, rfl, a2, _, _, y1, rfl, rfl, SqT.of (S1 _ _ ha2), atI_nat (j := 1) rfl, y1, d1, 1, 400, rfl, c1.same S1, fun H2 S2 => ⟨_, rfl, ?_⟩⟩
                        have S12 := S1.trans S2
                        cases hbt : btw 1 400 d1 with
                        | false =>
                          rw [hbt] at bad
                          exact if_t rfl (bad H2 S12 rfl)
                        | true =>
                          rw [hbt] at bad hwl
                          obtain ⟨n, rfl, n1, n4⟩ := btw_int hbt
                          obtain rfl := dat_int c1
                          have eL : letterOf (.tuple [.str s, .int n]) = .str s := rfl
                          have eN : countOf (.tuple [.str s, .int n]) = n := rfl
                          rw [eL, eN] at bad hwl
                          rw [hlt] at bad hwl
                          obtain ⟨m, rfl⟩ : ∃ m : Nat, n = m := ⟨n.toNat, by omega⟩
                          cases c0 with
                          | str _ _ =>
                            refine if_f rfl ⟨_, rfl, _, rfl, a2, _, _, _, rfl, rfl, SqT.of (S12 _ _ ha2), atI_nat (j := 1) rfl, _, _, rfl, rfl, _, rfl, a2, _, _, _, rfl, rfl, SqT.of (S12 _ _ ha2), atI_nat (j := 0) rfl, _, _, rfl, ?_⟩
                            refine ⟨_, rfl, _, _, rfl, rfl, _, rfl, ?_⟩
                            by_cases h4 : (t : Int) + (m : Int) > 400
                            · refine if_t (decide_eq_true h4) (bad H2 S12 ?_)
                              rw [decide_eq_false (by omega)]
                              rfl
                            · rw [decide_eq_true (by omega)] at hwl
                              refine if_f (decide_eq_false h4) ⟨_, rfl, _, rfl, _, rfl, a2, _, _, _, rfl, rfl, SqT.of (S12 _ _ ha2), atI_nat (j := 1) rfl, t + m, m, (by show [V.int ((t : Int) + (m : Int)), V.int (m : Int)] = [V.int ((t + m : Nat) : Int), V.int (m : Int)]; rw [Int.natCast_add]), by omega, by omega, fun H3 S3 hr3 => ?_⟩
                              have eCh := comb_ch (n := t + m) (k := m) (by omega)
                              generalize chN (t + m) m = r at hr3 eCh ⊢
                              have b1 : sz ≤ 2 ^ (9 * t) := Nat.le_trans hsz (pow_bits (by decide))
                              have b2 : r ≤ 400 ^ m := Nat.le_trans hr3 (Nat.pow_le_pow_left (by omega) _)
                              have b3 : r ≤ 2 ^ (9 * m) := Nat.le_trans b2 (pow_bits (by decide))
                              have b4 : (2 : Nat) ^ (9 * t) < 2 ^ 4000 := Nat.pow_lt_pow_right (by decide) (by omega)
                              have b5 : (2 : Nat) ^ (9 * m) < 2 ^ 4000 := Nat.pow_lt_pow_right (by decide) (by omega)
                              refine ⟨_, _, rfl, rfl, wide_mul (a := 4000) (b := 4000) (by rw [Int.natAbs_natCast]; omega) (by rw [Int.natAbs_natCast]; omega) (by decide) (by decide) (by decide), ?_⟩
                              refine ⟨t + m, sz * r, s, some (.ref a2), ?_, S.trans (S12.trans S3), hs6, by omega, ?_, ?_, ?_⟩
                              · show [some (V.ref a), some (V.int ((t : Int) + (m : Int))), some (V.str s), some (V.int ((sz : Int) * (r : Int))), some (V.ref a2)] = _
                                rw [Int.natCast_add, Int.natCast_mul]
                              · rw [Nat.pow_add]
                                exact Nat.mul_le_mul hsz b2
                              · rw [← hwl, Int.natCast_add]
                                rfl
                              · rw [← hmu, eN, Int.toNat_natCast, eCh, Int.natCast_mul]
            · rintro σ Hx ⟨t, sz, b, x4, rfl, S, hb, ht, hsz, hwl, hmu⟩
              rw [hl, List.drop_length, wl] at hwl
              rw [hl, List.drop_length, List.map_nil, multN] at hmu
              rw [hmu]
              exact ⟨_, rfl, q1 Hx S hwl.symm⟩
          · refine if_t (by rw [decide_eq_false h6]; rfl) (qn ?_)
            rw [hw, decide_eq_false (show ¬ (ds.length : Int) ≤ 6 by omega), Bool.and_false]
            rfl
        · refine if_f (decide_eq_false h1) ⟨_, rfl, if_t rfl (qn ?_)⟩
          rw [hw, decide_eq_false (show ¬ (1 : Int) ≤ (ds.length : Int) by omega)]
          rfl
    | int i => exact if_t rfl (if_t rfl (qn rfl))
    | bool b => exact if_t rfl (if_t rfl (qn rfl))
    | none => exact if_t rfl (if_t rfl (qn rfl))
    | str x => exact if_t rfl (if_t rfl (qn rfl))
    | list ds => exact if_t rfl (if_t rfl (qn rfl))
    | dict kv => exact if_t rfl (if_t rfl (qn rfl))
end
end K3
set_option maxRecDepth 100000
set_option maxHeartbeats 4000000
namespace K3
open PySem PySem.Spec PyProof.Rows L2
/-! ### [x for x in a tuple if not p(x)]; the law's walk_size -/
theorem lc_bad {K : PySem.W.Frag} {H : Hp} {a : Addr} {xs : List V} {ds : List PyData} {g : TG} {tt : TT} {te : TE} {vs : List Nat} {σ : L2.St} {D : Addr} {Qd : Hp → Prop} (p : PyData → Bool) (ha : H a = some (.tup xs)) (hx : DatAll H xs ds) (hz : xs.length ≤ 1000000) (nD : H D = none)
    (hs : ∀ (i : Nat) (x : V) (d : PyData) (Hx : Hp) (N : VK) (M : Hp → Prop), xs[i]? = some x → ds[i]? = some d → Dat Hx x d → Same H Hx → (∀ H', Same Hx H' → p d = false → N x H') → (∀ H', Same Hx H' → p d = true → M H') → g x (wipe σ vs) Hx fun σ2 H2 => wipe σ2 vs = wipe σ vs ∧ tt σ2 H2 fun b H3 => if b = true then te σ2 H3 N else M H3)
    (hd : ∀ (Hx : Hp) (acc : List V), Same H Hx → Hx D = some (.lst acc) → acc.isEmpty = ds.all p → Qd Hx) :
    ∃ W : Nat → Nat → Hp → Prop, (∃ m, W 0 m (upd H D (.lst []))) ∧ ∀ i m H, W i m H →
      ((Itt K a).stop i H ∧ Qd H) ∨ ((Itt K a).go i H ∧ ∃ Nx : Hp → Prop, (∀ H', Nx H' → ∃ m', m' < m ∧ W (i + 1) m' H') ∧ ∀ x H', (Itt K a).yld i H x H' → g x (wipe σ vs) H' fun σ2 H2 => wipe σ2 vs = wipe σ vs ∧ tt σ2 H2 fun b H3 =>
        if b = true then te σ2 H3 fun y H4 => ∃ acc, H4 D = some (.lst acc) ∧ acc.length < sizeLine ∧ Nx (upd H4 D (.lst (acc ++ [y]))) else Nx H3) := by
  refine lc_tup (K := K) (a := a) (xs := xs) (fun j Hx => Same H Hx ∧ ∃ acc : List V, Hx D = some (.lst acc) ∧ acc.length ≤ j ∧ acc.isEmpty = (ds.take j).all p) ⟨same_new nD, [], upd_same, Nat.le_refl _, rfl⟩ (fun j Hx _ ⟨S, _⟩ => SqT.of (S _ _ ha)) ?_ ?_
  · rintro i x Hx hi ⟨S, acc, hD, hl, he⟩
    obtain ⟨d, hdi, td⟩ := hx.get hi
    have et : (ds.take (i + 1)).all p = ((ds.take i).all p && p d) := by
      rw [List.take_add_one, hdi, List.all_append]
      simp
    have hil : i < xs.length := (List.getElem?_eq_some_iff.mp hi).1
    refine hs i x d Hx _ _ hi hdi (td.same S) S (fun H' S' z => ⟨acc, S' _ _ hD, ?_, grow nD (S.trans S'), acc ++ [x], upd_same, ?_, ?_⟩) fun H' S' z => ⟨S.trans S', acc, S' _ _ hD, by omega, ?_⟩
    · rw [sizeLine_eq]
      omega
    · rw [List.length_append]
      show acc.length + 1 ≤ i + 1
      omega
    · rw [et, z, Bool.and_false]
      cases acc <;> rfl
    · rw [et, z, Bool.and_true]
      exact he
  · rintro Hx ⟨S, acc, hD, hl, he⟩
    refine hd Hx acc S hD ?_
    rw [he, hx.len, List.take_length]
/-! ### how large a value is -/
mutual
def nodes : PyData → Nat
  | .tuple ds => 1 + nodesAll ds
  | .list ds => 1 + nodesAll ds
  | _ => 1
def nodesAll : List PyData → Nat
  | [] => 0
  | d :: ds => nodes d + nodesAll ds
end
theorem nodes_pos (d : PyData) : 1 ≤ nodes d := by
  cases d <;> simp [nodes]
theorem len_nodes : ∀ ds : List PyData, ds.length ≤ nodesAll ds
  | [] => Nat.zero_le _
  | d :: ds => by
    have z := len_nodes ds
    have y := nodes_pos d
    rw [nodesAll, List.length_cons]
    omega
theorem mem_nodes {d : PyData} : ∀ {ds : List PyData}, d ∈ ds → nodes d ≤ nodesAll ds
  | a :: l, h => by
    rw [nodesAll]
    rcases List.mem_cons.mp h with e | e
    · rw [e]
      omega
    · have z := mem_nodes e
      omega
theorem nodes_tup (ds : List PyData) : nodes (.tuple ds) = 1 + nodesAll ds := by rw [nodes]
/-! ### how many words 'item' -/
mutual
def itm : PyData → Nat
  | .str s => if s = "item" then 1 else 0
  | .tuple ds => itmAll ds
  | .list ds => itmAll ds
  | _ => 0
def itmAll : List PyData → Nat
  | [] => 0
  | d :: ds => itm d + itmAll ds
end
theorem mem_itm {d : PyData} : ∀ {ds : List PyData}, d ∈ ds → itm d ≤ itmAll ds
  | a :: l, h => by
    rw [itmAll]
    rcases List.mem_cons.mp h with e | e
    · rw [e]
      omega
    · have z := mem_itm e
      omega
theorem itm_tup (ds : List PyData) : itm (.tuple ds) = itmAll ds := by rw [itm]
/-- the tuple of a walk: its length too -/
def walkB : PyData → Bool
  | .tuple ds => decide (ds.length = 6) && pWalk ds
  | _ => false
/-- None, or a number where f holds; the tuple is handed over -/
def spOptTZ (f : PyData → Bool) (sz : List PyData → Int) : Sp := fun vs H Q _ => ∃ (a : Addr) (xs : List V) (ds : List PyData), vs = [.ref a] ∧ H a = some (.tup xs) ∧ DatAll H xs ds ∧ 1 ≤ ds.length ∧ nodes (.tuple ds) ≤ 100000 ∧ itm (.tuple ds) ≤ 800 ∧ (∀ H', Same H H' → f (.tuple ds) = false → Q .non H') ∧ (∀ H' : Hp, Same H H' → f (.tuple ds) = true → Q (.int (sz ds)) H')
theorem vints_at {ks : List Nat} {j : Nat} (h : j < ks.length) : ∃ k, ks[j]? = some k ∧ atI (vints ks) ((j : Nat) : Int) = some (.int (k : Nat)) := by
  refine ⟨ks[j], List.getElem?_eq_getElem h, atI_nat ?_⟩
  unfold vints
  rw [List.getElem?_map, List.getElem?_eq_getElem h]
  rfl
theorem vints_app (ks ls : List Nat) : vints ks ++ vints ls = vints (ks ++ ls) := by
  unfold vints
  rw [List.map_append]
end K3
set_option maxRecDepth 100000
set_option maxHeartbeats 4000000
namespace K3
open PySem PySem.Spec PyProof.Rows L2
/-! ### the law's permutation_size -/
abbrev s_permutation_size : Stmt := top 86
def permB : PyData → Bool
  | .tuple ds => decide (ds.length = 3) && pPerm ds
  | _ => false
theorem lt_int (i j : Int) : PySem.W.dataLt (.int i) (.int j) = decide (i < j) := by
  unfold PySem.W.dataLt PySem.W.keyToks
  show PyProof.Rows.lexLt itemOrd [Sum.inl i] [Sum.inl j] = _
  by_cases h : i < j
  · rw [decide_eq_true h]
    simp [PyProof.Rows.lexLt, itemOrd, itemLt, h]
  · rw [decide_eq_false h]
    simp [PyProof.Rows.lexLt, itemOrd, itemLt, h]
theorem ascF_len {m : Int} : ∀ (b : Int) (ds : List PyData), ascF (.int b) ds = true → (∀ d ∈ ds, btw 0 m d = true) → (ds.length : Int) ≤ m - b ∨ ds = []
  | _, [], _, _ => .inr rfl
  | b, d :: r, h, hb => by
    left
    obtain ⟨i, rfl, i0, i1⟩ := btw_int (hb d (by simp))
    have h' : (PySem.W.dataLt (.int b) (.int i) && ascF (.int i) r) = true := h
    rw [Bool.and_eq_true, lt_int] at h'
    have hlt : b < i := of_decide_eq_true h'.1
    rcases ascF_len i r h'.2 (fun d hd => hb d (by simp [hd])) with z | z
    · rw [List.length_cons]
      omega
    · rw [z]
      show (1 : Int) ≤ m - b
      omega
theorem asc_len {m : Int} {ds : List PyData} (h0 : -1 ≤ m) (hb : ds.all (btw 0 m) = true) (h : ascB ds = true) : (ds.length : Int) ≤ m + 1 := by
  have hall := List.all_eq_true.mp hb
  cases ds with
  | nil =>
    show (0 : Int) ≤ m + 1
    omega
  | cons d r =>
    obtain ⟨i, rfl, i0, i1⟩ := btw_int (hall d (by simp))
    rw [ascB_cons] at h
    rcases ascF_len i r h (fun d hd => hall d (by simp [hd])) with z | z
    · rw [List.length_cons]
      omega
    · rw [z]
      show (1 : Int) ≤ m + 1
      omega
theorem ints_at {rs : List Int} {j : Nat} (h : j < rs.length) : ∃ r, rs[j]? = some r ∧ atI (rs.map V.int) ((j : Nat) : Int) = some (.int r) := ⟨rs[j], List.getElem?_eq_getElem h, atI_nat (by rw [List.getElem?_map, List.getElem?_eq_getElem h]; rfl)⟩
theorem ints_last {rs : List Int} (h : 0 < rs.length) : ∃ (r : Int), r ∈ rs ∧ rs[rs.length - 1]? = some r ∧ atI (rs.map V.int) (-1) = some (.int r) := by
  obtain ⟨l, z, e⟩ : ∃ (l : List Int) (z : Int), rs = l ++ [z] := ⟨rs.dropLast, rs.getLast (by intro e; rw [e] at h; cases h), (List.dropLast_concat_getLast _).symm⟩
  refine ⟨z, by rw [e]; simp, by rw [e]; simp, ?_⟩
  rw [e, List.map_append]
  exact atI_last _ _
section
variable {P : Program} {w : World} {K : PySem.W.Frag} {mg : Str → Option Value} {base : Heap}
theorem sc_permutation_size : FnScope ["_law_thing", "_law_row", "_law_n", "_law_turn", "_law_p"] ["_law_thing"] (defScope s_permutation_size) := ⟨rfl, rfl, rfl, by decide +kernel, rfl, by decide +kernel, by decide +kernel⟩
theorem okl_perm {f fI fR : Addr} {fd fdI fdR : FuncData} (F : Fun K "_law_permutation_size" "_law_permutation_size" s_permutation_size f fd) (T : Nm mg) (D_is_int : DefOk K mg "_law_is_int" s_is_int ["_law_thing", "_law_low", "_law_high"] fI fdI) (D_rises : DefOk K mg "_law_rises" s_rises ["_law_items"] fR fdR) : FnOk P w K mg base CX0 2 f fd ["_law_thing"] (spOptTZ permB zPerm) := by
  have G_is_int : FnOk P w K mg base CX0 1 fI fdI ["_law_thing", "_law_low", "_law_high"] spBtw := okl_int D_is_int.F T
  have G_rises : FnOk P w K mg base CX0 1 fR fdR ["_law_items"] spRises := okl_rises D_rises.F T
  refine F.ok sc_permutation_size (fun vs H Q E h => ?_) (fun cdv A outer s H vs Q E hr h => ?_)
  · obtain ⟨a, xs, ds, rfl, _⟩ := h
    rfl
  · obtain ⟨a, xs, ds, rfl, ha, hx, l1, lm, li, q0, q1⟩ := h
    have hu0 := hr.units0
    refine ⟨_, pss_cons (ps_if (PW.pt (pw_or (pt_cmpR op_ne (pe_callB call_len_seq (by rfl) T.len PySem.boot_len (pa_cons (pv 0) pa_nil)) pe_int (nomark _)) (pw_or (pt_not (pt_val (pe_call G_is_int hr rfl D_is_int.g D_is_int.F.kp D_is_int.b .nil pass0 (pa_cons (pe_ix ix_tup (pv 0) pe_int (fun _ _ => rfl)) (pa_cons pe_int (pa_cons pe_int pa_nil)))))) (pw_or1 (pt_not (pt_val (pe_callB call_isi (by rfl) T.isinstance boot_isinstance (pa_cons (pe_ix ix_tup (pv 0) pe_int (fun _ _ => rfl)) (pa_cons (pe_bltn (v := .ty "tuple") rfl T.tuple (by decide +kernel) rfl) pa_nil)))))))))
        (pss_one (ps_ret pe_non))
        pss_nil)
      (pss_cons (ps_if (PW.pt (pw_or (pt_cmpR (op_nempty hu0) (pe_lc (own := [("_law_p", 4)]) (g := (gName 4)) (tt := tNot (tB (tCall spBtw [] E0 (tCons (tVar 4) (tCons (tC (.int 0)) (tCons (tOp (rI0 fun i j => .int (i - j)) (tOp (rIxT K) (tVar 0) (tC (.int 1))) (tC (.int 1))) tNil)))))) rfl sc_permutation_size.nd (pi_tup (pe_ix ix_tup (pv 0) pe_int (fun _ _ => rfl))) (blkOk_by (N := ["_law_thing", "_law_row", "_law_n", "_law_turn", "_law_p"]) (sc := defScope s_permutation_size) (by decide +kernel))
          (fun _ _ _ _ _ => (pg_name (i := 4) sc_permutation_size.nd rfl (Or.inl rfl))) (fun _ _ _ _ _ => pts_one (pt_not (pt_val (pe_call G_is_int hr rfl D_is_int.g D_is_int.F.kp D_is_int.b .nil pass0 (pa_cons (pv 4) (pa_cons pe_int (pa_cons (pe_op op_sub (pe_ix ix_tup (pv 0) pe_int (fun _ _ => rfl)) pe_int) pa_nil))))))) (fun _ _ _ _ _ => (pv 4))) (pe_lst pa_nil) (nomark _)) (pw_or1 (pt_not (pt_val (pe_call G_rises hr rfl D_rises.g D_rises.F.kp D_rises.b .nil pass0 (pa_cons (pe_ix ix_tup (pv 0) pe_int (fun _ _ => rfl)) pa_nil)))))))
        (pss_one (ps_ret pe_non))
        pss_nil)
      (pss_cons (ps_set (i := 1) sc_permutation_size.nd rfl (Or.inr rfl) (pe_lst (pa_cons pe_int pa_nil)))
      (pss_cons (ps_for PassesOwn.never rfl (pi_range2 rfl T.range (pa_cons pe_int (pa_cons (pe_op op_add (pe_ix ix_tup (pv 0) pe_int (fun _ _ => rfl)) pe_int) pa_nil))) (pg_name (i := 2) sc_permutation_size.nd rfl (Or.inl rfl))
        (pss_one (ps_expr (pe_bm PySem.F.plainAttrs_list PySem.F.slot_list_append PySem.F.type_list_append mt_append (pv 1) (pa_cons (pe_op op_mulW (pe_ix ix_list (pv 1) (pe_un un_neg pe_int) (fun _ _ => rfl)) (pv 2)) pa_nil)))))
      (pss_cons (ps_for PassesOwn.never rfl (pi_range1 rfl T.range (pa_cons (pe_callB call_len_seq (by rfl) T.len PySem.boot_len (pa_cons (pe_ix ix_tup (pv 0) pe_int (fun _ _ => rfl)) pa_nil)) pa_nil)) (pg_name (i := 3) sc_permutation_size.nd rfl (Or.inl rfl))
        (pss_one (ps_set (i := 1) sc_permutation_size.nd rfl (Or.inr rfl) (pe_op op_cat (pe_lst (pa_cons pe_int pa_nil)) (pe_lc (own := [("_law_n", 2)]) (g := (gName 2)) (tt := tYes) (te := tOp (rI0 fun i j => .int (i - j)) (tOp (rIxL K) (tVar 1) (tVar 2)) (tOp (rIxL K) (tVar 1) (tOp (rI0 fun i j => .int (i - j)) (tVar 2) (tC (.int 1))))) rfl sc_permutation_size.nd (pi_range2 rfl T.range (pa_cons pe_int (pa_cons (pe_callB call_len_seq (by rfl) T.len PySem.boot_len (pa_cons (pv 1) pa_nil)) pa_nil))) (blkOk_by (N := ["_law_thing", "_law_row", "_law_n", "_law_turn", "_law_p"]) (sc := defScope s_permutation_size) (by decide +kernel))
          (fun _ _ _ _ _ => (pg_name (i := 2) sc_permutation_size.nd rfl (Or.inl rfl))) (fun _ _ _ _ _ => pts_nil) (fun _ _ _ _ _ => (pe_op op_sub (pe_ix ix_list (pv 1) (pv 2) (fun _ _ => rfl)) (pe_ix ix_list (pv 1) (pe_op op_sub (pv 2) pe_int) (fun _ _ => rfl)))))))))
      (pss_one (ps_ret (pe_ix ix_list (pv 1) (pe_un un_neg pe_int) (fun _ _ => rfl)))))))), ?_⟩
    have hl := hx.len
    refine ⟨_, rfl, a, xs, rfl, .inr (SqT.of ha), rfl, _, rfl, ?_⟩
    rw [dec_int]
    by_cases h3 : ds.length = 3
    · rw [decide_eq_true (show ((xs.length : Nat) : Int) = 3 by omega)]
      match ds, h3, hx with
      | [d0, d1, d2], _, .cons (v := x0) c0 (.cons (v := x1) c1 (.cons (v := x2) c2 .nil)) =>
        have eP : permB (.tuple [d0, d1, d2]) = (btw 0 60 d1 && tupOf 0 (intOf d1) d2 && ((tupItems d2).all (btw 0 (intOf d1 - 1)) && ascB (tupItems d2))) := rfl
        rw [eP] at q0 q1
        refine if_f rfl ⟨_, rfl, a, _, _, x1, rfl, rfl, SqT.of ha, atI_nat (j := 1) rfl, x1, d1, 0, 60, rfl, c1, fun H1 S1 => ⟨_, rfl, ?_⟩⟩
        cases hb1 : btw 0 60 d1 with
        | false =>
          rw [hb1] at q0
          exact if_t rfl (if_t rfl (q0 H1 S1 rfl))
        | true =>
          rw [hb1, Bool.true_and] at q0 q1
          obtain ⟨n, rfl, n0, n60⟩ := btw_int hb1
          obtain rfl := dat_int c1
          have qn : ∀ H', Same H H' → isTup d2 = false → Q .non H' := fun H' S z => q0 H' S (by
            cases d2 with
            | tuple _ => cases z
            | _ => rfl)
          refine if_f rfl ⟨_, rfl, a, _, _, x2, rfl, rfl, SqT.of (S1 _ _ ha), atI_nat (j := 2) rfl, x2, .ty "tuple", _, _, _, rfl, .ty _, (c2.same S1).ty, kit_tuple _ d2, _, rfl, ?_⟩
          cases d2 with
          | tuple es =>
            cases c2 with
            | @tup b ys _ hb hy =>
              have lmE : nodesAll es ≤ 100000 := by
                rw [nodes_tup, nodesAll, nodesAll, nodesAll, nodesAll, nodes_tup] at lm
                omega
              have lE := len_nodes es
              have hyl := hy.len
              have eQ : tupOf 0 (intOf (.int n)) (.tuple es) = (decide ((0 : Int) ≤ (es.length : Int)) && decide ((es.length : Int) ≤ n)) := rfl
              refine if_f rfl ⟨_, rfl, a, _, _, _, rfl, rfl, SqT.of (S1 _ _ ha), atI_nat (j := 2) rfl, b, rfl, ⟨_, SqT.of (S1 _ _ hb)⟩, fun D nD => lc_bad (K := K) (a := b) (xs := ys) (ds := es) (btw 0 (n - 1)) (S1 _ _ hb) (hy.same S1) (by omega) nD (fun i x d Hx N M hi hdi td S hN hM => ⟨rfl, _, rfl, _, rfl, a, _, _, _, rfl, rfl, SqT.of (S _ _ (S1 _ _ ha)), atI_nat (j := 1) rfl, _, _, rfl, rfl, x, d, 0, n - 1, rfl, td, fun H' S' => ⟨_, rfl, ?_⟩⟩) fun H3 acc S3 hD hacc => ?_⟩
              · cases hz : btw 0 (n - 1) d with
                | false => exact if_t rfl ⟨_, rfl, hN H' S' hz⟩
                | true => exact if_f rfl (hM H' S' hz)
              have S4 := S1.trans S3
              refine ⟨(by show 0 ≤ sizeLine; decide), fun e ne => ⟨D, e, acc, rfl, rfl, .inl ⟨same_new ne _ _ hD, upd_same⟩, _, rfl, ?_⟩⟩
              have S5 := S4.trans (same_new (o := HO.lst []) ne)
              generalize upd H3 e (.lst []) = H5 at S5 ⊢
              show (if (!acc.isEmpty) = true then _ else _)
              rw [hacc]
              cases hall : es.all (btw 0 (n - 1)) with
              | false =>
                refine if_t rfl (if_t rfl (q0 H5 S5 ?_))
                show (tupOf 0 (intOf (.int n)) (.tuple es) && (es.all (btw 0 (n - 1)) && ascB es)) = false
                rw [hall, Bool.false_and, Bool.and_false]
              | true =>
                refine if_f rfl ⟨_, rfl, a, _, _, _, rfl, rfl, SqT.of (S5 _ _ ha), atI_nat (j := 2) rfl, b, ys, es, rfl, S5 _ _ hb, hy.same S5, asc_ints (all_btw hall), by omega, fun H6 S6 => ⟨_, rfl, ?_⟩⟩
                have S56 := S5.trans S6
                cases hasc : ascB es with
                | false =>
                  refine if_t rfl (q0 H6 S56 ?_)
                  show (tupOf 0 (intOf (.int n)) (.tuple es) && (es.all (btw 0 (n - 1)) && ascB es)) = false
                  rw [hasc, Bool.and_false, Bool.and_false]
                | true =>
                  have hlen := asc_len (by omega) hall hasc
                  have qq : ∀ H' : Hp, Same H H' → Q (.int (permN n.toNat es.length (es.length + 1))) H' := fun H' S => q1 H' S (by
                    show (tupOf 0 (intOf (.int n)) (.tuple es) && (es.all (btw 0 (n - 1)) && ascB es)) = true
                    rw [eQ, hall, hasc, decide_eq_true (by omega), decide_eq_true (by omega)]
                    rfl)
                  refine if_f rfl ⟨(by show 1 ≤ sizeLine; decide), fun M nM => ?_⟩
                  have S7 := S56.trans (same_new (o := HO.lst [V.int 1]) nM)
                  have hM : upd H6 M (.lst [V.int 1]) M = some (.lst ([1].map V.int)) := upd_same
                  have nM' : H M = none := S56.free nM
                  generalize upd H6 M (.lst [V.int 1]) = H7 at S7 hM ⊢
                  refine ⟨_, rfl, a, _, _, _, rfl, rfl, SqT.of (S7 _ _ ha), atI_nat (j := 1) rfl, _, _, rfl, rfl, 1, n + 1, rfl, ⟨by omega, by omega, by omega, by omega⟩, for_range (lo := 1) (n := (n + 1 - 1).toNat) (fun i σ Hx => ∃ (rs : List Int) (x2 : Option V), σ = [some (.ref a), some (.ref M), x2, none, none] ∧ Same H Hx ∧ Hx M = some (.lst (rs.map V.int)) ∧ rs.length = i + 1 ∧ (∀ r ∈ rs, r.natAbs ≤ 64 ^ i) ∧ rs = (List.range (i + 1)).map fun k : Nat => ((fac k : Nat) : Int))
                    ⟨[1], none, rfl, S7, hM, rfl, by simp, rfl⟩ ?_ ?_⟩
                  · rintro i σ Hx hi ⟨rs, x2, rfl, S, hm, hrl, hrb, hrv⟩
                    obtain ⟨r, hr1, hr3, hr2⟩ := ints_last (rs := rs) (by omega)
                    have rb := hrb r hr1
                    have pb : 64 ^ i ≤ 2 ^ (6 * i) := pow_bits (by decide)
                    have pc : (2 : Nat) ^ (6 * i) < 2 ^ 400 := Nat.pow_lt_pow_right (by decide) (by omega)
                    refine ⟨_, rfl, .inl ⟨rfl, _, SqL.of hm⟩, _, rfl, _, rfl, M, _, _, V.int r, rfl, rfl, SqL.of hm, hr2, _, rfl, _, _, rfl, rfl, wide_mul (a := 400) (b := 10) (by omega) (by omega) (by decide) (by decide) (by decide), M, _, _, rfl, rfl, hm, by rw [List.length_map, sizeLine_eq]; omega, rs ++ [r * (1 + (i : Int))], _, rfl, keepNew nM' S, ?_, ?_, ?_, ?_⟩
                    · rw [upd_same, List.map_append]
                      rfl
                    · rw [List.length_append, hrl]
                      rfl
                    · intro r2 h2
                      rcases List.mem_append.mp h2 with z | z
                      · exact Nat.le_trans (hrb r2 z) (Nat.pow_le_pow_right (by decide) (by omega))
                      · rw [List.mem_singleton.mp z, Int.natAbs_mul, Nat.pow_succ]
                        exact Nat.mul_le_mul rb (by omega)
                    · have er : r = ((fac i : Nat) : Int) := by
                        rw [hrl, Nat.add_sub_cancel, hrv, List.getElem?_map, List.getElem?_range (by omega)] at hr3
                        exact (Option.some.inj hr3).symm
                      rw [hrv, List.range_succ (n := i + 1), List.map_append, er]
                      congr 1
                      show [((fac i : Nat) : Int) * (1 + (i : Int))] = [((fac (i + 1) : Nat) : Int)]
                      rw [fac_succ, Int.natCast_mul]
                      congr 2
                      omega
                  · rintro σ H8 ⟨rs, x2, rfl, S8, hm, hrl, hrb, hrv⟩
                    refine ⟨_, rfl, a, _, _, _, rfl, rfl, SqT.of (S8 _ _ ha), atI_nat (j := 2) rfl, b, ys, rfl, .inr (SqT.of (S8 _ _ hb)), ((ys.length : Nat) : Int), rfl, by omega, by omega, for_range (n := (((ys.length : Nat) : Int)).toNat) (fun i σ Hx => ∃ (m : Addr) (rs : List Int) (x2 x3 : Option V), σ = [some (.ref a), some (.ref m), x2, x3, none] ∧ Same H Hx ∧ Hx m = some (.lst (rs.map V.int)) ∧ rs.length = n.toNat + 1 ∧ ∀ k : Nat, i ≤ k → k ≤ n.toNat → rs[k]? = some (permN k i (i + 1)))
                      ⟨M, rs, x2, none, rfl, S8, hm, by omega, fun k _ hk => by rw [hrv, List.getElem?_map, List.getElem?_range (by omega), perm_zero]; rfl⟩ ?_ ?_⟩
                    · rintro i σ Hx hi ⟨m, ls, y2, y3, rfl, S, hm2, hls, hlv⟩
                      refine ⟨(by show 1 ≤ sizeLine; decide), fun u nu => ?_⟩
                      have Su := same_new (o := HO.lst [V.int 0]) nu
                      have hu : upd Hx u (.lst [V.int 0]) u = some (.lst ([0].map V.int)) := upd_same
                      generalize upd Hx u (.lst [V.int 0]) = H9 at Su hu ⊢
                      have hm3 := Su _ _ hm2
                      refine ⟨_, rfl, m, _, rfl, .inl (SqL.of hm3), 1, (((ls.map V.int).length : Nat) : Int), rfl, ⟨by omega, by omega, by omega, by rw [List.length_map]; omega⟩, fun M2 nM2 => lc_it (walk_range (lo := 1) (n := ((((ls.map V.int).length : Nat) : Int) - 1).toNat)) (fun j Hy => Same H9 Hy ∧ ∃ ks : List Int, Hy M2 = some (.lst (ks.map V.int)) ∧ ks.length = j ∧ ∀ k : Nat, i ≤ k → k < j → ks[k]? = some (permN (k + 1) (i + 1) (i + 2))) ⟨same_new nM2, [], upd_same, rfl, fun k _ hk => by omega⟩ (fun _ _ _ _ => trivial) ?_ ?_⟩
                      · rintro j y Hy Hz hj ⟨Sy, ks, hD2, hl2, hkv⟩ ⟨rfl, rfl⟩
                        rw [List.length_map] at hj
                        obtain ⟨p, ep, hp⟩ := ints_at (rs := ls) (j := j + 1) (by omega)
                        obtain ⟨r, er, hr2⟩ := ints_at (rs := ls) (j := j) (by omega)
                        refine ⟨rfl, _, rfl, _, rfl, m, _, _, V.int p, rfl, rfl, SqL.of (Sy _ _ hm3), ?_, _, rfl, _, rfl, _, _, rfl, rfl, m, _, _, V.int r, rfl, rfl, SqL.of (Sy _ _ hm3), ?_, _, _, rfl, rfl, _, hD2, ?_, grow nM2 Sy, ks ++ [p - r], ?_, ?_, ?_⟩
                        · rw [show (1 : Int) + (j : Int) = ((j + 1 : Nat) : Int) by omega]
                          exact hp
                        · rw [show (1 : Int) + (j : Int) - 1 = ((j : Nat) : Int) by omega]
                          exact hr2
                        · rw [List.length_map, sizeLine_eq]
                          omega
                        · rw [upd_same, List.map_append]
                          rfl
                        · rw [List.length_append, hl2]
                          rfl
                        · intro k hk1 hk2
                          by_cases c : k < j
                          · rw [List.getElem?_append_left (by omega)]
                            exact hkv k hk1 c
                          · obtain rfl : k = j := by omega
                            rw [List.getElem?_append_right (by omega), hl2, Nat.sub_self]
                            rw [hlv (k + 1) (by omega) (by omega)] at ep
                            rw [hlv k hk1 (by omega)] at er
                            obtain rfl := Option.some.inj ep
                            obtain rfl := Option.some.inj er
                            show some (permN (k + 1) i (i + 1) - permN k i (i + 1)) = _
                            rw [perm_diff]
                      · rintro H10 ⟨S10, ks, hD2, hl2, hkv⟩
                        rw [List.length_map] at hl2 hkv
                        refine ⟨u, M2, _, _, rfl, rfl, S10 _ _ hu, hD2, ?_, fun u2 nu2 => ⟨u2, 0 :: ks, _, _, rfl, ((S.trans Su).trans S10).trans (same_new nu2), ?_, ?_, ?_⟩⟩
                        · rw [List.length_map, List.length_map, sizeLine_eq]
                          show 1 + ks.length ≤ _
                          omega
                        · rw [upd_same]
                          rfl
                        · rw [List.length_cons]
                          omega
                        · intro k hk1 hk2
                          obtain ⟨k', rfl⟩ : ∃ k', k = k' + 1 := ⟨k - 1, by omega⟩
                          rw [List.getElem?_cons_succ]
                          exact hkv k' (by omega) (by omega)
                    · rintro σ Hx ⟨m, ls, y2, y3, rfl, S, hm2, hls, hlv⟩
                      obtain ⟨r, _, hr3, hr2⟩ := ints_last (rs := ls) (by omega)
                      have qr := qq Hx S
                      rw [hls, Nat.add_sub_cancel] at hr3
                      have ei : (((ys.length : Nat) : Int)).toNat = es.length := by omega
                      rw [ei] at hlv
                      rw [hlv n.toNat (by omega) (Nat.le_refl _)] at hr3
                      rw [Option.some.inj hr3] at qr
                      exact ⟨_, rfl, _, rfl, m, _, _, V.int r, rfl, rfl, SqL.of hm2, hr2, qr⟩
          | int i => exact if_t rfl (qn H1 S1 rfl)
          | bool b => exact if_t rfl (qn H1 S1 rfl)
          | none => exact if_t rfl (qn H1 S1 rfl)
          | str x => exact if_t rfl (qn H1 S1 rfl)
          | list ds => exact if_t rfl (qn H1 S1 rfl)
          | dict kv => exact if_t rfl (qn H1 S1 rfl)
    · rw [decide_eq_false (show ¬ ((xs.length : Nat) : Int) = 3 by omega)]
      refine if_t rfl (if_t rfl (q0 H (Same.refl H) ?_))
      show (decide (ds.length = 3) && pPerm ds) = false
      rw [decide_eq_false h3]
      rfl
end
end K3
set_option maxRecDepth 100000
set_option maxHeartbeats 8000000
namespace K3
open PySem PySem.Spec PyProof.Rows L2
/-! ### the law's leaf_size -/
abbrev s_leaf_size : Stmt := top 87
/-- a leaf that is a space -/
def leafB (d : PyData) : Bool := partB d && leafD d
theorem lookup_none {z : Str} (h : ∀ w ∈ (["subset", "word", "arrangement", "walk", "cycle", "matching", "permutation", "tree", "string"] : List Str), (z == w) = false) (hn : nestW z = false) : kinds.lookup z = none := by
  unfold nestW at hn
  rw [Bool.or_eq_false_iff, Bool.or_eq_false_iff, Bool.or_eq_false_iff] at hn
  obtain ⟨n1, n2, n3, n4⟩ := hn
  have a1 := h "subset" (by simp)
  have a2 := h "word" (by simp)
  have a3 := h "arrangement" (by simp)
  have a4 := h "walk" (by simp)
  have a5 := h "cycle" (by simp)
  have a6 := h "matching" (by simp)
  have a7 := h "permutation" (by simp)
  have a8 := h "tree" (by simp)
  have a9 := h "string" (by simp)
  simp only [kinds, List.lookup, n1, n2, n3, n4, a1, a2, a3, a4, a5, a6, a7, a8, a9]
theorem leaf_none {d0 : PyData} {ds : List PyData} (h : ∀ w ∈ (["subset", "word", "arrangement", "walk", "cycle", "matching", "permutation", "tree", "string"] : List Str), eqStr w d0 = false) : leafB (.tuple (d0 :: ds)) = false := by
  cases d0 with
  | str z =>
    cases hn : nestW z with
    | true =>
      have e : leafD (.tuple (.str z :: ds)) = !nestW z := rfl
      unfold leafB
      rw [e, hn, Bool.not_true, Bool.and_false]
    | false =>
      have e : partB (.tuple (.str z :: ds)) = match kinds.lookup z with
        | some c => decide (ds.length + 1 = c.1) && c.2 (.str z :: ds)
        | none => false := rfl
      unfold leafB
      rw [e, lookup_none h hn]
      rfl
  | _ => rfl
theorem leaf_at {z : Str} {ds : List PyData} {m : Nat} {p : List PyData → Bool} (hk : kinds.lookup z = some (m, p)) (hn : nestW z = false) : leafB (.tuple (.str z :: ds)) = (decide (ds.length + 1 = m) && p (.str z :: ds)) := by
  have e : partB (.tuple (.str z :: ds)) = match kinds.lookup z with
    | some c => decide (ds.length + 1 = c.1) && c.2 (.str z :: ds)
    | none => false := rfl
  have e2 : leafD (.tuple (.str z :: ds)) = !nestW z := rfl
  unfold leafB
  rw [e, e2, hk, hn, Bool.not_false, Bool.and_true]
/-- its size -/
def leafZ (ds : List PyData) : Int := ((leafN (.tuple ds) : Nat) : Int)
theorem leaf_int {z : Str} {ds : List PyData} (h : ∃ n : Nat, zOf z (.str z :: ds) = ((n : Nat) : Int) ∧ ((n : Nat) : Int) < big) : leafZ (.str z :: ds) = zOf z (.str z :: ds) := by
  obtain ⟨n, e, _⟩ := h
  show (((zOf z (.str z :: ds)).toNat : Nat) : Int) = _
  rw [e, Int.toNat_natCast]
theorem prod_ones (m : Nat) : prodN ((List.range m).map fun i => 1 + i) = fac m := by
  induction m with
  | zero => rfl
  | succ m ih =>
    rw [List.range_succ, List.map_append, prodN_app, ih, fac_succ]
    show fac m * ((1 + m) * 1) = _
    rw [Nat.mul_one, Nat.add_comm 1 m]
theorem prod_rep (k m : Nat) : prodN (List.replicate k m) = m ^ k := by
  induction k with
  | zero => rfl
  | succ k ih =>
    rw [List.replicate_succ]
    show m * prodN (List.replicate k m) = _
    rw [ih, Nat.pow_succ, Nat.mul_comm]
/-- a leaf of the six kinds that the law knows -/
def leaf6 (d : PyData) : Bool := leafB d && !(eqStr "arrangement" (headD d) || (eqStr "walk" (headD d) || eqStr "string" (headD d)))
theorem leaf6_at {z : Str} {ds : List PyData} {m : Nat} {p : List PyData → Bool} (hk : kinds.lookup z = some (m, p)) (hn : nestW z = false) (h6 : ((z == "arrangement") || ((z == "walk") || (z == "string"))) = false) : leaf6 (.tuple (.str z :: ds)) = (decide (ds.length + 1 = m) && p (.str z :: ds)) := by
  unfold leaf6
  rw [leaf_at hk hn]
  show (_ && !((z == "arrangement") || ((z == "walk") || (z == "string")))) = _
  rw [h6, Bool.not_false, Bool.and_true]
theorem leaf6_none {d0 : PyData} {ds : List PyData} (h : ∀ w ∈ (["subset", "word", "cycle", "matching", "permutation", "tree"] : List Str), eqStr w d0 = false) : leaf6 (.tuple (d0 :: ds)) = false := by
  unfold leaf6
  by_cases a : eqStr "arrangement" d0 = true
  · show (_ && !(eqStr "arrangement" d0 || _)) = false
    rw [a, Bool.true_or, Bool.not_true, Bool.and_false]
  by_cases b : eqStr "walk" d0 = true
  · show (_ && !(eqStr "arrangement" d0 || (eqStr "walk" d0 || _))) = false
    rw [b, Bool.true_or, Bool.or_true, Bool.not_true, Bool.and_false]
  by_cases c : eqStr "string" d0 = true
  · show (_ && !(eqStr "arrangement" d0 || (eqStr "walk" d0 || eqStr "string" d0))) = false
    rw [c, Bool.or_true, Bool.or_true, Bool.not_true, Bool.and_false]
  rw [leaf_none (fun w hw => by
    simp only [List.mem_cons, List.not_mem_nil, or_false] at hw
    rcases hw with rfl | rfl | rfl | rfl | rfl | rfl | rfl | rfl | rfl
    · exact h _ (by simp)
    · exact h _ (by simp)
    · exact Bool.not_eq_true _ ▸ a
    · exact Bool.not_eq_true _ ▸ b
    · exact h _ (by simp)
    · exact h _ (by simp)
    · exact h _ (by simp)
    · exact h _ (by simp)
    · exact Bool.not_eq_true _ ▸ c), Bool.false_and]
section
variable {P : Program} {w : World} {K : PySem.W.Frag} {mg : Str → Option Value} {base : Heap}
theorem sc_leaf_size : FnScope ["_law_thing", "_law_word", "_law_size", "_law_n", "_law_factors", "_law_factor", "_law_k"] ["_law_thing"] (defScope s_leaf_size) := ⟨rfl, rfl, rfl, by decide +kernel, rfl, by decide +kernel, by decide +kernel⟩
theorem okl_leaf {f fI fC fW fP : Addr} {fd fdI fdC fdW fdP : FuncData} (F : Fun K "_law_leaf_size" "_law_leaf_size" s_leaf_size f fd) (T : Nm mg) (Tl : mg "list" = none) (Tm : mg "max" = none)
    (D_is_int : DefOk K mg "_law_is_int" s_is_int ["_law_thing", "_law_low", "_law_high"] fI fdI) (D_choose : DefOk K mg "_law_choose" s_choose ["_law_n", "_law_k"] fC fdC)
    (D_word_size : DefOk K mg "_law_word_size" s_word_size ["_law_counts_here"] fW fdW) (G_word_size : FnOk P w K mg base CX0 2 fW fdW ["_law_counts_here"] (spOptZ countsB zCounts))
    (D_permutation_size : DefOk K mg "_law_permutation_size" s_permutation_size ["_law_thing"] fP fdP) (G_permutation_size : FnOk P w K mg base CX0 2 fP fdP ["_law_thing"] (spOptTZ permB zPerm)) : FnOk P w K mg base CX0 9 f fd ["_law_thing"] (spOptTZ leaf6 leafZ) := by
  have G_is_int : FnOk P w K mg base CX0 1 fI fdI ["_law_thing", "_law_low", "_law_high"] spBtw := okl_int D_is_int.F T
  have G_choose : FnOk P w K mg base CX0 1 fC fdC ["_law_n", "_law_k"] spChoose := okl_choose D_choose.F T
  refine F.ok sc_leaf_size (fun vs H Q E h => ?_) (fun cdv A outer s H vs Q E hr h => ?_)
  · obtain ⟨a, xs, ds, rfl, _⟩ := h
    rfl
  · obtain ⟨a, xs, ds, rfl, ha, hx, l1, lm, li, q0, q1⟩ := h
    have hu0 := hr.units0
    have hu1 := hu_of hr
    have hr1 : Room 1 _ := hr.mono (by decide)
    have hr2 : Room 2 _ := hr.mono (by decide)
    refine ⟨_, pss_cons (ps_par (i := 1) (j := 2) rfl sc_leaf_size.nd rfl rfl (by decide) rfl rfl (pa_cons (pe_ix ix_tup (pv 0) pe_int (fun _ _ => rfl)) (pa_cons pe_int pa_nil)) (by rfl))
      (pss_cons (ps_if (PW.pt (pw_and (pt_cmpR (op_eqStr hu0) (pv 1) pe_str (nomark _)) (pw_and (pt_cmpR op_eq (pe_callB call_len_seq (by rfl) T.len PySem.boot_len (pa_cons (pv 0) pa_nil)) pe_int (nomark _)) (pw_and (pt_val (pe_call G_is_int hr1 rfl D_is_int.g D_is_int.F.kp D_is_int.b .nil pass0 (pa_cons (pe_ix ix_tup (pv 0) pe_int (fun _ _ => rfl)) (pa_cons pe_int (pa_cons pe_int pa_nil))))) (pw_and1 (pt_val (pe_call G_is_int hr1 rfl D_is_int.g D_is_int.F.kp D_is_int.b .nil pass0 (pa_cons (pe_ix ix_tup (pv 0) pe_int (fun _ _ => rfl)) (pa_cons pe_int (pa_cons (pe_ix ix_tup (pv 0) pe_int (fun _ _ => rfl)) pa_nil))))))))))
        (pss_one (ps_ret (pe_call G_choose hr1 rfl D_choose.g D_choose.F.kp D_choose.b .nil pass0 (pa_cons (pe_ix ix_tup (pv 0) pe_int (fun _ _ => rfl)) (pa_cons (pe_ix ix_tup (pv 0) pe_int (fun _ _ => rfl)) pa_nil)))))
        pss_nil)
      (pss_cons (ps_if (pt_cmpR (op_eqStr hu0) (pv 1) pe_str (nomark _))
        (pss_one (ps_ret (pe_ifExp (pt_cmpR op_eq (pe_callB call_len_seq (by rfl) T.len PySem.boot_len (pa_cons (pv 0) pa_nil)) pe_int (nomark _)) (pe_call G_word_size hr2 rfl D_word_size.g D_word_size.F.kp D_word_size.b .nil pass0 (pa_cons (pe_ix ix_tup (pv 0) pe_int (fun _ _ => rfl)) pa_nil)) pe_non)))
        pss_nil)
      (pss_cons (ps_if (pt_cmpR (op_eqStr hu0) (pv 1) pe_str (nomark _))
        (pss_one (ps_ret (pe_call G_permutation_size hr2 rfl D_permutation_size.g D_permutation_size.F.kp D_permutation_size.b .nil pass0 (pa_cons (pv 0) pa_nil))))
        pss_nil)
      (pss_cons (ps_if (PW.pt (pw_or (pt_cmpR (op_notInStrs hu1) (pv 1) (pe_tup (pa_cons pe_str (pa_cons pe_str (pa_cons pe_str pa_nil)))) rfl) (pw_or1 (pt_cmpR op_ne (pe_callB call_len_seq (by rfl) T.len PySem.boot_len (pa_cons (pv 0) pa_nil)) pe_int (nomark _)))))
        (pss_one (ps_ret pe_non))
        pss_nil)
      (pss_cons (ps_set (i := 3) sc_leaf_size.nd rfl (Or.inl rfl) (pe_ix ix_tup (pv 0) pe_int (fun _ _ => rfl)))
      (pss_cons (ps_if (pt_not (pt_val (pe_call G_is_int hr1 rfl D_is_int.g D_is_int.F.kp D_is_int.b .nil pass0 (pa_cons (pv 3) (pa_cons (pe_callTy call_int1 (by rfl) T.int (by decide +kernel) (pa_cons (pe_cmpR op_ne (pv 1) pe_str (nomark _)) pa_nil)) (pa_cons (pe_ifExp (pt_cmpR (op_eqStr hu0) (pv 1) pe_str (nomark _)) pe_int pe_int) pa_nil))))))
        (pss_one (ps_ret pe_non))
        pss_nil)
      (pss_cons (ps_set (i := 4) sc_leaf_size.nd rfl (Or.inl rfl) (pe_ifExp (pt_cmpR (op_eqStr hu0) (pv 1) pe_str (nomark _)) (pe_listRg rfl (by rfl) Tl (prg_2 (by rfl) T.range pe_int (pv 3))) (pe_op op_rep (pe_lst (pa_cons (pv 3) pa_nil)) (pe_callB (call_max2 rfl) (by rfl) Tm (by decide +kernel) (pa_cons pe_int (pa_cons (pe_op op_sub (pv 3) pe_int) pa_nil))))))
      (pss_cons (ps_for PassesOwn.never rfl (pi_list (pe_ifExp (pt_cmpR (op_eqStr hu0) (pv 1) pe_str (nomark _)) (pe_lc (own := [("_law_k", 6)]) (g := (gName 6)) (tt := tYes) rfl sc_leaf_size.nd (pi_range1 rfl T.range (pa_cons (pv 3) pa_nil)) (blkOk_by (N := ["_law_thing", "_law_word", "_law_size", "_law_n", "_law_factors", "_law_factor", "_law_k"]) (sc := defScope s_leaf_size) (by decide +kernel))
          (fun _ _ _ _ _ => (pg_name (i := 6) sc_leaf_size.nd rfl (Or.inl rfl))) (fun _ _ _ _ _ => pts_nil) (fun _ _ _ _ _ => (pe_op op_add (pe_op op_mul pe_int (pv 6)) pe_int))) (pv 4))) (pg_name (i := 5) sc_leaf_size.nd rfl (Or.inl rfl))
        (pss_one (ps_set (i := 2) sc_leaf_size.nd rfl (Or.inl rfl) (pe_op op_mulW (pv 2) (pv 5)))))
      (pss_one (ps_ret (pv 2))))))))))), ?_⟩
    match ds, l1, hx with
    | d0 :: ds, _, .cons (v := x0) (vs := xs) c0 cs =>
     have hl : xs.length = ds.length := cs.len
     refine ⟨_, rfl, a, _, _, x0, rfl, rfl, SqT.of ha, atI_nat (j := 0) rfl, _, _, rfl, ?_⟩
     have words : d0 = .str "subset" ∨ d0 = .str "word" ∨ d0 = .str "permutation" ∨ d0 = .str "cycle" ∨ d0 = .str "matching" ∨ d0 = .str "tree" ∨ ∀ w ∈ (["subset", "word", "cycle", "matching", "permutation", "tree"] : List Str), eqStr w d0 = false := by
       cases d0 with
       | str z =>
         by_cases a1 : z = "subset"
         · exact .inl (by rw [a1])
         by_cases a2 : z = "word"
         · exact .inr (.inl (by rw [a2]))
         by_cases a6 : z = "permutation"
         · exact .inr (.inr (.inl (by rw [a6])))
         by_cases a7 : z = "cycle"
         · exact .inr (.inr (.inr (.inl (by rw [a7]))))
         by_cases a8 : z = "matching"
         · exact .inr (.inr (.inr (.inr (.inl (by rw [a8])))))
         by_cases a9 : z = "tree"
         · exact .inr (.inr (.inr (.inr (.inr (.inl (by rw [a9]))))))
         refine .inr (.inr (.inr (.inr (.inr (.inr fun w hw => ?_)))))
         show (z == w) = false
         refine beq_eq_false_iff_ne.mpr fun e => ?_
         subst e
         simp only [List.mem_cons, List.not_mem_nil, or_false] at hw
         rcases hw with h | h | h | h | h | h
         · exact a1 h
         · exact a2 h
         · exact a7 h
         · exact a8 h
         · exact a6 h
         · exact a9 h
       | _ => exact .inr (.inr (.inr (.inr (.inr (.inr fun w _ => rfl)))))
     rcases words with rfl | rfl | rfl | rfl | rfl | rfl | nw
     · have eL := leaf6_at (ds := ds) (m := 3) (p := pSubset) (show kinds.lookup ("subset" : Str) = some (3, pSubset) from rfl) (show nestW "subset" = false from rfl) rfl
       rw [eL] at q0 q1
       refine ⟨_, rfl, .str "subset", "subset", c0, rfl, _, rfl, if_t rfl ⟨_, rfl, a, _, rfl, .inr (SqT.of ha), rfl, _, rfl, ?_⟩⟩
       rw [dec_int]
       by_cases h3 : ds.length + 1 = 3
       · rw [decide_eq_true (show (((x0 :: xs).length : Nat) : Int) = 3 by rw [List.length_cons]; omega)]
         rw [decide_eq_true h3, Bool.true_and] at q0 q1
         match ds, h3, cs with
         | [d1, d2], _, .cons (v := x1) c1 (.cons (v := x2) c2 .nil) =>
           have eP : pSubset [.str "subset", d1, d2] = (btw 0 400 d1 && btw 0 (intOf d1) d2) := rfl
           rw [eP] at q0 q1
           refine if_t rfl ⟨_, rfl, a, _, _, x1, rfl, rfl, SqT.of ha, atI_nat (j := 1) rfl, x1, d1, 0, 400, rfl, c1, fun H1 S1 => ⟨_, rfl, ?_⟩⟩
           cases b1 : btw 0 400 d1 with
           | false => exact if_f rfl (if_f rfl ⟨_, rfl, .str "subset", "word", c0.same S1, rfl, _, rfl, if_f rfl ⟨_, rfl, .str "subset", "permutation", c0.same S1, rfl, _, rfl, if_f rfl ⟨_, rfl, (by show 3 ≤ sizeLine; decide), fun p np => ⟨.str "subset", p, ["cycle", "matching", "tree"], (c0.same S1).same (same_new np), rfl, upd_same, _, rfl, if_t rfl (if_t rfl (q0 _ (S1.trans (same_new np)) (by rw [b1]; rfl)))⟩⟩⟩⟩)
           | true =>
             rw [b1, Bool.true_and] at q0 q1
             obtain ⟨n, rfl, n0, n4⟩ := btw_int b1
             obtain rfl := dat_int c1
             refine if_t rfl ⟨_, rfl, a, _, _, x2, rfl, rfl, SqT.of (S1 _ _ ha), atI_nat (j := 2) rfl, _, rfl, a, _, _, V.int n, rfl, rfl, SqT.of (S1 _ _ ha), atI_nat (j := 1) rfl, x2, d2, 0, n, rfl, c2.same S1, fun H2 S2 => ⟨_, rfl, ?_⟩⟩
             have S12 := S1.trans S2
             cases b2 : btw 0 n d2 with
             | false => exact if_f rfl ⟨_, rfl, .str "subset", "word", c0.same S12, rfl, _, rfl, if_f rfl ⟨_, rfl, .str "subset", "permutation", c0.same S12, rfl, _, rfl, if_f rfl ⟨_, rfl, (by show 3 ≤ sizeLine; decide), fun p np => ⟨.str "subset", p, ["cycle", "matching", "tree"], (c0.same S12).same (same_new np), rfl, upd_same, _, rfl, if_t rfl (if_t rfl (q0 _ (S12.trans (same_new np)) b2))⟩⟩⟩⟩
             | true =>
               obtain ⟨k, rfl, k0, kn⟩ := btw_int b2
               obtain rfl := dat_int c2
               obtain ⟨n', rfl⟩ : ∃ m : Nat, n = m := ⟨n.toNat, by omega⟩
               obtain ⟨k', rfl⟩ : ∃ m : Nat, k = m := ⟨k.toNat, by omega⟩
               refine if_t rfl ⟨_, rfl, a, _, _, V.int n', rfl, rfl, SqT.of (S12 _ _ ha), atI_nat (j := 1) rfl, _, rfl, a, _, _, V.int k', rfl, rfl, SqT.of (S12 _ _ ha), atI_nat (j := 2) rfl, n', k', rfl, by omega, by omega, fun H3 S3 _ => ?_⟩
               have z := q1 H3 (S12.trans S3) b2
               have ez : leafZ [.str "subset", .int (n' : Nat), .int (k' : Nat)] = ((chN n' k' : Nat) : Int) := by
                 show (((PySem.W.mcComb (n' : Int) (k' : Int)).toNat : Nat) : Int) = _
                 rw [comb_ch (by omega), Int.toNat_natCast]
               rw [ez] at z
               exact z
       · rw [decide_eq_false (show ¬ (((x0 :: xs).length : Nat) : Int) = 3 by rw [List.length_cons]; omega)]
         exact if_f rfl (if_f rfl ⟨_, rfl, .str "subset", "word", c0, rfl, _, rfl, if_f rfl ⟨_, rfl, .str "subset", "permutation", c0, rfl, _, rfl, if_f rfl ⟨_, rfl, (by show 3 ≤ sizeLine; decide), fun p np => ⟨.str "subset", p, ["cycle", "matching", "tree"], (c0).same (same_new np), rfl, upd_same, _, rfl, if_t rfl (if_t rfl (q0 _ (same_new np) (by rw [decide_eq_false h3]; rfl)))⟩⟩⟩⟩)
     · have eL := leaf6_at (ds := ds) (m := 2) (p := pWord) (show kinds.lookup ("word" : Str) = some (2, pWord) from rfl) (show nestW "word" = false from rfl) rfl
       rw [eL] at q0 q1
       refine ⟨_, rfl, .str "word", "subset", c0, rfl, _, rfl, if_f rfl (if_f rfl ⟨_, rfl, .str "word", "word", c0, rfl, _, rfl, if_t rfl ⟨_, rfl, a, _, rfl, .inr (SqT.of ha), rfl, _, rfl, ?_⟩⟩)⟩
       rw [dec_int]
       by_cases h2 : ds.length + 1 = 2
       · rw [decide_eq_true (show (((x0 :: xs).length : Nat) : Int) = 2 by rw [List.length_cons]; omega)]
         rw [decide_eq_true h2, Bool.true_and] at q0 q1
         match ds, h2, cs with
         | [d1], _, .cons (v := x1) c1 .nil =>
           exact if_t rfl ⟨_, rfl, a, _, _, x1, rfl, rfl, SqT.of ha, atI_nat (j := 1) rfl, x1, d1, rfl, c1, fun H1 S1 z => q0 H1 S1 z, fun H1 S1 z => by
             have y := q1 H1 S1 z
             rw [leaf_int (z := "word") (ds := [d1]) (zb_word [.str "word", d1] z)] at y
             exact y⟩
       · rw [decide_eq_false (show ¬ (((x0 :: xs).length : Nat) : Int) = 2 by rw [List.length_cons]; omega)]
         exact if_f rfl (q0 H (Same.refl H) (by rw [decide_eq_false h2]; rfl))
     · have eL := leaf6_at (ds := ds) (m := 3) (p := pPerm) (show kinds.lookup ("permutation" : Str) = some (3, pPerm) from rfl) (show nestW "permutation" = false from rfl) rfl
       rw [eL] at q0 q1
       exact ⟨_, rfl, .str "permutation", "subset", c0, rfl, _, rfl, if_f rfl (if_f rfl ⟨_, rfl, .str "permutation", "word", c0, rfl, _, rfl, if_f rfl ⟨_, rfl, .str "permutation", "permutation", c0, rfl, _, rfl, if_t rfl ⟨_, rfl, a, x0 :: xs, .str "permutation" :: ds, rfl, ha, .cons c0 cs, (by rw [List.length_cons]; omega), lm, li, fun H1 S1 z => q0 H1 S1 z, fun H1 S1 z => by
         have y := q1 H1 S1 z
         have z2 : (decide (ds.length + 1 = 3) && pPerm (.str "permutation" :: ds)) = true := z
         rw [Bool.and_eq_true] at z2
         rw [leaf_int (z := "permutation") (ds := ds) (zb_perm (.str "permutation" :: ds) z2.2)] at y
         exact y⟩⟩⟩)⟩
     · have eL := leaf6_at (ds := ds) (m := 2) (p := pCycle) (show kinds.lookup ("cycle" : Str) = some (2, pCycle) from rfl) (show nestW "cycle" = false from rfl) rfl
       rw [eL] at q0 q1
       refine ⟨_, rfl, .str "cycle", "subset", c0, rfl, _, rfl, if_f rfl (if_f rfl ⟨_, rfl, .str "cycle", "word", c0, rfl, _, rfl, if_f rfl ⟨_, rfl, .str "cycle", "permutation", c0, rfl, _, rfl, if_f rfl ⟨_, rfl, (by show 3 ≤ sizeLine; decide), fun p np => ⟨.str "cycle", p, ["cycle", "matching", "tree"], c0.same (same_new np), rfl, upd_same, _, rfl, if_f rfl ?_⟩⟩⟩⟩)⟩
       have Sp := same_new (o := HO.tup [V.str "cycle", V.str "matching", V.str "tree"]) np
       generalize upd H p (.tup [V.str "cycle", V.str "matching", V.str "tree"]) = H1 at Sp ⊢
       refine ⟨_, rfl, a, _, rfl, .inr (SqT.of (Sp _ _ ha)), rfl, _, rfl, ?_⟩
       rw [dec_int]
       by_cases h2 : ds.length + 1 = 2
       · rw [decide_eq_true (show (((x0 :: xs).length : Nat) : Int) = 2 by rw [List.length_cons]; omega)]
         rw [decide_eq_true h2, Bool.true_and] at q0 q1
         match ds, h2, cs with
         | [d1], _, .cons (v := x1) c1 .nil =>
           cases c0 with
           | str _ hz =>
             have cW : ∀ Hx, Dat Hx (.str "cycle") (.str "cycle") := fun Hx => .str _ hz
             refine if_f rfl ⟨_, rfl, a, _, _, x1, rfl, rfl, SqT.of (Sp _ _ ha), atI_nat (j := 1) rfl, _, rfl, _, rfl, rfl, .inr ⟨_, rfl, _, rfl, .str "cycle", "matching", cW _, rfl, _, rfl, if_f rfl ⟨x1, d1, 1, 400, rfl, c1.same Sp, fun H2 S2 => ⟨_, rfl, ?_⟩⟩⟩⟩
             have S12 := Sp.trans S2
             cases hb : btw 1 400 d1 with
             | false => exact if_t rfl (q0 H2 S12 hb)
             | true =>
               obtain ⟨n, rfl, n0, n4⟩ := btw_int hb
               obtain rfl := dat_int c1
               obtain ⟨m, rfl⟩ : ∃ m : Nat, n = m := ⟨n.toNat, by omega⟩
               have qq : ∀ H' : Hp, Same H H' → Q (.int (leafN (.tuple [.str "cycle", .int (m : Nat)]) : Nat)) H' := fun H' S => q1 H' S hb
               refine if_f rfl ?_
               refine ⟨_, rfl, .str "cycle", "cycle", cW _, rfl, _, rfl, if_t rfl ⟨_, rfl, 1, (m : Int), rfl, rfl, ⟨by omega, by omega, by omega, by omega, by omega⟩, fun L nL => ?_⟩⟩
               have eR : rgV 1 (m : Int) = vints ((List.range ((m : Int) - 1).toNat).map fun i => 1 + i) := by
                 unfold rgV vints
                 rw [List.map_map]
                 refine List.map_congr_left fun k _ => ?_
                 show V.int (1 + (k : Int)) = V.int (((1 + k : Nat) : Nat) : Int)
                 congr 1
               rw [eR]
               have hL : upd H2 L (.lst (vints ((List.range ((m : Int) - 1).toNat).map fun i => 1 + i))) L = some (.lst (vints ((List.range ((m : Int) - 1).toNat).map fun i => 1 + i))) := upd_same
               have SL := S12.trans (same_new (o := HO.lst (vints ((List.range ((m : Int) - 1).toNat).map fun i => 1 + i))) nL)
               have bn : ∀ k ∈ (List.range ((m : Int) - 1).toNat).map (fun i => 1 + i), k ≤ 512 := fun k hk => by
                 obtain ⟨i, hi, rfl⟩ := List.mem_map.mp hk
                 have := List.mem_range.mp hi
                 omega
               have ln : ((List.range ((m : Int) - 1).toNat).map fun i => 1 + i).length ≤ 500 := by
                 rw [List.length_map, List.length_range]
                 omega
               have hv : prodN ((List.range ((m : Int) - 1).toNat).map fun i => 1 + i) = leafN (.tuple [.str "cycle", .int (m : Nat)]) := by
                 rw [prod_ones]
                 show _ = (((fac ((m : Int) - 1).toNat : Nat) : Int)).toNat
                 rw [Int.toNat_natCast]
               generalize (List.range ((m : Int) - 1).toNat).map (fun i => 1 + i) = ns at hL SL bn ln hv ⊢
               generalize upd H2 L (.lst (vints ns)) = H5 at hL SL ⊢
               refine ⟨_, rfl, .str "cycle", "matching", cW _, rfl, _, rfl, if_f rfl ⟨_, rfl, L, rfl, ⟨_, SqL.of hL⟩, ?_⟩⟩
               refine for_list (K := K) (a := L) (xs := vints ns) (fun i σ Hx => ∃ (sz : Nat) (y0 y1 y3 y4 y5 y6 : Option V), σ = [y0, y1, some (.int (sz : Nat)), y3, y4, y5, y6] ∧ Hx = H5 ∧ sz ≤ 512 ^ i ∧ sz = prodN (ns.take i)) ⟨1, _, _, _, _, _, _, rfl, rfl, Nat.le_refl _, rfl⟩ (fun i σ Hx _ ⟨_, _, _, _, _, _, _, _, e, _⟩ => by rw [e]; exact SqL.of hL) ?_ ?_
               · rintro i y σ Hx hi ⟨sz, y0, y1, y3, y4, y5, y6, rfl, rfl, hsz, hpr⟩
                 have hi2 : i < ns.length := by
                   have := (List.getElem?_eq_some_iff.mp hi).1
                   rw [vints_len] at this
                   exact this
                 have ey : y = V.int ((ns[i] : Nat) : Int) := by
                   unfold vints at hi
                   rw [List.getElem?_map, List.getElem?_eq_getElem hi2] at hi
                   exact (Option.some.inj hi).symm
                 subst ey
                 have bk := bn ns[i] (List.getElem_mem hi2)
                 have b1 : sz ≤ 2 ^ (9 * i) := Nat.le_trans hsz (pow_bits (by decide))
                 have b2 : (2 : Nat) ^ (9 * i) < 2 ^ 5000 := Nat.pow_lt_pow_right (by decide) (by omega)
                 refine ⟨_, rfl, _, rfl, _, _, rfl, rfl, wide_mul (a := 5000) (b := 10) (by rw [Int.natAbs_natCast]; omega) (by rw [Int.natAbs_natCast]; omega) (by decide) (by decide) (by decide), sz * ns[i], y0, y1, y3, y4, some (V.int ((ns[i] : Nat) : Int)), y6, ?_, rfl, ?_, ?_⟩
                 · show [y0, y1, some (V.int ((sz : Int) * ((ns[i] : Nat) : Int))), y3, y4, some (V.int ((ns[i] : Nat) : Int)), y6] = _
                   rw [Int.natCast_mul]
                 · rw [Nat.pow_succ]
                   exact Nat.mul_le_mul hsz bk
                 · rw [hpr, prod_take (List.getElem?_eq_getElem hi2)]
               · rintro σ Hx ⟨sz, y0, y1, y3, y4, y5, y6, rfl, rfl, hsz, hpr⟩
                 have z := qq Hx SL
                 rw [vints_len, List.take_length] at hpr
                 rw [← hv, ← hpr] at z
                 exact ⟨_, rfl, z⟩
       · rw [decide_eq_false (show ¬ (((x0 :: xs).length : Nat) : Int) = 2 by rw [List.length_cons]; omega)]
         exact if_t rfl (q0 H1 Sp (by rw [decide_eq_false h2]; rfl))
     · have eL := leaf6_at (ds := ds) (m := 2) (p := pMatching) (show kinds.lookup ("matching" : Str) = some (2, pMatching) from rfl) (show nestW "matching" = false from rfl) rfl
       rw [eL] at q0 q1
       refine ⟨_, rfl, .str "matching", "subset", c0, rfl, _, rfl, if_f rfl (if_f rfl ⟨_, rfl, .str "matching", "word", c0, rfl, _, rfl, if_f rfl ⟨_, rfl, .str "matching", "permutation", c0, rfl, _, rfl, if_f rfl ⟨_, rfl, (by show 3 ≤ sizeLine; decide), fun p np => ⟨.str "matching", p, ["cycle", "matching", "tree"], c0.same (same_new np), rfl, upd_same, _, rfl, if_f rfl ?_⟩⟩⟩⟩)⟩
       have Sp := same_new (o := HO.tup [V.str "cycle", V.str "matching", V.str "tree"]) np
       generalize upd H p (.tup [V.str "cycle", V.str "matching", V.str "tree"]) = H1 at Sp ⊢
       refine ⟨_, rfl, a, _, rfl, .inr (SqT.of (Sp _ _ ha)), rfl, _, rfl, ?_⟩
       rw [dec_int]
       by_cases h2 : ds.length + 1 = 2
       · rw [decide_eq_true (show (((x0 :: xs).length : Nat) : Int) = 2 by rw [List.length_cons]; omega)]
         rw [decide_eq_true h2, Bool.true_and] at q0 q1
         match ds, h2, cs with
         | [d1], _, .cons (v := x1) c1 .nil =>
           cases c0 with
           | str _ hz =>
             have cW : ∀ Hx, Dat Hx (.str "matching") (.str "matching") := fun Hx => .str _ hz
             refine if_f rfl ⟨_, rfl, a, _, _, x1, rfl, rfl, SqT.of (Sp _ _ ha), atI_nat (j := 1) rfl, _, rfl, _, rfl, rfl, .inr ⟨_, rfl, _, rfl, .str "matching", "matching", cW _, rfl, _, rfl, if_t rfl ⟨x1, d1, 0, 200, rfl, c1.same Sp, fun H2 S2 => ⟨_, rfl, ?_⟩⟩⟩⟩
             have S12 := Sp.trans S2
             cases hb : btw 0 200 d1 with
             | false => exact if_t rfl (q0 H2 S12 hb)
             | true =>
               obtain ⟨n, rfl, n0, n4⟩ := btw_int hb
               obtain rfl := dat_int c1
               obtain ⟨m, rfl⟩ : ∃ m : Nat, n = m := ⟨n.toNat, by omega⟩
               have qq : ∀ H' : Hp, Same H H' → Q (.int (leafN (.tuple [.str "matching", .int (m : Nat)]) : Nat)) H' := fun H' S => q1 H' S hb
               refine if_f rfl ?_
               refine ⟨_, rfl, .str "matching", "cycle", cW _, rfl, _, rfl, if_f rfl ⟨_, rfl, (by show 1 ≤ sizeLine; decide), fun u nu => ⟨_, rfl, _, _, rfl, rfl, _, _, rfl, u, _, _, rfl, rfl, upd_same, ?_, ?_, ?_, fun L nL => ?_⟩⟩⟩
               · show -(2 ^ 63) ≤ (if (m : Int) - 2 > 0 then (m : Int) - 2 else 0)
                 split <;> omega
               · show (if (m : Int) - 2 > 0 then (m : Int) - 2 else 0) < 2 ^ 63
                 split <;> omega
               · show 1 * (if (m : Int) - 2 > 0 then (m : Int) - 2 else 0).toNat ≤ sizeLine
                 rw [sizeLine_eq]
                 split <;> omega
               have SL0 := (S12.trans (same_new (o := HO.lst [V.int (m : Int)]) nu)).trans (same_new (o := HO.lst (List.replicate (if (m : Int) - 2 > 0 then (m : Int) - 2 else 0).toNat [V.int (m : Int)]).flatten) nL)
               generalize upd (upd H2 u (.lst [V.int (m : Int)])) L (.lst (List.replicate (if (m : Int) - 2 > 0 then (m : Int) - 2 else 0).toNat [V.int (m : Int)]).flatten) = H4 at SL0 ⊢
               refine ⟨_, rfl, .str "matching", "matching", cW _, rfl, _, rfl, if_t rfl ⟨_, rfl, (m : Int), rfl, by omega, by omega, fun D nD => lc_it (walk_range (lo := 0) (n := ((m : Nat) : Int).toNat)) (fun j Hx => Same H4 Hx ∧ ∃ ns : List Nat, Hx D = some (.lst (vints ns)) ∧ ns.length = j ∧ (∀ k ∈ ns, k ≤ 512) ∧ ns = (List.range j).map fun k => 1 + k * 2) ⟨same_new nD, [], upd_same, rfl, by simp, rfl⟩ (fun _ _ _ _ => trivial) ?_ ?_⟩⟩
               · rintro j y Hx Hy hj ⟨Sx, ns, hD, hl2, hk, hnv⟩ ⟨rfl, rfl⟩
                 refine ⟨rfl, _, rfl, _, _, rfl, rfl, .inl ⟨by decide, by decide⟩, _, _, rfl, rfl, _, hD, ?_, grow nD Sx, ns ++ [2 * j + 1], ?_, ?_, ?_, ?_⟩
                 · rw [vints_len, sizeLine_eq]
                   omega
                 · rw [upd_same, ← vints_app]
                   congr 3
                   show [V.int (2 * (0 + (j : Int)) + 1)] = [V.int ((2 * j + 1 : Nat) : Int)]
                   congr 2
                   omega
                 · rw [List.length_append, hl2]
                   rfl
                 · intro k hk2
                   rcases List.mem_append.mp hk2 with z | z
                   · exact hk k z
                   · rw [List.mem_singleton.mp z]
                     omega
                 · rw [hnv, List.range_succ, List.map_append]
                   congr 1
                   show [2 * j + 1] = [1 + j * 2]
                   congr 1
                   omega
               rintro H5 ⟨S5, ns, hL, hl2, bn, hnv⟩
               have hv : prodN ns = leafN (.tuple [.str "matching", .int (m : Nat)]) := by
                 rw [hnv]
                 show _ = (((prodN (odds ((m : Nat) : Int).toNat) : Nat) : Int)).toNat
                 rw [Int.toNat_natCast]
                 rfl
               have SL := SL0.trans S5
               have ln : ns.length ≤ 500 := by omega
               refine ⟨D, rfl, ⟨_, SqL.of hL⟩, ?_⟩
               refine for_list (K := K) (a := D) (xs := vints ns) (fun i σ Hx => ∃ (sz : Nat) (y0 y1 y3 y4 y5 y6 : Option V), σ = [y0, y1, some (.int (sz : Nat)), y3, y4, y5, y6] ∧ Hx = H5 ∧ sz ≤ 512 ^ i ∧ sz = prodN (ns.take i)) ⟨1, _, _, _, _, _, _, rfl, rfl, Nat.le_refl _, rfl⟩ (fun i σ Hx _ ⟨_, _, _, _, _, _, _, _, e, _⟩ => by rw [e]; exact SqL.of hL) ?_ ?_
               · rintro i y σ Hx hi ⟨sz, y0, y1, y3, y4, y5, y6, rfl, rfl, hsz, hpr⟩
                 have hi2 : i < ns.length := by
                   have := (List.getElem?_eq_some_iff.mp hi).1
                   rw [vints_len] at this
                   exact this
                 have ey : y = V.int ((ns[i] : Nat) : Int) := by
                   unfold vints at hi
                   rw [List.getElem?_map, List.getElem?_eq_getElem hi2] at hi
                   exact (Option.some.inj hi).symm
                 subst ey
                 have bk := bn ns[i] (List.getElem_mem hi2)
                 have b1 : sz ≤ 2 ^ (9 * i) := Nat.le_trans hsz (pow_bits (by decide))
                 have b2 : (2 : Nat) ^ (9 * i) < 2 ^ 5000 := Nat.pow_lt_pow_right (by decide) (by omega)
                 refine ⟨_, rfl, _, rfl, _, _, rfl, rfl, wide_mul (a := 5000) (b := 10) (by rw [Int.natAbs_natCast]; omega) (by rw [Int.natAbs_natCast]; omega) (by decide) (by decide) (by decide), sz * ns[i], y0, y1, y3, y4, some (V.int ((ns[i] : Nat) : Int)), y6, ?_, rfl, ?_, ?_⟩
                 · show [y0, y1, some (V.int ((sz : Int) * ((ns[i] : Nat) : Int))), y3, y4, some (V.int ((ns[i] : Nat) : Int)), y6] = _
                   rw [Int.natCast_mul]
                 · rw [Nat.pow_succ]
                   exact Nat.mul_le_mul hsz bk
                 · rw [hpr, prod_take (List.getElem?_eq_getElem hi2)]
               · rintro σ Hx ⟨sz, y0, y1, y3, y4, y5, y6, rfl, rfl, hsz, hpr⟩
                 have z := qq Hx SL
                 rw [vints_len, List.take_length] at hpr
                 rw [← hv, ← hpr] at z
                 exact ⟨_, rfl, z⟩
       · rw [decide_eq_false (show ¬ (((x0 :: xs).length : Nat) : Int) = 2 by rw [List.length_cons]; omega)]
         exact if_t rfl (q0 H1 Sp (by rw [decide_eq_false h2]; rfl))
     · have eL := leaf6_at (ds := ds) (m := 2) (p := pTree) (show kinds.lookup ("tree" : Str) = some (2, pTree) from rfl) (show nestW "tree" = false from rfl) rfl
       rw [eL] at q0 q1
       refine ⟨_, rfl, .str "tree", "subset", c0, rfl, _, rfl, if_f rfl (if_f rfl ⟨_, rfl, .str "tree", "word", c0, rfl, _, rfl, if_f rfl ⟨_, rfl, .str "tree", "permutation", c0, rfl, _, rfl, if_f rfl ⟨_, rfl, (by show 3 ≤ sizeLine; decide), fun p np => ⟨.str "tree", p, ["cycle", "matching", "tree"], c0.same (same_new np), rfl, upd_same, _, rfl, if_f rfl ?_⟩⟩⟩⟩)⟩
       have Sp := same_new (o := HO.tup [V.str "cycle", V.str "matching", V.str "tree"]) np
       generalize upd H p (.tup [V.str "cycle", V.str "matching", V.str "tree"]) = H1 at Sp ⊢
       refine ⟨_, rfl, a, _, rfl, .inr (SqT.of (Sp _ _ ha)), rfl, _, rfl, ?_⟩
       rw [dec_int]
       by_cases h2 : ds.length + 1 = 2
       · rw [decide_eq_true (show (((x0 :: xs).length : Nat) : Int) = 2 by rw [List.length_cons]; omega)]
         rw [decide_eq_true h2, Bool.true_and] at q0 q1
         match ds, h2, cs with
         | [d1], _, .cons (v := x1) c1 .nil =>
           cases c0 with
           | str _ hz =>
             have cW : ∀ Hx, Dat Hx (.str "tree") (.str "tree") := fun Hx => .str _ hz
             refine if_f rfl ⟨_, rfl, a, _, _, x1, rfl, rfl, SqT.of (Sp _ _ ha), atI_nat (j := 1) rfl, _, rfl, _, rfl, rfl, .inr ⟨_, rfl, _, rfl, .str "tree", "matching", cW _, rfl, _, rfl, if_f rfl ⟨x1, d1, 1, 400, rfl, c1.same Sp, fun H2 S2 => ⟨_, rfl, ?_⟩⟩⟩⟩
             have S12 := Sp.trans S2
             cases hb : btw 1 400 d1 with
             | false => exact if_t rfl (q0 H2 S12 hb)
             | true =>
               obtain ⟨n, rfl, n0, n4⟩ := btw_int hb
               obtain rfl := dat_int c1
               obtain ⟨m, rfl⟩ : ∃ m : Nat, n = m := ⟨n.toNat, by omega⟩
               have qq : ∀ H' : Hp, Same H H' → Q (.int (leafN (.tuple [.str "tree", .int (m : Nat)]) : Nat)) H' := fun H' S => q1 H' S hb
               refine if_f rfl ?_
               refine ⟨_, rfl, .str "tree", "cycle", cW _, rfl, _, rfl, if_f rfl ⟨_, rfl, (by show 1 ≤ sizeLine; decide), fun u nu => ⟨_, rfl, _, _, rfl, rfl, _, _, rfl, u, _, _, rfl, rfl, upd_same, ?_, ?_, ?_, fun L nL => ?_⟩⟩⟩
               · show -(2 ^ 63) ≤ (if (m : Int) - 2 > 0 then (m : Int) - 2 else 0)
                 split <;> omega
               · show (if (m : Int) - 2 > 0 then (m : Int) - 2 else 0) < 2 ^ 63
                 split <;> omega
               · show 1 * (if (m : Int) - 2 > 0 then (m : Int) - 2 else 0).toNat ≤ sizeLine
                 rw [sizeLine_eq]
                 split <;> omega
               have eR : (List.replicate (if (m : Int) - 2 > 0 then (m : Int) - 2 else 0).toNat [V.int (m : Int)]).flatten = vints (List.replicate (if (m : Int) - 2 > 0 then (m : Int) - 2 else 0).toNat m) := by
                 generalize (if (m : Int) - 2 > 0 then (m : Int) - 2 else 0).toNat = k
                 induction k with
                 | zero => rfl
                 | succ k ih =>
                   rw [List.replicate_succ, List.flatten_cons, ih, List.replicate_succ]
                   rfl
               have hk2 : (if (m : Int) - 2 > 0 then (m : Int) - 2 else 0).toNat = m - 2 := by split <;> omega
               have km : (if (m : Int) - 2 > 0 then (m : Int) - 2 else 0).toNat ≤ 500 := by split <;> omega
               generalize (if (m : Int) - 2 > 0 then (m : Int) - 2 else 0).toNat = k at nL eR km hk2 ⊢
               rw [eR]
               have Su := same_new (o := HO.lst [V.int (m : Int)]) nu
               generalize upd H2 u (.lst [V.int (m : Int)]) = H4 at Su nL ⊢
               have hL : upd H4 L (.lst (vints (List.replicate k m))) L = some (.lst (vints (List.replicate k m))) := upd_same
               have SL := (S12.trans Su).trans (same_new (o := HO.lst (vints (List.replicate k m))) nL)
               have bn : ∀ j ∈ List.replicate k m, j ≤ 512 := fun j hj => by
                 rw [(List.mem_replicate.mp hj).2]
                 omega
               have hv : prodN (List.replicate k m) = leafN (.tuple [.str "tree", .int (m : Nat)]) := by
                 rw [prod_rep, hk2]
                 show _ = ((((((m : Nat) : Int).toNat ^ (((m : Nat) : Int).toNat - 2) : Nat) : Int))).toNat
                 rw [Int.toNat_natCast, Int.toNat_natCast]
               have ln : (List.replicate k m).length ≤ 500 := by
                 rw [List.length_replicate]
                 exact km
               generalize List.replicate k m = ns at hL SL bn ln hv ⊢
               generalize upd H4 L (.lst (vints ns)) = H5 at hL SL ⊢
               refine ⟨_, rfl, .str "tree", "matching", cW _, rfl, _, rfl, if_f rfl ⟨_, rfl, L, rfl, ⟨_, SqL.of hL⟩, ?_⟩⟩
               refine for_list (K := K) (a := L) (xs := vints ns) (fun i σ Hx => ∃ (sz : Nat) (y0 y1 y3 y4 y5 y6 : Option V), σ = [y0, y1, some (.int (sz : Nat)), y3, y4, y5, y6] ∧ Hx = H5 ∧ sz ≤ 512 ^ i ∧ sz = prodN (ns.take i)) ⟨1, _, _, _, _, _, _, rfl, rfl, Nat.le_refl _, rfl⟩ (fun i σ Hx _ ⟨_, _, _, _, _, _, _, _, e, _⟩ => by rw [e]; exact SqL.of hL) ?_ ?_
               · rintro i y σ Hx hi ⟨sz, y0, y1, y3, y4, y5, y6, rfl, rfl, hsz, hpr⟩
                 have hi2 : i < ns.length := by
                   have := (List.getElem?_eq_some_iff.mp hi).1
                   rw [vints_len] at this
                   exact this
                 have ey : y = V.int ((ns[i] : Nat) : Int) := by
                   unfold vints at hi
                   rw [List.getElem?_map, List.getElem?_eq_getElem hi2] at hi
                   exact (Option.some.inj hi).symm
                 subst ey
                 have bk := bn ns[i] (List.getElem_mem hi2)
                 have b1 : sz ≤ 2 ^ (9 * i) := Nat.le_trans hsz (pow_bits (by decide))
                 have b2 : (2 : Nat) ^ (9 * i) < 2 ^ 5000 := Nat.pow_lt_pow_right (by decide) (by omega)
                 refine ⟨_, rfl, _, rfl, _, _, rfl, rfl, wide_mul (a := 5000) (b := 10) (by rw [Int.natAbs_natCast]; omega) (by rw [Int.natAbs_natCast]; omega) (by decide) (by decide) (by decide), sz * ns[i], y0, y1, y3, y4, some (V.int ((ns[i] : Nat) : Int)), y6, ?_, rfl, ?_, ?_⟩
                 · show [y0, y1, some (V.int ((sz : Int) * ((ns[i] : Nat) : Int))), y3, y4, some (V.int ((ns[i] : Nat) : Int)), y6] = _
                   rw [Int.natCast_mul]
                 · rw [Nat.pow_succ]
                   exact Nat.mul_le_mul hsz bk
                 · rw [hpr, prod_take (List.getElem?_eq_getElem hi2)]
               · rintro σ Hx ⟨sz, y0, y1, y3, y4, y5, y6, rfl, rfl, hsz, hpr⟩
                 have z := qq Hx SL
                 rw [vints_len, List.take_length] at hpr
                 rw [← hv, ← hpr] at z
                 exact ⟨_, rfl, z⟩
       · rw [decide_eq_false (show ¬ (((x0 :: xs).length : Nat) : Int) = 2 by rw [List.length_cons]; omega)]
         exact if_t rfl (q0 H1 Sp (by rw [decide_eq_false h2]; rfl))
     · refine ⟨_, rfl, d0, "subset", c0, rfl, _, rfl, if_f (nw "subset" (by simp)) (if_f rfl ⟨_, rfl, d0, "word", c0, rfl, _, rfl, if_f (nw "word" (by simp)) ⟨_, rfl, d0, "permutation", c0, rfl, _, rfl, if_f (nw "permutation" (by simp)) ⟨_, rfl, (by show 3 ≤ sizeLine; decide), fun p np => ⟨d0, p, ["cycle", "matching", "tree"], c0.same (same_new np), rfl, upd_same, _, rfl, if_t ?_ (if_t rfl (q0 _ (same_new np) (leaf6_none nw)))⟩⟩⟩⟩)⟩
       show (!(["cycle", "matching", "tree"] : List Str).any fun z => eqStr z d0) = true
       rw [List.any_cons, List.any_cons, List.any_cons, List.any_nil, nw "cycle" (by simp), nw "matching" (by simp), nw "tree" (by simp)]
       rfl
end
end K3
set_option maxRecDepth 100000
set_option maxHeartbeats 4000000
namespace K3
open PySem PySem.Spec PyProof.Rows
open PySem.AutoSeq1 (wpAny_loadPart')
/-! ### != of any value and a text -/
theorem dict_ne_no_str (l : Addr) (dd : Option Addr) (es : Array DictEntry) (ep : Nat) (sl : Array (Option Value)) (b : Str) (u : Tok) :
    Meets (Builtin.«dict.__ne__» ⟨[.ref l, .str b u], []⟩) (fun _ R s => s.heap.get? l = some { cls := .type "dict", dict := dd, data := .dict es ep, slots := sl } ∧ R (.ok (.ret .notImplemented)) s) :=
  .of_wp fun prog w A R s h => by
    obtain ⟨hp, g, d, tk, os⟩ := s
    obtain ⟨hl, h⟩ := h
    have f1 := sub_str_dict
    wp_walk using wpAny_loadPart' hl
    exact ⟨_, rfl, h⟩
theorem str_ne_no_dict (l : Addr) (dd : Option Addr) (es : Array DictEntry) (ep : Nat) (sl : Array (Option Value)) (b : Str) (u : Tok) :
    Meets (Builtin.«str.__ne__» ⟨[.str b u, .ref l], []⟩) (fun _ R s => s.heap.get? l = some { cls := .type "dict", dict := dd, data := .dict es ep, slots := sl } ∧ R (.ok (.ret .notImplemented)) s) :=
  .of_wp fun prog w A R s h => by
    obtain ⟨hp, g, d, tk, os⟩ := s
    obtain ⟨hl, h⟩ := h
    wp_walk using wpAny_loadPart' hl, wpAny_load hl
    exact ⟨_, rfl, h⟩
end K3
namespace PySem.SeqAt
open PySem PyProof.Rows
theorem k2n_dict_str {A : Around} {s : Shared} {l : Addr} {dd : Option Addr} {es : Array DictEntry} {ep : Nat} {sl : Array (Option Value)} (b : Str) (u : Tok) (hl : s.heap.get? l = some { cls := .type "dict", dict := dd, data := .dict es ep, slots := sl }) (hu : A.units < cLine) :
    RcNeAt A s (.ref l) (.str b u) true := fun prog w E Q h =>
  rc_ne_decline_or (k := false) ⟨_, hl, rfl⟩ (typeIs_str s b u) (by decide) K3.sub_str_dict PySem.F.slot_dict_ne F.slot_str_ne_refl
    (fun _ hq => call_meets PySem.F.slot_dict_ne ⟨_, hl, rfl⟩ PySem.F.entry_dict_ne (PySem.F.args_dict_ne_2 _ _) (K3.dict_ne_no_str l dd es ep sl b u) ⟨hl, hq⟩)
    (fun _ hq => call_meets F.slot_str_ne_refl (typeIs_str s b u) F.entry_str_ne (F.args_str_ne_2 _ _) (K3.str_ne_no_dict l dd es ep sl b u) ⟨hl, hq⟩)
    (fun _ hq => wpAny_of_eq (rfl : isSame (.ref l) (.str b u) = pure false) hq) (.inr hu) h
end PySem.SeqAt
namespace K3
open PySem PySem.Spec PyProof.Rows L2
def rNeStr : R2 := fun x y H Q => ∃ d z, Dat H x d ∧ y = .str z ∧ Q (.bl (!eqStr z d)) H
section
variable {X : Cx}
theorem op_neStr (hu : X.A.units < cLine) : OpR X (compareOp .NotEq) rNeStr := by
  intro pins s σ H x y v u Q I rx ry h
  obtain ⟨d, z, hd, rfl, q⟩ := h
  obtain ⟨t, rfl⟩ := ry
  have fin : ∀ k : Bool, k = (!eqStr z d) → EP X pins σ Q (.bool k) s := fun k e => ⟨.bl k, H, I, rfl, by rw [e]; exact q⟩
  cases hd with
  | non =>
    cases rx
    exact PySem.SeqAt.RcNeAt.none_str z t _ _ _ _ (fin _ rfl)
  | bl b =>
    cases rx
    exact PySem.SeqAt.RcNeAt.bool_str b z t _ _ _ _ (fin _ rfl)
  | int i =>
    obtain ⟨t2, rfl⟩ := rx
    exact PySem.SeqAt.RcNeAt.int_str i t2 z t _ _ _ _ (fin _ rfl)
  | str x hx =>
    obtain ⟨t2, rfl⟩ := rx
    exact PySem.SeqAt.RcNeAt.str_str x t2 z t _ _ _ _ (fin _ rfl)
  | @lst a xs ds ha hx =>
    cases rx
    obtain ⟨its, rv, p, _⟩ := I.list (SqL.of ha)
    exact PySem.SeqAt.RcNeAt.list_str z t p.isList hu _ _ _ _ (fin _ rfl)
  | @tup a xs ds ha hx =>
    cases rx
    obtain ⟨its, rv, p, _⟩ := I.tuple (SqT.of ha)
    exact PySem.SeqAt.RcNeAt.tuple_str z t p hu _ _ _ _ (fin _ rfl)
  | @d0 a ha =>
    cases rx
    obtain ⟨_, ns, vs, kv, o, es, ep, ho, hx, hd, hk, hp, _⟩ := (show ObjOk X.prog X.w H s.heap a (.dK []) from I.hok a _ ha)
    obtain ⟨oc, od, dt, sl⟩ := o
    have e1 : oc = .type "dict" := hx.1
    have e2 : dt = .dict es ep := hd
    subst e1 e2
    exact PySem.SeqAt.k2n_dict_str z t ho hu _ _ _ _ (fin _ rfl)
end
end K3
set_option maxRecDepth 100000
set_option maxHeartbeats 8000000
namespace K3
open PySem PySem.Spec PyProof.Rows L2
/-! ### the law's bound, product, nested -/
abbrev s_bound : Stmt := top 88
abbrev s_product : Stmt := top 89
abbrev s_nested : Stmt := top 90
def spBoundL : Sp := fun vs H Q _ => vs = [] ∧ Q (.int big) H
def spProd : Sp := fun vs H Q _ => ∃ (a : Addr) (ns : List Nat), vs = [.ref a] ∧ H a = some (.lst (vints ns)) ∧ (∀ n ∈ ns, n < 2 ^ 14000) ∧ (prodN ns < bigN → Q (.int (prodN ns : Nat)) H) ∧ (bigN ≤ prodN ns → Q .non H)
/-- a nested space by its form -/
def nestP (d : PyData) : Bool := partB d && !leafD d
def spNst : Sp := fun vs H Q _ => ∃ (a : Addr) (xs : List V) (ds : List PyData), vs = [.ref a] ∧ H a = some (.tup xs) ∧ DatAll H xs ds ∧ 1 ≤ ds.length ∧ (∀ H', Same H H' → nestP (.tuple ds) = false → Q .non H') ∧
  (∀ (p t o : Addr) (ys : List V) (H' : Hp), Same H H' → nestP (.tuple ds) = true → H' p = some (.tup [.ref t, .ref o]) → H' t = some (.tup ys) → DatAll H' ys (nestedD (.tuple ds)) → H' o = some (.lst (vints (occ (.tuple ds)))) → Q (.ref p) H')
theorem rep_vints (k : Nat) : (List.replicate k [V.int 1]).flatten = vints (List.replicate k 1) := rep_flat k 1
section
variable {P : Program} {w : World} {K : PySem.W.Frag} {mg : Str → Option Value} {base : Heap}
theorem sc_bound : FnScope ["_law_found", "_law_turn"] [] (defScope s_bound) := ⟨rfl, rfl, rfl, by decide +kernel, rfl, by decide +kernel, by decide +kernel⟩
theorem sc_product : FnScope ["_law_factors", "_law_found", "_law_bound_here", "_law_factor"] ["_law_factors"] (defScope s_product) := ⟨rfl, rfl, rfl, by decide +kernel, rfl, by decide +kernel, by decide +kernel⟩
theorem sc_nested : FnScope ["_law_thing", "_law_word", "_law_one"] ["_law_thing"] (defScope s_nested) := ⟨rfl, rfl, rfl, by decide +kernel, rfl, by decide +kernel, by decide +kernel⟩
theorem okl_bound {f : Addr} {fd : FuncData} (F : Fun K "_law_bound" "_law_bound" s_bound f fd) (T : Nm mg) : FnOk P w K mg base CX0 1 f fd [] spBoundL := by
  refine F.ok sc_bound (fun vs H Q E h => ?_) (fun cdv A outer s H vs Q E hr h => ?_)
  · obtain ⟨rfl, _⟩ := h
    rfl
  · obtain ⟨rfl, q⟩ := h
    refine ⟨_, (pss_cons (ps_set (i := 0) sc_bound.nd rfl (Or.inl rfl) pe_int)
      (pss_cons (ps_for PassesOwn.never rfl (pi_range1 rfl T.range (pa_cons pe_int pa_nil)) (pg_name (i := 1) sc_bound.nd rfl (Or.inl rfl))
        (pss_one (ps_set (i := 0) sc_bound.nd rfl (Or.inl rfl) (pe_op op_mulW (pv 0) (pe_op op_pow pe_int pe_int)))))
      (pss_one (ps_ret (pv 0))))), ?_⟩
    refine ⟨80, rfl, by decide, by decide, for_range (n := 80) (fun i σ Hx => ∃ x1 : Option V, σ = [some (.int ((10 ^ (50 * i) : Nat) : Int)), x1] ∧ Hx = H) ⟨none, rfl, rfl⟩ ?_ ?_⟩
    · rintro i σ Hx hi ⟨x1, rfl, rfl⟩
      have hi80 : i < 80 := by omega
      have b0 : (10 : Nat) ^ (50 * i) ≤ 10 ^ 4000 := Nat.pow_le_pow_right (by decide) (by omega)
      have b1 : (10 : Nat) ^ (50 * i) < 2 ^ 13300 := Nat.lt_of_le_of_lt b0 bigN_bits
      refine ⟨_, rfl, _, _, rfl, rfl, ⟨by decide, by decide, by decide⟩, _, _, rfl, rfl, wide_mul (a := 13300) (b := 200) (by rw [Int.natAbs_natCast]; exact b1) (by decide) (by decide) (by decide) (by decide), some (.int (0 + (i : Int))), ?_, rfl⟩
      show [some (V.int (((10 ^ (50 * i) : Nat) : Int) * (10 ^ 50))), some (V.int (0 + (i : Int)))] = _
      rw [show 50 * (i + 1) = 50 * i + 50 from rfl, Nat.pow_add, Int.natCast_mul]
      rfl
    · rintro σ Hx ⟨x1, rfl, rfl⟩
      have e : ((10 ^ (50 * 80) : Nat) : Int) = big := by rw [big_nat]; rfl
      rw [← e] at q
      exact ⟨_, rfl, q⟩
theorem okl_product {f fB : Addr} {fd fdB : FuncData} (F : Fun K "_law_product" "_law_product" s_product f fd) (T : Nm mg) (D_bound : DefOk K mg "_law_bound" s_bound [] fB fdB) : FnOk P w K mg base CX0 2 f fd ["_law_factors"] spProd := by
  have G_bound : FnOk P w K mg base CX0 1 fB fdB [] spBoundL := okl_bound D_bound.F T
  refine F.ok sc_product (fun vs H Q E h => ?_) (fun cdv A outer s H vs Q E hr h => ?_)
  · obtain ⟨a, ns, rfl, _⟩ := h
    rfl
  · obtain ⟨a, ns, rfl, ha, hb, q1, q0⟩ := h
    refine ⟨_, (pss_cons (ps_par (i := 1) (j := 2) rfl sc_product.nd rfl rfl (by decide) rfl rfl (pa_cons pe_int (pa_cons (pe_call0 G_bound hr rfl D_bound.g D_bound.F.kp D_bound.b .nil pass0) pa_nil)) (by rfl))
      (pss_cons (ps_if (pt_cmpR op_in_seq pe_int (pv 0) rfl)
        (pss_one (ps_ret pe_int))
        pss_nil)
      (pss_cons (ps_for PassesOwn.never rfl (pi_list (pv 0)) (pg_name (i := 3) sc_product.nd rfl (Or.inl rfl))
        (pss_cons (ps_set (i := 1) sc_product.nd rfl (Or.inl rfl) (pe_op op_mulW (pv 1) (pv 3)))
        (pss_one (ps_if (pt_cmpR op_ge (pv 1) (pv 2) (nomark _))
          (pss_one (ps_ret pe_non))
          pss_nil))))
      (pss_one (ps_ret (pv 1)))))), ?_⟩
    refine ⟨rfl, _, _, rfl, ?_⟩
    refine ⟨_, rfl, a, vints ns, rfl, .inl (SqL.of ha), rfl, flat_ints ns, _, rfl, ?_⟩
    show (if inV (.int 0) (vints ns) = true then _ else _)
    rw [in_zero]
    by_cases hz : 0 ∈ ns
    · have e : ns.any (· == 0) = true := List.any_eq_true.mpr ⟨0, hz, rfl⟩
      have z := prod_zero hz
      rw [z] at q1
      exact if_t e (q1 (by decide +kernel))
    · have e : ns.any (· == 0) = false := by
        cases h : ns.any (· == 0) with
        | false => rfl
        | true =>
          obtain ⟨x, hx, ex⟩ := List.any_eq_true.mp h
          exact absurd (by rw [← beq_iff_eq.mp ex]; exact hx) hz
      have pos : ∀ n ∈ ns, 1 ≤ n := fun n hn => Nat.pos_of_ne_zero fun z => hz (by rw [← z]; exact hn)
      refine if_f e ⟨_, rfl, a, rfl, ⟨_, SqL.of ha⟩, for_list (K := K) (a := a) (xs := vints ns) (fun i σ Hx => ∃ x3 : Option V, σ = [some (.ref a), some (.int (prodN (ns.take i) : Nat)), some (.int big), x3] ∧ Hx = H ∧ prodN (ns.take i) < bigN) ⟨none, rfl, rfl, show prodN ([] : List Nat) < bigN by decide +kernel⟩ (fun i σ Hx _ ⟨_, _, e, _⟩ => by rw [e]; exact SqL.of ha) ?_ ?_⟩
      · rintro i y σ Hx hi ⟨x3, rfl, rfl, hc⟩
        obtain ⟨n, hn, rfl⟩ := vint_get hi
        have b1 : ((prodN (ns.take i) : Nat) : Int).natAbs < 2 ^ 13300 := by
          rw [Int.natAbs_natCast]
          exact Nat.lt_trans hc bigN_bits
        have b2 : ((n : Nat) : Int).natAbs < 2 ^ 14000 := by
          rw [Int.natAbs_natCast]
          exact hb n (List.mem_of_getElem? hn)
        have ep := prod_take hn
        refine ⟨_, rfl, _, rfl, _, _, rfl, rfl, wide_mul b1 b2 (by decide) (by decide) (by decide), ?_⟩
        have em : ((prodN (ns.take i) : Nat) : Int) * (n : Int) = ((prodN (ns.take (i + 1)) : Nat) : Int) := by rw [ep, Int.natCast_mul]
        refine ⟨_, rfl, _, rfl, _, _, rfl, rfl, _, rfl, ?_⟩
        by_cases c : prodN (ns.take (i + 1)) < bigN
        · refine if_f (decide_eq_false (by rw [big_nat]; omega)) ⟨some (.int (n : Int)), ?_, rfl, c⟩
          rw [← em]
          rfl
        · have z2 := prod_le pos (i + 1)
          exact if_t (decide_eq_true (by rw [big_nat]; omega)) (q0 (by omega))
      · rintro σ Hx ⟨x3, rfl, rfl, hc⟩
        have el : ns.take (vints ns).length = ns := List.take_of_length_le (by unfold vints; rw [List.length_map]; exact Nat.le_refl _)
        rw [el] at hc ⊢
        exact ⟨_, rfl, q1 hc⟩
end
end K3
set_option maxRecDepth 100000
set_option maxHeartbeats 8000000
namespace K3
open PySem PySem.Spec PyProof.Rows L2
/-- what nested spaces look like, by their head -/
theorem nestP_row {z : Str} {d1 : PyData} {ds : List PyData} (hk : kinds.lookup z = some (2, pRow)) (hw : nestW z = true) : nestP (.tuple (.str z :: d1 :: ds)) = (decide (ds.length + 2 = 2) && tupOf 1 6 d1) := by
  have e : partB (.tuple (.str z :: d1 :: ds)) = match kinds.lookup z with
    | some c => decide ((d1 :: ds).length + 1 = c.1) && c.2 (.str z :: d1 :: ds)
    | none => false := rfl
  have e2 : leafD (.tuple (.str z :: d1 :: ds)) = !nestW z := rfl
  unfold nestP
  rw [e, e2, hk, hw, Bool.not_true, Bool.not_false, Bool.and_true]
  rfl
theorem nestP_no {d0 : PyData} {ds : List PyData} (h : ∀ w ∈ (["product", "choice", "power", "decorated"] : List Str), eqStr w d0 = false) : nestP (.tuple (d0 :: ds)) = false := by
  cases d0 with
  | str z =>
    have e2 : leafD (.tuple (.str z :: ds)) = !nestW z := rfl
    unfold nestP
    have a1 := h "product" (by simp)
    have a2 := h "choice" (by simp)
    have a3 := h "power" (by simp)
    have a4 := h "decorated" (by simp)
    have b1 : (z == "product") = false := a1
    have b2 : (z == "choice") = false := a2
    have b3 : (z == "power") = false := a3
    have b4 : (z == "decorated") = false := a4
    have e3 : nestW z = false := by
      unfold nestW
      rw [b1, b2, b3, b4]
      rfl
    rw [e2, e3, Bool.not_false, Bool.not_true, Bool.and_false]
  | _ => rfl
section
variable {P : Program} {w : World} {K : PySem.W.Frag} {mg : Str → Option Value} {base : Heap}
theorem okl_nested {f fI fW : Addr} {fd fdI fdW : FuncData} (F : Fun K "_law_nested" "_law_nested" s_nested f fd) (T : Nm mg) (D_is_int : DefOk K mg "_law_is_int" s_is_int ["_law_thing", "_law_low", "_law_high"] fI fdI)
    (D_word_size : DefOk K mg "_law_word_size" s_word_size ["_law_counts_here"] fW fdW) (G_word_size : FnOk P w K mg base CX0 2 fW fdW ["_law_counts_here"] (spOptZ countsB zCounts)) : FnOk P w K mg base CX0 3 f fd ["_law_thing"] spNst := by
  have G_is_int : FnOk P w K mg base CX0 1 fI fdI ["_law_thing", "_law_low", "_law_high"] spBtw := okl_int D_is_int.F T
  refine F.ok sc_nested (fun vs H Q E h => ?_) (fun cdv A outer s H vs Q E hr h => ?_)
  · obtain ⟨a, xs, ds, rfl, _⟩ := h
    rfl
  · obtain ⟨a, xs, ds, rfl, ha, hx, l1, q0, q1⟩ := h
    have hu0 := hr.units0
    have hu1 := hu_of hr
    have hr1 : Room 1 _ := hr.mono (by decide)
    refine ⟨_, (pss_cons (ps_set (i := 1) sc_nested.nd rfl (Or.inl rfl) (pe_ix ix_tup (pv 0) pe_int (fun _ _ => rfl)))
      (pss_cons (ps_if (PW.pt (pw_and (pt_cmpR (op_inStrs hu1) (pv 1) (pe_tup (pa_cons pe_str (pa_cons pe_str pa_nil))) rfl) (pw_and (pt_cmpR op_eq (pe_callB call_len_seq (by rfl) T.len PySem.boot_len (pa_cons (pv 0) pa_nil)) pe_int (nomark _)) (pw_and1 (pt_val (pe_callB call_isi (by rfl) T.isinstance boot_isinstance (pa_cons (pe_ix ix_tup (pv 0) pe_int (fun _ _ => rfl)) (pa_cons (pe_bltn (v := .ty "tuple") rfl T.tuple (by decide +kernel) rfl) pa_nil))))))))
        (pss_one (ps_ret (pe_ifExp (pt_chain op_le op_le pe_int (pe_callB call_len_seq (by rfl) T.len PySem.boot_len (pa_cons (pe_ix ix_tup (pv 0) pe_int (fun _ _ => rfl)) pa_nil)) pe_int) (pe_tup (pa_cons (pe_ix ix_tup (pv 0) pe_int (fun _ _ => rfl)) (pa_cons (pe_op op_rep (pe_lst (pa_cons pe_int pa_nil)) (pe_callB call_len_seq (by rfl) T.len PySem.boot_len (pa_cons (pe_ix ix_tup (pv 0) pe_int (fun _ _ => rfl)) pa_nil))) pa_nil))) pe_non)))
        pss_nil)
      (pss_cons (ps_if (PW.pt (pw_and (pt_cmpR (op_eqStr hu0) (pv 1) pe_str (nomark _)) (pw_and (pt_cmpR op_eq (pe_callB call_len_seq (by rfl) T.len PySem.boot_len (pa_cons (pv 0) pa_nil)) pe_int (nomark _)) (pw_and1 (pt_val (pe_call G_is_int hr1 rfl D_is_int.g D_is_int.F.kp D_is_int.b .nil pass0 (pa_cons (pe_ix ix_tup (pv 0) pe_int (fun _ _ => rfl)) (pa_cons pe_int (pa_cons pe_int pa_nil)))))))))
        (pss_one (ps_ret (pe_tup (pa_cons (pe_tup (pa_cons (pe_ix ix_tup (pv 0) pe_int (fun _ _ => rfl)) pa_nil)) (pa_cons (pe_lst (pa_cons (pe_ix ix_tup (pv 0) pe_int (fun _ _ => rfl)) pa_nil)) pa_nil)))))
        pss_nil)
      (pss_cons (ps_if (PW.pt (pw_or (pt_cmpR (op_neStr hu0) (pv 1) pe_str (nomark _)) (pw_or (pt_cmpR op_ne (pe_callB call_len_seq (by rfl) T.len PySem.boot_len (pa_cons (pv 0) pa_nil)) pe_int (nomark _)) (pw_or1 (pt_cmpR op_isN (pe_call G_word_size hr rfl D_word_size.g D_word_size.F.kp D_word_size.b .nil pass0 (pa_cons (pe_ix ix_tup (pv 0) pe_int (fun _ _ => rfl)) pa_nil)) pe_non (nomark _))))))
        (pss_one (ps_ret pe_non))
        pss_nil)
      (pss_cons (ps_if (PW.pt (pw_or (pt_not (pt_val (pe_callB call_isi (by rfl) T.isinstance boot_isinstance (pa_cons (pe_ix ix_tup (pv 0) pe_int (fun _ _ => rfl)) (pa_cons (pe_bltn (v := .ty "tuple") rfl T.tuple (by decide +kernel) rfl) pa_nil))))) (pw_or1 (pt_cmpR op_ne (pe_callB call_len_seq (by rfl) T.len PySem.boot_len (pa_cons (pe_ix ix_tup (pv 0) pe_int (fun _ _ => rfl)) pa_nil)) (pe_callB call_len_seq (by rfl) T.len PySem.boot_len (pa_cons (pe_ix ix_tup (pv 0) pe_int (fun _ _ => rfl)) pa_nil)) (nomark _)))))
        (pss_one (ps_ret pe_non))
        pss_nil)
      (pss_one (ps_ret (pe_tup (pa_cons (pe_ix ix_tup (pv 0) pe_int (fun _ _ => rfl)) (pa_cons (pe_lc (own := [("_law_one", 2)]) (g := (gName 2)) (tt := tYes) (te := tOp (rIxT K) (tVar 2) (tC (.int 1))) rfl sc_nested.nd (pi_tup (pe_ix ix_tup (pv 0) pe_int (fun _ _ => rfl))) (blkOk_by (N := ["_law_thing", "_law_word", "_law_one"]) (sc := defScope s_nested) (by decide +kernel))
          (fun _ _ _ _ _ => (pg_name (i := 2) sc_nested.nd rfl (Or.inl rfl))) (fun _ _ _ _ _ => pts_nil) (fun _ _ _ _ _ => (pe_ix ix_tup (pv 2) pe_int (fun _ _ => rfl)))) pa_nil)))))))))), ?_⟩
    have hl := hx.len
    match ds, l1, hx with
    | d0 :: ds, _, .cons (v := x0) (vs := xs) c0 cs =>
      have hls : xs.length = ds.length := cs.len
      refine ⟨_, rfl, a, _, _, x0, rfl, rfl, SqT.of ha, atI_nat (j := 0) rfl, _, rfl, (by show 2 ≤ sizeLine; decide), fun p np => ?_⟩
      have Sp := same_new (o := HO.tup [V.str "product", V.str "choice"]) np
      have hpp : upd H p (.tup [V.str "product", V.str "choice"]) p = some (.tup [V.str "product", V.str "choice"]) := upd_same
      generalize upd H p (.tup [V.str "product", V.str "choice"]) = H1 at Sp hpp ⊢
      refine ⟨d0, p, ["product", "choice"], c0.same Sp, rfl, hpp, _, rfl, ?_⟩
      -- the way on where the word is neither product nor choice, or the form is wrong
      have heads : (∃ z : Str, (z = "product" ∨ z = "choice") ∧ d0 = .str z) ∨ d0 = .str "power" ∨ d0 = .str "decorated" ∨ ∀ w ∈ (["product", "choice", "power", "decorated"] : List Str), eqStr w d0 = false := by
        cases d0 with
        | str z =>
          by_cases a1 : z = "product"
          · exact .inl ⟨z, .inl a1, rfl⟩
          by_cases a2 : z = "choice"
          · exact .inl ⟨z, .inr a2, rfl⟩
          by_cases a3 : z = "power"
          · exact .inr (.inl (by rw [a3]))
          by_cases a4 : z = "decorated"
          · exact .inr (.inr (.inl (by rw [a4])))
          refine .inr (.inr (.inr fun w hw => ?_))
          show (z == w) = false
          refine beq_eq_false_iff_ne.mpr fun e => ?_
          subst e
          simp only [List.mem_cons, List.not_mem_nil, or_false] at hw
          rcases hw with h | h | h | h
          · exact a1 h
          · exact a2 h
          · exact a3 h
          · exact a4 h
        | _ => exact .inr (.inr (.inr fun w _ => rfl))
      rcases heads with ⟨z, hz, rfl⟩ | rfl | rfl | nw
      · have hk : kinds.lookup z = some (2, pRow) := by rcases hz with rfl | rfl <;> rfl
        have hw : nestW z = true := by rcases hz with rfl | rfl <;> rfl
        have hp : eqStr "power" (.str z) = false := by rcases hz with rfl | rfl <;> rfl
        have hdc : eqStr "decorated" (.str z) = false := by rcases hz with rfl | rfl <;> rfl
        have hin : (["product", "choice"] : List Str).any (fun y => eqStr y (.str z)) = true := by rcases hz with rfl | rfl <;> rfl
        refine if_t hin ⟨_, rfl, a, _, rfl, .inr (SqT.of (Sp _ _ ha)), rfl, _, rfl, ?_⟩
        rw [dec_int]
        by_cases h2 : ds.length + 1 = 2
        · rw [decide_eq_true (show (((x0 :: xs).length : Nat) : Int) = 2 by rw [List.length_cons]; omega)]
          match ds, h2, cs with
          | [d1], _, .cons (v := x1) c1 .nil =>
            rw [nestP_row hk hw] at q0 q1
            rw [decide_eq_true (show ([] : List PyData).length + 2 = 2 from rfl), Bool.true_and] at q0 q1
            refine if_t rfl ⟨_, rfl, a, _, _, x1, rfl, rfl, SqT.of (Sp _ _ ha), atI_nat (j := 1) rfl, x1, .ty "tuple", _, _, _, rfl, .ty _, (c1.same Sp).ty, kit_tuple _ d1, _, rfl, ?_⟩
            have off : tupOf 1 6 d1 = false → Q .non H1 := fun e => q0 H1 Sp e
            have rest : isTup d1 = false → Q .non H1 := fun e => off (by cases d1 with | tuple es => cases e | _ => rfl)
            cases d1 with
            | tuple es =>
              cases c1 with
              | @tup b ys _ hb hy =>
                have hyl := hy.len
                have eT : tupOf 1 6 (.tuple es) = (decide ((1 : Int) ≤ (es.length : Int)) && decide ((es.length : Int) ≤ 6)) := rfl
                rw [eT] at q0 q1
                refine if_t rfl ⟨_, rfl, a, _, _, _, rfl, rfl, SqT.of (Sp _ _ ha), atI_nat (j := 1) rfl, b, ys, rfl, .inr (SqT.of (Sp _ _ hb)), _, _, rfl, rfl, _, rfl, ?_⟩
                by_cases g1 : (1 : Int) ≤ (ys.length : Int)
                · refine if_t (decide_eq_true g1) ⟨_, _, rfl, rfl, _, rfl, ?_⟩
                  by_cases g6 : (ys.length : Int) ≤ 6
                  · rw [decide_eq_true (show (1 : Int) ≤ (es.length : Int) by omega), decide_eq_true (show (es.length : Int) ≤ 6 by omega)] at q1
                    refine if_t (decide_eq_true g6) ⟨_, rfl, a, _, _, _, rfl, rfl, SqT.of (Sp _ _ ha), atI_nat (j := 1) rfl, (by show 1 ≤ sizeLine; decide), fun u nu => ?_⟩
                    have Su := Sp.trans (same_new (o := HO.lst [V.int 1]) nu)
                    have hu' : upd H1 u (.lst [V.int 1]) u = some (.lst [V.int 1]) := upd_same
                    generalize upd H1 u (.lst [V.int 1]) = H2 at Su hu' ⊢
                    refine ⟨_, rfl, a, _, _, _, rfl, rfl, SqT.of (Su _ _ ha), atI_nat (j := 1) rfl, b, ys, rfl, .inr (SqT.of (Su _ _ hb)), u, ((ys.length : Nat) : Int), _, rfl, rfl, hu', by omega, by omega, ?_, fun o no => ⟨(by show 2 ≤ sizeLine; decide), fun p2 np2 => ?_⟩⟩
                    · show 1 * (((ys.length : Nat) : Int)).toNat ≤ sizeLine
                      rw [sizeLine_eq]
                      omega
                    · rw [Int.toNat_natCast, rep_vints] at np2 ⊢
                      have So := same_new (o := HO.lst (vints (List.replicate ys.length 1))) no
                      have ho : upd H2 o (.lst (vints (List.replicate ys.length 1))) o = some (.lst (vints (List.replicate ys.length 1))) := upd_same
                      generalize upd H2 o (.lst (vints (List.replicate ys.length 1))) = H3 at So ho np2 ⊢
                      have S2 := same_new (o := HO.tup [V.ref b, V.ref o]) np2
                      have Sall := (Su.trans So).trans S2
                      have eN : nestedD (.tuple [.str z, .tuple es]) = es := by rcases hz with rfl | rfl <;> rfl
                      have eO : occ (.tuple [.str z, .tuple es]) = List.replicate es.length 1 := by rcases hz with rfl | rfl <;> rfl
                      refine q1 p2 b o ys _ Sall rfl upd_same (Sall _ _ hb) ?_ ?_
                      · rw [eN]
                        exact hy.same Sall
                      · rw [eO, ← hyl]
                        exact S2 _ _ ho
                  · refine if_f (decide_eq_false g6) (off ?_)
                    rw [eT, decide_eq_false (show ¬ (es.length : Int) ≤ 6 by omega), Bool.and_false]
                · refine if_f (decide_eq_false g1) ⟨_, rfl, if_f rfl (off ?_)⟩
                  rw [eT, decide_eq_false (show ¬ (1 : Int) ≤ (es.length : Int) by omega), Bool.false_and]
            | _ => exact if_f rfl ⟨_, rfl, .str z, "power", c0.same Sp, rfl, _, rfl, if_f hp (if_f rfl ⟨_, rfl, .str z, "decorated", c0.same Sp, rfl, _, rfl, if_t (by rw [hdc]; rfl) (if_t rfl (rest rfl))⟩)⟩
        · rw [decide_eq_false (show ¬ (((x0 :: xs).length : Nat) : Int) = 2 by rw [List.length_cons]; omega)]
          have off : nestP (.tuple (.str z :: ds)) = false := by
            cases ds with
            | nil =>
              rcases hz with rfl | rfl <;> rfl
            | cons d1 ds =>
              rw [nestP_row hk hw, decide_eq_false (by rw [List.length_cons] at h2; omega)]
              rfl
          exact if_f rfl (if_f rfl ⟨_, rfl, .str z, "power", c0.same Sp, rfl, _, rfl, if_f hp (if_f rfl ⟨_, rfl, .str z, "decorated", c0.same Sp, rfl, _, rfl, if_t (by rw [hdc]; rfl) (if_t rfl (q0 H1 Sp off))⟩)⟩)
      · refine if_f rfl (if_f rfl ⟨_, rfl, .str "power", "power", c0.same Sp, rfl, _, rfl, if_t rfl ⟨_, rfl, a, _, rfl, .inr (SqT.of (Sp _ _ ha)), rfl, _, rfl, ?_⟩⟩)
        rw [dec_int]
        by_cases h3 : ds.length + 1 = 3
        · rw [decide_eq_true (show (((x0 :: xs).length : Nat) : Int) = 3 by rw [List.length_cons]; omega)]
          match ds, h3, cs with
          | [d1, d2], _, .cons (v := x1) c1 (.cons (v := x2) c2 .nil) =>
            have eP : nestP (.tuple [.str "power", d1, d2]) = (btw 0 400 d1 && true) := rfl
            rw [eP, Bool.and_true] at q0 q1
            refine if_t rfl ⟨_, rfl, a, _, _, x1, rfl, rfl, SqT.of (Sp _ _ ha), atI_nat (j := 1) rfl, x1, d1, 0, 400, rfl, c1.same Sp, fun H2 S2 => ⟨_, rfl, ?_⟩⟩
            have S12 := Sp.trans S2
            cases hb : btw 0 400 d1 with
            | false => exact if_f rfl ⟨_, rfl, .str "power", "decorated", c0.same S12, rfl, _, rfl, if_t rfl (if_t rfl (q0 H2 S12 hb))⟩
            | true =>
              obtain ⟨n, rfl, n0, n4⟩ := btw_int hb
              obtain rfl := dat_int c1
              obtain ⟨k, rfl⟩ : ∃ k : Nat, n = k := ⟨n.toNat, by omega⟩
              refine if_t rfl ⟨_, rfl, a, _, _, x2, rfl, rfl, SqT.of (S12 _ _ ha), atI_nat (j := 2) rfl, (by show 1 ≤ sizeLine; decide), fun t nt => ?_⟩
              have St := S12.trans (same_new (o := HO.tup [x2]) nt)
              have ht : upd H2 t (.tup [x2]) t = some (.tup [x2]) := upd_same
              generalize upd H2 t (.tup [x2]) = H3 at St ht ⊢
              refine ⟨_, rfl, a, _, _, V.int k, rfl, rfl, SqT.of (St _ _ ha), atI_nat (j := 1) rfl, (by show 1 ≤ sizeLine; decide), fun o no => ⟨(by show 2 ≤ sizeLine; decide), fun p2 np2 => ?_⟩⟩
              have So := same_new (o := HO.lst [V.int (k : Int)]) no
              have ho : upd H3 o (.lst [V.int (k : Int)]) o = some (.lst [V.int (k : Int)]) := upd_same
              generalize upd H3 o (.lst [V.int (k : Int)]) = H4 at So ho np2 ⊢
              have S4 := same_new (o := HO.tup [V.ref t, V.ref o]) np2
              have Sall := (St.trans So).trans S4
              exact q1 p2 t o [x2] _ Sall hb upd_same (S4 _ _ (So _ _ ht)) (.cons (c2.same Sall) .nil) (S4 _ _ ho)
        · rw [decide_eq_false (show ¬ (((x0 :: xs).length : Nat) : Int) = 3 by rw [List.length_cons]; omega)]
          have off : nestP (.tuple (.str "power" :: ds)) = false := by
            have e : partB (.tuple (.str "power" :: ds)) = (decide (ds.length + 1 = 3) && pPower (.str "power" :: ds)) := rfl
            unfold nestP
            rw [e, decide_eq_false h3]
            rfl
          exact if_f rfl (if_f rfl ⟨_, rfl, .str "power", "decorated", c0.same Sp, rfl, _, rfl, if_t rfl (if_t rfl (q0 H1 Sp off))⟩)
      · refine if_f rfl (if_f rfl ⟨_, rfl, .str "decorated", "power", c0.same Sp, rfl, _, rfl, if_f rfl (if_f rfl ⟨_, rfl, .str "decorated", "decorated", c0.same Sp, rfl, _, rfl, if_f rfl ⟨_, rfl, a, _, rfl, .inr (SqT.of (Sp _ _ ha)), rfl, _, rfl, ?_⟩⟩)⟩)
        rw [dec_int]
        by_cases h3 : ds.length + 1 = 3
        · rw [decide_eq_true (show (((x0 :: xs).length : Nat) : Int) = 3 by rw [List.length_cons]; omega)]
          match ds, h3, cs with
          | [d1, d2], _, .cons (v := x1) c1 (.cons (v := x2) c2 .nil) =>
            have eP : nestP (.tuple [.str "decorated", d1, d2]) = ((countsB d1 && tupOf ((tupItems d1).length : Int) ((tupItems d1).length : Int) d2) && true) := rfl
            rw [eP, Bool.and_true] at q0 q1
            refine if_f rfl ⟨_, rfl, a, _, _, x1, rfl, rfl, SqT.of (Sp _ _ ha), atI_nat (j := 1) rfl, x1, d1, rfl, c1.same Sp, fun H2 S2 e => ⟨rfl, _, rfl, if_t rfl (q0 H2 (Sp.trans S2) (by rw [e]; rfl))⟩, fun H2 S2 hc => ⟨rfl, _, rfl, if_f (decide_eq_false fun z => nomatch z) ?_⟩⟩
            have S12 := Sp.trans S2
            rw [hc, Bool.true_and] at q0 q1
            have hc2 := hc
            unfold countsB at hc2
            rw [Bool.and_eq_true, Bool.and_eq_true] at hc2
            obtain ⟨ws, rfl, _, w6⟩ := tupOf_len hc2.1.1
            have hall := (counts_all hc).1
            refine ⟨_, rfl, a, _, _, x2, rfl, rfl, SqT.of (S12 _ _ ha), atI_nat (j := 2) rfl, x2, .ty "tuple", _, _, _, rfl, .ty _, (c2.same S12).ty, kit_tuple _ d2, _, rfl, ?_⟩
            cases d2 with
            | tuple es =>
              cases c2 with
              | @tup b2 zs _ hb2 hz2 =>
                cases c1 with
                | @tup b ys _ hb hy =>
                  have hyl := hy.len
                  have hzl := hz2.len
                  have eT : tupOf ((tupItems (.tuple ws)).length : Int) ((tupItems (.tuple ws)).length : Int) (.tuple es) = (decide (((ws.length : Nat) : Int) ≤ (es.length : Int)) && decide ((es.length : Int) ≤ ((ws.length : Nat) : Int))) := rfl
                  rw [eT] at q0 q1
                  refine if_f rfl ⟨_, rfl, a, _, _, _, rfl, rfl, SqT.of (S12 _ _ ha), atI_nat (j := 2) rfl, b2, zs, rfl, .inr (SqT.of (S12 _ _ hb2)), _, rfl, a, _, _, _, rfl, rfl, SqT.of (S12 _ _ ha), atI_nat (j := 1) rfl, b, ys, rfl, .inr (SqT.of (S12 _ _ hb)), rfl, _, rfl, ?_⟩
                  rw [dec_int]
                  by_cases hlen : es.length = ws.length
                  · rw [decide_eq_true (show ((zs.length : Nat) : Int) = ((ys.length : Nat) : Int) by omega)]
                    rw [decide_eq_true (show ((ws.length : Nat) : Int) ≤ (es.length : Int) by omega), decide_eq_true (show (es.length : Int) ≤ ((ws.length : Nat) : Int) by omega)] at q1
                    refine if_f rfl ⟨_, rfl, a, _, _, _, rfl, rfl, SqT.of (S12 _ _ ha), atI_nat (j := 2) rfl, _, rfl, a, _, _, _, rfl, rfl, SqT.of (S12 _ _ ha), atI_nat (j := 1) rfl, b, rfl, ⟨_, SqT.of (S12 _ _ hb)⟩, fun D nD => lc_vals (K := K) (a := b) (xs := ys) (fun i => V.int (((countOf (ws.getD i .none)).toNat : Nat) : Int)) (S12 _ _ hb) (by omega) nD (fun i x Hx hi S R hR => ?_) mono_name fun H3 S3 hD => ⟨(by show 2 ≤ sizeLine; decide), fun p2 np2 => ?_⟩⟩
                    · obtain ⟨d, hdi, tdd⟩ := hy.get hi
                      obtain ⟨e0, n, rfl, hn, n1, _⟩ := count_cases (hall d (List.mem_of_getElem? hdi))
                      have g0 : (((countOf (ws.getD i .none)).toNat : Nat) : Int) = n := by
                        rw [List.getD_eq_getElem?_getD, hdi]
                        show ((n.toNat : Nat) : Int) = n
                        omega
                      rw [g0] at hR
                      cases tdd with
                      | @tup b3 us _ hb3 hu3 =>
                        cases hu3 with
                        | cons z0 t0 =>
                          cases t0 with
                          | cons z1 t1 =>
                            cases t1
                            cases z1
                            exact ⟨rfl, _, rfl, b3, _, _, _, rfl, rfl, SqT.of (S _ _ (S12 _ _ hb3)), atI_nat (j := 1) rfl, hR Hx (Same.refl Hx)⟩
                    · have eL : (List.range ys.length).map (fun i => V.int (((countOf (ws.getD i .none)).toNat : Nat) : Int)) = vints (countsN (.tuple ws)) := by
                        rw [hyl]
                        exact range_vints ws (fun e => (countOf e).toNat) _ fun i p h => by rw [List.getD_eq_getElem?_getD, h]; rfl
                      rw [eL] at hD
                      have S4 := same_new (o := HO.tup [V.ref b2, V.ref D]) np2
                      have Sall := (S12.trans S3).trans S4
                      exact q1 p2 b2 D zs _ Sall rfl upd_same (Sall _ _ hb2) (hz2.same Sall) (S4 _ _ hD)
                  · rw [decide_eq_false (show ¬ ((zs.length : Nat) : Int) = ((ys.length : Nat) : Int) by omega)]
                    refine if_t rfl (q0 H2 S12 ?_)
                    by_cases g : ((ws.length : Nat) : Int) ≤ (es.length : Int)
                    · rw [decide_eq_false (show ¬ (es.length : Int) ≤ ((ws.length : Nat) : Int) by omega), Bool.and_false]
                    · rw [decide_eq_false g, Bool.false_and]
            | _ => exact if_t rfl (if_t rfl (q0 H2 S12 rfl))
        · rw [decide_eq_false (show ¬ (((x0 :: xs).length : Nat) : Int) = 3 by rw [List.length_cons]; omega)]
          have off : nestP (.tuple (.str "decorated" :: ds)) = false := by
            have e : partB (.tuple (.str "decorated" :: ds)) = (decide (ds.length + 1 = 3) && pDeco (.str "decorated" :: ds)) := rfl
            unfold nestP
            rw [e, decide_eq_false h3]
            rfl
          exact if_t rfl (if_t rfl (q0 H1 Sp off))
      · refine if_f ?_ (if_f rfl ⟨_, rfl, d0, "power", c0.same Sp, rfl, _, rfl, if_f (nw "power" (by simp)) (if_f rfl ⟨_, rfl, d0, "decorated", c0.same Sp, rfl, _, rfl, if_t (by rw [nw "decorated" (by simp)]; rfl) (if_t rfl (q0 H1 Sp (nestP_no nw)))⟩)⟩)
        show (["product", "choice"] : List Str).any (fun z => eqStr z d0) = false
        rw [List.any_cons, List.any_cons, List.any_nil, nw "product" (by simp), nw "choice" (by simp)]
        rfl
end
end K3
set_option maxRecDepth 100000
set_option maxHeartbeats 8000000
namespace K3
open PySem PySem.Spec PyProof.Rows L2
/-! ### the law's measure -/
abbrev s_measure : Stmt := top 91
/-- parts, leaves, size -/
def lmN : Nat → PyData → Option (Nat × Nat × Nat)
  | 0, _ => none
  | k + 1, d => if leaf6 d = true then some (1, 1, leafN d) else if nestP d = true then
      match allS ((nestedD d).map (lmN k)) with
      | none => none
      | some l => if 40 < 1 + (l.map (·.1)).sum ∨ 2000 < jlN d (l.map (·.2.1)) ∨ bigN ≤ jsN d (l.map (·.2.2)) then none
        else some (1 + (l.map (·.1)).sum, jlN d (l.map (·.2.1)), jsN d (l.map (·.2.2)))
    else none
theorem expand_snoc : ∀ {os ns : List Nat} {o n : Nat}, os.length = ns.length → expand (os ++ [o]) (ns ++ [n]) = expand os ns ++ List.replicate o n
  | [], [], o, n, _ => by
    show List.replicate o n ++ [] = [] ++ List.replicate o n
    rw [List.append_nil, List.nil_append]
  | a :: os, b :: ns, o, n, h => by
    rw [List.cons_append, List.cons_append, expand, expand, expand_snoc (by simpa using h), List.append_assoc]
theorem leafN_lt {d : PyData} (h : leafB d = true) : leafN d < bigN := by
  unfold leafB at h
  rw [Bool.and_eq_true] at h
  obtain ⟨hp, hl⟩ := h
  match d, hp, hl with
  | .tuple (.str z :: ds), hp, hl =>
    have hp' : (match kinds.lookup z with
      | some c => decide (ds.length + 1 = c.1) && c.2 (.str z :: ds)
      | none => false) = true := hp
    obtain ⟨b1, b2, b3, b4⟩ := leaf_ne hl
    have hn : nestW z = false := by
      unfold nestW
      rw [b1, b2, b3, b4]
      rfl
    cases hk : kinds.lookup z with
    | none =>
      rw [hk] at hp'
      cases hp'
    | some c =>
      obtain ⟨len, p⟩ := c
      rw [hk, Bool.and_eq_true] at hp'
      have z1 := zb_of hk hn hp'.2
      obtain ⟨n, e, hb⟩ := z1
      have e2 : leafN (.tuple (.str z :: ds)) = (zOf z (.str z :: ds)).toNat := rfl
      rw [e2, e, Int.toNat_natCast]
      rw [big_nat] at hb
      omega
theorem leaf6_leaf {d : PyData} (h : leaf6 d = true) : leafB d = true := by
  unfold leaf6 at h
  rw [Bool.and_eq_true] at h
  exact h.1
theorem lm_bd : ∀ {k : Nat} {d : PyData} {p : Nat × Nat × Nat}, lmN k d = some p → p.1 ≤ 40 ∧ p.2.1 ≤ 2000 ∧ p.2.2 < bigN
  | 0, _, _, h => by cases h
  | k + 1, d, p, h => by
    rw [lmN] at h
    by_cases hl : leaf6 d = true
    · rw [if_pos hl] at h
      obtain rfl := Option.some.inj h
      exact ⟨Nat.le_of_ble_eq_true rfl, Nat.le_of_ble_eq_true rfl, leafN_lt (leaf6_leaf hl)⟩
    · rw [if_neg hl] at h
      by_cases hn : nestP d = true
      · rw [if_pos hn] at h
        cases e : allS ((nestedD d).map (lmN k)) with
        | none =>
          rw [e] at h
          cases h
        | some l =>
          rw [e] at h
          dsimp only at h
          generalize 1 + (l.map (·.1)).sum = A at h
          generalize jlN d (l.map (·.2.1)) = B at h
          generalize jsN d (l.map (·.2.2)) = C at h
          by_cases c : 40 < A ∨ 2000 < B ∨ bigN ≤ C
          · rw [if_pos c] at h
            cases h
          · rw [if_neg c] at h
            obtain rfl := Option.some.inj h
            show A ≤ 40 ∧ B ≤ 2000 ∧ C < bigN
            exact ⟨by omega, by omega, by omega⟩
      · rw [if_neg hn] at h
        cases h
def spLM (k : Nat) : Sp := fun vs H Q _ => ∃ (v : V) (d : PyData), vs = [v, .int (7 - (k : Int))] ∧ k ≤ 6 ∧ Dat H v d ∧ nodes d ≤ 100000 ∧ itm d ≤ 800 ∧ (∀ H', Same H H' → lmN k d = none → Q .non H') ∧
  (∀ (p : Addr) (n l s : Nat) (H' : Hp), Same H H' → lmN k d = some (n, l, s) → H' p = some (.tup [.int (n : Nat), .int (l : Nat), .int (s : Nat)]) → Q (.ref p) H')
end K3
set_option maxRecDepth 100000
set_option maxHeartbeats 8000000
namespace K3
open PySem PySem.Spec PyProof.Rows L2
theorem nest_occ {d : PyData} (h : nestP d = true) : (occ d).length = (nestedD d).length ∧ (∀ o ∈ occ d, o ≤ 400) ∧ (nestedD d).length ≤ 6 ∧ leafD d = false := by
  unfold nestP at h
  rw [Bool.and_eq_true] at h
  obtain ⟨hp, hl⟩ := h
  have hl' : leafD d = false := by
    cases e : leafD d with
    | false => rfl
    | true => rw [e] at hl; cases hl
  rcases occ_len hp with e | e
  · refine ⟨e, ?_, nested_len hp, hl'⟩
    rcases nest_cases hp with h | ⟨es, rfl, _⟩ | ⟨es, rfl, _⟩ | ⟨k, e, rfl, k4⟩ | ⟨cs, es, rfl, hc, hl, _⟩
    · rw [h] at hl'
      cases hl'
    · intro o ho
      have := (List.mem_replicate.mp (show o ∈ List.replicate es.length 1 from ho)).2
      omega
    · intro o ho
      have := (List.mem_replicate.mp (show o ∈ List.replicate es.length 1 from ho)).2
      omega
    · intro o ho
      have z : o = ((k : Nat) : Int).toNat := List.mem_singleton.mp (show o ∈ [((k : Nat) : Int).toNat] from ho)
      omega
    · intro o ho
      obtain ⟨c, hcm, rfl⟩ := List.mem_map.mp (show o ∈ cs.map (fun e => (countOf e).toNat) from ho)
      obtain ⟨_, m, rfl, _, _, m4⟩ := count_cases ((counts_all hc).1 c hcm)
      show m.toNat ≤ 400
      omega
  · rw [hl'] at e
    cases e
theorem expand_bd {os ns : List Nat} (h : os.length = ns.length) (ho : ∀ o ∈ os, o ≤ 400) (h6 : os.length ≤ 6) : (expand os ns).length ≤ 2400 := by
  rw [expand_len h]
  have z := sum_le (b := 400) (l := os) ho
  exact Nat.le_trans z (Nat.mul_le_mul_right _ h6)
theorem nodes_nested {d e : PyData} (hn : nestP d = true) (h : e ∈ nestedD d) : nodes e ≤ nodes d ∧ itm e ≤ itm d := by
  unfold nestP at hn
  rw [Bool.and_eq_true] at hn
  obtain ⟨hp, hl⟩ := hn
  rcases nest_cases hp with h0 | ⟨es, rfl, _⟩ | ⟨es, rfl, _⟩ | ⟨k, e', rfl, k4⟩ | ⟨cs, es, rfl, hc, hl, _⟩
  · rw [h0] at hl
    cases hl
  · have m1 := mem_nodes (show e ∈ es from h)
    have m2 := mem_itm (show e ∈ es from h)
    rw [nodes_tup, nodesAll, nodesAll, nodesAll, nodes_tup, itm_tup, itmAll, itmAll, itmAll, itm_tup]
    omega
  · have m1 := mem_nodes (show e ∈ es from h)
    have m2 := mem_itm (show e ∈ es from h)
    rw [nodes_tup, nodesAll, nodesAll, nodesAll, nodes_tup, itm_tup, itmAll, itmAll, itmAll, itm_tup]
    omega
  · obtain rfl : e = e' := List.mem_singleton.mp (show e ∈ [e'] from h)
    rw [nodes_tup, nodesAll, nodesAll, nodesAll, nodesAll, itm_tup, itmAll, itmAll, itmAll, itmAll]
    omega
  · have m1 := mem_nodes (show e ∈ es from h)
    have m2 := mem_itm (show e ∈ es from h)
    rw [nodes_tup, nodesAll, nodesAll, nodesAll, nodesAll, nodes_tup es, itm_tup, itmAll, itmAll, itmAll, itmAll, itm_tup es]
    omega
section
variable {P : Program} {w : World} {K : PySem.W.Frag} {mg : Str → Option Value} {base : Heap}
theorem sc_measure : FnScope ["_law_thing", "_law_depth", "_law_nested_here", "_law_parts", "_law_leaves", "_law_sizes", "_law_one", "_law_often", "_law_found", "_law_size"] ["_law_thing", "_law_depth"] (defScope s_measure) := ⟨rfl, rfl, rfl, by decide +kernel, rfl, by decide +kernel, by decide +kernel⟩
theorem lm_body {f fL fN fW fP fB : Addr} {fd fdL fdN fdW fdP fdB : FuncData} {sp : Sp} (n : Nat) (F : Fun K "_law_measure" "_law_measure" s_measure f fd) (b : L2.Binds K fd ["_law_thing", "_law_depth"] []) (g : mg "_law_measure" = some (.ref f)) (G : FnOk P w K mg base CX0 (9 + n) f fd ["_law_thing", "_law_depth"] sp) (T : Nm mg)
    (D_leaf_size : DefOk K mg "_law_leaf_size" s_leaf_size ["_law_thing"] fL fdL) (G_leaf_size : FnOk P w K mg base CX0 9 fL fdL ["_law_thing"] (spOptTZ leaf6 leafZ))
    (D_nested : DefOk K mg "_law_nested" s_nested ["_law_thing"] fN fdN) (G_nested : FnOk P w K mg base CX0 3 fN fdN ["_law_thing"] spNst)
    (D_word_size : DefOk K mg "_law_word_size" s_word_size ["_law_counts_here"] fW fdW) (G_word_size : FnOk P w K mg base CX0 2 fW fdW ["_law_counts_here"] (spOptZ countsB zCounts))
    (D_product : DefOk K mg "_law_product" s_product ["_law_factors"] fP fdP) (D_bound : DefOk K mg "_law_bound" s_bound [] fB fdB)
    (hn : ∀ m, n = m + 1 → n ≤ 6 → ∀ (x : V) (d : PyData) (H : Hp) (R : VK), Dat H x d → nodes d ≤ 100000 → itm d ≤ 800 → (∀ H', Same H H' → lmN m d = none → R .non H') →
      (∀ (p : Addr) (n l s : Nat) (H' : Hp), Same H H' → lmN m d = some (n, l, s) → H' p = some (.tup [.int (n : Nat), .int (l : Nat), .int (s : Nat)]) → R (.ref p) H') → sp [x, .int (7 - ((m + 1 : Nat) : Int) + 1)] H R E0) :
    FnOk P w K mg base CX0 (10 + n) f fd ["_law_thing", "_law_depth"] (spLM n) := by
  have G_product : FnOk P w K mg base CX0 2 fP fdP ["_law_factors"] spProd := okl_product D_product.F T D_bound
  rw [show 10 + n = (9 + n) + 1 by omega]
  refine F.ok sc_measure (fun vs H Q E h => ?_) (fun cdv A outer s H vs Q E hr h => ?_)
  · obtain ⟨v, d, rfl, _⟩ := h
    rfl
  · obtain ⟨v, d, rfl, h6, hd, hnd, hit, q0, q1⟩ := h
    have hu0 := hr.units0
    have hr9 : Room 9 _ := hr.mono (by omega)
    have hr3 : Room 3 _ := hr.mono (by omega)
    have hr2 : Room 2 _ := hr.mono (by omega)
    refine ⟨_, (pss_cons (ps_if (PW.pt (pw_or (pt_not (pt_val (pe_callB call_isi (by rfl) T.isinstance boot_isinstance (pa_cons (pv 0) (pa_cons (pe_bltn (v := .ty "tuple") rfl T.tuple (by decide +kernel) rfl) pa_nil))))) (pw_or (pt_cmpR (op_empty hu0) (pv 0) (pe_tup pa_nil) (nomark _)) (pw_or1 (pt_cmpR op_gt (pv 1) pe_int (nomark _))))))
        (pss_one (ps_ret pe_non))
        pss_nil)
      (pss_cons (ps_if (pt_cmpR op_notN (pe_call G_leaf_size hr9 rfl D_leaf_size.g D_leaf_size.F.kp D_leaf_size.b .nil pass0 (pa_cons (pv 0) pa_nil)) pe_non (nomark _))
        (pss_one (ps_ret (pe_tup (pa_cons pe_int (pa_cons pe_int (pa_cons (pe_call G_leaf_size hr9 rfl D_leaf_size.g D_leaf_size.F.kp D_leaf_size.b .nil pass0 (pa_cons (pv 0) pa_nil)) pa_nil))))))
        pss_nil)
      (pss_cons (ps_set (i := 2) sc_measure.nd rfl (Or.inl rfl) (pe_call G_nested hr3 rfl D_nested.g D_nested.F.kp D_nested.b .nil pass0 (pa_cons (pv 0) pa_nil)))
      (pss_cons (ps_if (pt_cmpR op_isN (pv 2) pe_non (nomark _))
        (pss_one (ps_ret pe_non))
        pss_nil)
      (pss_cons (ps_par3 (i := 3) (j := 4) (l := 5) rfl sc_measure.nd rfl rfl rfl (by decide) (by decide) (by decide) rfl rfl rfl (pa_cons pe_int (pa_cons pe_int (pa_cons (pe_lst pa_nil) pa_nil))) (by rfl))
      (pss_cons (ps_for PassesOwn.never rfl (ZM.pi_zip2 (by rfl) T.zip (pa_cons (pe_ix ix_tup (pv 2) pe_int (fun _ _ => rfl)) (pa_cons (pe_ix ix_tup (pv 2) pe_int (fun _ _ => rfl)) pa_nil))) (pg_tup rfl (pgs_cons (pg_name (i := 6) sc_measure.nd rfl (Or.inl rfl)) (pgs_cons (pg_name (i := 7) sc_measure.nd rfl (Or.inl rfl)) pgs_nil)))
        (pss_cons (ps_set (i := 8) sc_measure.nd rfl (Or.inl rfl) (pe_call G hr rfl g F.kp b .nil pass0 (pa_cons (pv 6) (pa_cons (pe_op op_add (pv 1) pe_int) pa_nil))))
        (pss_cons (ps_if (pt_cmpR op_isN (pv 8) pe_non (nomark _))
          (pss_one (ps_ret pe_non))
          pss_nil)
        (pss_cons (ps_par (i := 3) (j := 4) rfl sc_measure.nd rfl rfl (by decide) rfl rfl (pa_cons (pe_op op_add (pv 3) (pe_ix ix_tup (pv 8) pe_int (fun _ _ => rfl))) (pa_cons (pe_op op_add (pv 4) (pe_op op_mulW (pv 7) (pe_ix ix_tup (pv 8) pe_int (fun _ _ => rfl)))) pa_nil)) (by rfl))
        (pss_one (ps_expr (pe_bm PySem.F.plainAttrs_list PySem.F.slot_list_extend PySem.F.type_list_extend mt_extend (pv 5) (pa_cons (pe_op op_rep (pe_lst (pa_cons (pe_ix ix_tup (pv 8) pe_int (fun _ _ => rfl)) pa_nil)) (pv 7)) pa_nil))))))))
      (pss_cons (ps_if (PW.pt (pw_or (pt_cmpR op_gt (pv 3) pe_int (nomark _)) (pw_or1 (pt_cmpR op_gt (pv 4) pe_int (nomark _)))))
        (pss_one (ps_ret pe_non))
        pss_nil)
      (C8.pss_cut (ps_if (pt_cmpR (op_eqStr hu0) (pe_ix ix_tup (pv 0) pe_int (fun _ _ => rfl)) pe_str (nomark _))
        (pss_one (ps_expr (pe_bm PySem.F.plainAttrs_list PySem.F.slot_list_append PySem.F.type_list_append mt_append (pv 5) (pa_cons (pe_call G_word_size hr2 rfl D_word_size.g D_word_size.F.kp D_word_size.b .nil pass0 (pa_cons (pe_ix ix_tup (pv 0) pe_int (fun _ _ => rfl)) pa_nil)) pa_nil))))
        pss_nil)
      (pss_cons (ps_set (i := 9) sc_measure.nd rfl (Or.inl rfl) (pe_call G_product hr2 rfl D_product.g D_product.F.kp D_product.b .nil pass0 (pa_cons (pe_ifExp (pt_cmpR (op_eqStr hu0) (pe_ix ix_tup (pv 0) pe_int (fun _ _ => rfl)) pe_str (nomark _)) (pe_lst (pa_cons (pe_callB (cr_sum rfl) (by rfl) T.sum boot_sum (pa_cons (pv 5) pa_nil)) pa_nil)) (pv 5)) pa_nil)))
      (pss_one (ps_ret (pe_ifExp (pt_cmpR op_isN (pv 9) pe_non (nomark _)) pe_non (pe_tup (pa_cons (pv 3) (pa_cons (pv 4) (pa_cons (pv 9) pa_nil)))))))))))))))), ?_⟩
    have noT : isTup d = false → lmN n d = none := fun e => by
      cases n with
      | zero => rfl
      | succ m => cases d with
        | tuple _ => cases e
        | _ => rfl
    refine ⟨_, rfl, v, .ty "tuple", _, _, _, rfl, .ty _, hd.ty, kit_tuple _ d, _, rfl, ?_⟩
    cases d with
    | tuple ds =>
      cases hd with
      | @tup a xs _ ha hx =>
        refine if_f rfl ⟨_, rfl, (by show 0 ≤ sizeLine; decide), fun p np => ⟨a, p, xs, rfl, rfl, .inr ⟨same_new np _ _ ha, upd_same⟩, _, rfl, ?_⟩⟩
        have S1 := same_new (o := HO.tup []) np
        generalize upd H p (.tup []) = H1 at S1 ⊢
        cases hx with
        | nil =>
          refine if_t rfl (if_t rfl (q0 H1 S1 ?_))
          cases n <;> rfl
        | @cons x0 xs' d0 ds' c0 cs =>
          refine if_f rfl ⟨_, rfl, _, _, rfl, rfl, _, rfl, ?_⟩
          cases n with
          | zero => exact if_t (decide_eq_true (by decide)) (q0 H1 S1 rfl)
          | succ m =>
            refine if_f (decide_eq_false (by omega)) ?_
            have hx := DatAll.cons c0 cs
            refine ⟨_, rfl, a, x0 :: xs', d0 :: ds', rfl, S1 _ _ ha, hx.same S1, by simp, hnd, hit, fun H2 S2 e => ⟨rfl, _, rfl, if_f rfl ?_⟩, fun H2 S2 e => ⟨rfl, _, rfl, if_t (by rw [decide_eq_false (fun z => nomatch z)]; rfl) ?_⟩⟩
            · have S12 := S1.trans S2
              have nle : ¬ leaf6 (.tuple (d0 :: ds')) = true := by rw [e]; exact Bool.false_ne_true
              refine ⟨_, rfl, a, x0 :: xs', d0 :: ds', rfl, S12 _ _ ha, hx.same S12, by simp, fun H3 S3 e2 => ⟨_, rfl, rfl, _, rfl, if_t rfl (q0 H3 (S12.trans S3) ?_)⟩, fun p2 t o ys H3 S3 e2 hp2 ht hy ho => ⟨_, rfl, rfl, _, rfl, if_f rfl ?_⟩⟩
              · rw [lmN, if_neg nle, e2, if_neg Bool.false_ne_true]
              · have S13 := S12.trans S3
                obtain ⟨no1, no2, no3, no4⟩ := nest_occ e2
                have eLM : lmN (m + 1) (.tuple (d0 :: ds')) = match allS ((nestedD (.tuple (d0 :: ds'))).map (lmN m)) with
                    | none => none
                    | some l => if 40 < 1 + (l.map (·.1)).sum ∨ 2000 < jlN (.tuple (d0 :: ds')) (l.map (·.2.1)) ∨ bigN ≤ jsN (.tuple (d0 :: ds')) (l.map (·.2.2)) then none
                      else some (1 + (l.map (·.1)).sum, jlN (.tuple (d0 :: ds')) (l.map (·.2.1)), jsN (.tuple (d0 :: ds')) (l.map (·.2.2))) := by
                  rw [lmN, if_neg nle, if_pos e2] <;> rfl
                have nn : ∀ e' ∈ nestedD (.tuple (d0 :: ds')), nodes e' ≤ 100000 ∧ itm e' ≤ 800 := fun e' he' => by
                  have z := nodes_nested e2 he'
                  omega
                have hyl := hy.len
                refine ⟨(by show 0 ≤ sizeLine; decide), fun s nsn => ⟨_, _, _, rfl, ?_⟩⟩
                have Ss := same_new (o := HO.lst []) nsn
                have hs0 : upd H3 s (.lst []) s = some (.lst (vints [])) := upd_same
                generalize upd H3 s (.lst []) = H4 at Ss hs0 ⊢
                have ns3 : H s = none := S13.free nsn
                refine ⟨_, rfl, p2, _, _, _, rfl, rfl, SqT.of (Ss _ _ hp2), atI_nat (j := 0) rfl, _, rfl, p2, _, _, _, rfl, rfl, SqT.of (Ss _ _ hp2), atI_nat (j := 1) rfl, t, o, ys, vints (occ (.tuple (d0 :: ds'))), rfl, SqT.of (Ss _ _ ht), SqL.of (Ss _ _ ho), ?_⟩
                refine ZM.for_zip2 (K := K) (a := t) (b := o) (xs := ys) (ys := vints (occ (.tuple (d0 :: ds')))) (by rw [vints_len, no1]; exact hyl) (fun i σ Hx => ∃ (l : List (Nat × Nat × Nat)) (x6 x7 x8 : Option V), σ = [some (.ref a), some (.int (7 - ((m + 1 : Nat) : Int))), some (.ref p2), some (.int ((1 + (l.map (·.1)).sum : Nat))), some (.int (((expand ((occ (.tuple (d0 :: ds'))).take i) (l.map (·.2.1))).sum : Nat))), some (.ref s), x6, x7, x8, none] ∧ Same H3 Hx ∧ Hx s = some (.lst (vints (expand ((occ (.tuple (d0 :: ds'))).take i) (l.map (·.2.2))))) ∧ ((nestedD (.tuple (d0 :: ds'))).take i).map (lmN m) = l.map some ∧ l.length = i)
                  ⟨[], none, none, none, rfl, Ss, hs0, rfl, rfl⟩ (fun i σ Hx ⟨_, _, _, _, _, S, _⟩ => ⟨SqT.of (S _ _ ht), SqL.of (S _ _ ho)⟩) ?_ ?_
                · rintro i x y U σ Hx hxi hyi ⟨l, x6, x7, x8, rfl, S, hsl, el, ll⟩ nU
                  obtain ⟨oi, hoi, rfl⟩ := vint_get hyi
                  obtain ⟨e', hei, te⟩ := hy.get hxi
                  have hem := List.mem_of_getElem? hei
                  have hil : i < (nestedD (.tuple (d0 :: ds'))).length := (List.getElem?_eq_some_iff.mp hei).1
                  have o4 := no2 oi (List.mem_of_getElem? hoi)
                  have SU := same_new (o := HO.tup [x, V.int (oi : Int)]) nU
                  have TU := S.trans SU
                  have eT1 : (nestedD (.tuple (d0 :: ds'))).take (i + 1) = (nestedD (.tuple (d0 :: ds'))).take i ++ [e'] := by
                    rw [List.take_add_one, hei]
                    rfl
                  refine ⟨U, _, rfl, SqT.of upd_same, rfl, _, _, rfl, _, _, rfl, rfl, ?_⟩
                  have hsU := SU _ _ hsl
                  refine ⟨_, rfl, _, rfl, _, _, rfl, rfl, hn m rfl h6 x e' _ _ (te.same TU) (nn e' hem).1 (nn e' hem).2 (fun H6 S6 e3 => ⟨_, rfl, rfl, _, rfl, if_t rfl (q0 H6 ((S13.trans TU).trans S6) ?_)⟩) fun p3 n3 l3 s3 H6 S6 e3 hp3 => ⟨_, rfl, rfl, _, rfl, if_f rfl ?_⟩⟩
                  · rw [eLM, allS_mem]
                    rw [← e3]
                    exact List.mem_map_of_mem hem
                  · have T6 := TU.trans S6
                    have hs6 := S6 _ _ hsU
                    obtain ⟨b1, b2, b3⟩ := lm_bd e3
                    have b2' : l3 ≤ 2000 := b2
                    have b3' : s3 < bigN := b3
                    have tl : ((occ (.tuple (d0 :: ds'))).take i).length = l.length := by
                      rw [List.length_take, ll]
                      omega
                    have to1 : (occ (.tuple (d0 :: ds'))).take (i + 1) = (occ (.tuple (d0 :: ds'))).take i ++ [oi] := by
                      rw [List.take_add_one, hoi]
                      rfl
                    have cm : CMulW (oi : Int) (l3 : Int) := wide_mul (a := 20) (b := 20) (by omega) (by omega) (by decide) (by decide) (by decide)
                    have x1 : expand ((occ (.tuple (d0 :: ds'))).take (i + 1)) ((l ++ [(n3, l3, s3)]).map (·.2.1)) = expand ((occ (.tuple (d0 :: ds'))).take i) (l.map (·.2.1)) ++ List.replicate oi l3 := by
                      rw [to1, List.map_append]
                      exact expand_snoc (by rw [List.length_map]; exact tl)
                    have x2 : expand ((occ (.tuple (d0 :: ds'))).take (i + 1)) ((l ++ [(n3, l3, s3)]).map (·.2.2)) = expand ((occ (.tuple (d0 :: ds'))).take i) (l.map (·.2.2)) ++ List.replicate oi s3 := by
                      rw [to1, List.map_append]
                      exact expand_snoc (by rw [List.length_map]; exact tl)
                    have lb : (expand ((occ (.tuple (d0 :: ds'))).take i) (l.map (·.2.2))).length ≤ 2400 := expand_bd (by rw [List.length_map]; exact tl) (fun o' ho' => no2 o' (List.mem_of_mem_take ho')) (by rw [List.length_take]; omega)
                    refine ⟨_, rfl, _, rfl, p3, _, _, V.int (n3 : Nat), rfl, rfl, SqT.of hp3, atI_nat (j := 0) rfl, _, _, rfl, rfl, _, rfl, _, rfl, _, rfl, p3, _, _, V.int (l3 : Nat), rfl, rfl, SqT.of hp3, atI_nat (j := 1) rfl, _, _, rfl, rfl, cm, _, _, rfl, rfl, _, _, rfl, ?_⟩
                    refine ⟨_, rfl, .inl ⟨rfl, _, SqL.of hs6⟩, _, rfl, p3, _, _, V.int (s3 : Nat), rfl, rfl, SqT.of hp3, atI_nat (j := 2) rfl, (by show 1 ≤ sizeLine; decide), fun u nu => ?_⟩
                    have Su := same_new (o := HO.lst [V.int (s3 : Int)]) nu
                    have hu' : upd H6 u (.lst [V.int (s3 : Int)]) u = some (.lst (vints [s3])) := upd_same
                    generalize upd H6 u (.lst [V.int (s3 : Int)]) = H7 at Su hu' ⊢
                    refine ⟨_, rfl, u, (oi : Int), _, rfl, rfl, hu', by omega, by omega, ?_, fun r nr => ?_⟩
                    · show 1 * ((oi : Int)).toNat ≤ sizeLine
                      rw [sizeLine_eq]
                      omega
                    · rw [Int.toNat_natCast, rep_flat]
                      have Sr := same_new (o := HO.lst (vints (List.replicate oi s3))) nr
                      have hr' : upd H7 r (.lst (vints (List.replicate oi s3))) r = some (.lst (vints (List.replicate oi s3))) := upd_same
                      generalize upd H7 r (.lst (vints (List.replicate oi s3))) = H8 at Sr hr' ⊢
                      have hs8 := Sr _ _ (Su _ _ hs6)
                      refine ⟨s, r, _, _, rfl, rfl, hs8, hr', ?_, l ++ [(n3, l3, s3)], some x, some (.int (oi : Int)), some (.ref p3), ?_, keepNew nsn ((T6.trans Su).trans Sr), ?_, ?_, ?_⟩
                      · rw [vints_len, vints_len, List.length_replicate, sizeLine_eq]
                        omega
                      · rw [x1, List.sum_append, List.sum_replicate_nat, List.map_append, List.sum_append]
                        have g1 : ((1 + (l.map (·.1)).sum : Nat) : Int) + (n3 : Int) = ((1 + ((l.map (·.1)).sum + ([(n3, l3, s3)].map (·.1)).sum) : Nat) : Int) := by
                          show _ = ((1 + ((l.map (·.1)).sum + (n3 + 0)) : Nat) : Int)
                          omega
                        have g2 : (((expand ((occ (.tuple (d0 :: ds'))).take i) (l.map (·.2.1))).sum : Nat) : Int) + (oi : Int) * (l3 : Int) = (((expand ((occ (.tuple (d0 :: ds'))).take i) (l.map (·.2.1))).sum + oi * l3 : Nat) : Int) := by
                          rw [Int.natCast_add, Int.natCast_mul]
                        rw [← g1, ← g2]
                        rfl
                      · rw [upd_same, x2, ← vints_app]
                      · rw [eT1, List.map_append, List.map_append, el]
                        show l.map some ++ [lmN m e'] = _
                        rw [e3]
                        rfl
                      · rw [List.length_append, ll]
                        rfl
                · rintro σ Hx ⟨l, x6, x7, x8, rfl, S, hsl, el, ll⟩
                  have t1 : (nestedD (.tuple (d0 :: ds'))).take ys.length = nestedD (.tuple (d0 :: ds')) := List.take_of_length_le (by omega)
                  have t2 : (occ (.tuple (d0 :: ds'))).take ys.length = occ (.tuple (d0 :: ds')) := List.take_of_length_le (by omega)
                  rw [t1] at el
                  rw [t2] at hsl ⊢
                  rw [eLM, el, allS_map] at q0 q1
                  have q0' : ∀ H', Same H H' → (40 < 1 + (l.map (·.1)).sum ∨ 2000 < jlN (.tuple (d0 :: ds')) (l.map (·.2.1)) ∨ bigN ≤ jsN (.tuple (d0 :: ds')) (l.map (·.2.2))) → Q .non H' := fun H' S' c => q0 H' S' (if_pos c)
                  have q1' : ∀ (p : Addr) (H' : Hp), Same H H' → ¬ (40 < 1 + (l.map (·.1)).sum ∨ 2000 < jlN (.tuple (d0 :: ds')) (l.map (·.2.1)) ∨ bigN ≤ jsN (.tuple (d0 :: ds')) (l.map (·.2.2))) → H' p = some (.tup [.int ((1 + (l.map (·.1)).sum : Nat)), .int (jlN (.tuple (d0 :: ds')) (l.map (·.2.1)) : Nat), .int (jsN (.tuple (d0 :: ds')) (l.map (·.2.2)) : Nat)]) → Q (.ref p) H' := fun p H' S' c h => q1 p _ _ _ H' S' (if_neg c) h
                  have eJ : (expand (occ (.tuple (d0 :: ds'))) (l.map (·.2.1))).sum = jlN (.tuple (d0 :: ds')) (l.map (·.2.1)) := rfl
                  rw [eJ]
                  have S3x := S13.trans S
                  have bs : ∀ n ∈ expand (occ (.tuple (d0 :: ds'))) (l.map (·.2.2)), n < bigN := fun n hn' => by
                    obtain ⟨pr, hpr, rfl⟩ := List.mem_map.mp (expand_mem hn')
                    have z : some pr ∈ (nestedD (.tuple (d0 :: ds'))).map (lmN m) := by rw [el]; exact List.mem_map_of_mem hpr
                    obtain ⟨e', _, he'⟩ := List.mem_map.mp z
                    exact (lm_bd he').2.2
                  have lb : (expand (occ (.tuple (d0 :: ds'))) (l.map (·.2.2))).length ≤ 2400 := expand_bd (by rw [List.length_map]; omega) no2 (by omega)
                  refine ⟨_, rfl, _, _, rfl, rfl, _, rfl, ?_⟩
                  by_cases c1 : 40 < 1 + (l.map (·.1)).sum
                  · exact if_t (decide_eq_true (by omega)) (if_t rfl (q0' Hx S3x (.inl c1)))
                  refine if_f (decide_eq_false (by omega)) ⟨_, rfl, _, _, rfl, rfl, _, rfl, ?_⟩
                  by_cases c2 : 2000 < jlN (.tuple (d0 :: ds')) (l.map (·.2.1))
                  · exact if_t (decide_eq_true (by omega)) (q0' Hx S3x (.inr (.inl c2)))
                  refine if_f (decide_eq_false (by omega)) ?_
                  generalize hX : expand (occ (.tuple (d0 :: ds'))) (l.map (·.2.2)) = X at hsl bs lb
                  have eJS : jsN (.tuple (d0 :: ds')) (l.map (·.2.2)) = if eqStr "choice" d0 = true then X.sum else prodN X * (if eqStr "decorated" d0 = true then (multN 0 1 (countsN (at0 (d0 :: ds') 1))).toNat else 1) := by
                    unfold jsN
                    rw [no4, if_neg Bool.false_ne_true, hX]
                    rfl
                  generalize jlN (.tuple (d0 :: ds')) (l.map (·.2.1)) = L at c2 q0' q1' ⊢
                  generalize 1 + (l.map (·.1)).sum = N at c1 q0' q1' ⊢
                  refine ⟨fun σ' H' => σ' = [some (.ref a), some (.int (7 - ((m + 1 : Nat) : Int))), some (.ref p2), some (.int (N : Nat)), some (.int (L : Nat)), some (.ref s), x6, x7, x8, none] ∧ Same H H' ∧ ∃ Y : List Nat, H' s = some (.lst (vints Y)) ∧ (∀ n ∈ Y, n < bigN) ∧ (eqStr "choice" d0 = true → Y = X) ∧ (eqStr "choice" d0 = false → prodN Y = prodN X * (if eqStr "decorated" d0 = true then (multN 0 1 (countsN (at0 (d0 :: ds') 1))).toNat else 1)), ?_, ?_⟩
                  · refine ⟨_, rfl, a, _, _, x0, rfl, rfl, SqT.of (S3x _ _ ha), atI_nat (j := 0) rfl, d0, "decorated", c0.same S3x, rfl, _, rfl, ?_⟩
                    cases hdc : eqStr "decorated" d0 with
                    | false => exact if_f rfl ⟨rfl, S3x, X, hsl, bs, fun _ => rfl, fun _ => by rw [if_neg Bool.false_ne_true, Nat.mul_one]⟩
                    | true =>
                      have hp : partB (.tuple (d0 :: ds')) = true := by
                        unfold nestP at e2
                        rw [Bool.and_eq_true] at e2
                        exact e2.1
                      rcases nest_cases hp with h | ⟨es, h, _⟩ | ⟨es, h, _⟩ | ⟨k, e', h, _⟩ | ⟨ws, es, h, hc, hl2, _⟩
                      · rw [no4] at h
                        cases h
                      · injection h with h
                        injection h with h1 h2
                        rw [h1] at hdc
                        cases hdc
                      · injection h with h
                        injection h with h1 h2
                        rw [h1] at hdc
                        cases hdc
                      · injection h with h
                        injection h with h1 h2
                        rw [h1] at hdc
                        cases hdc
                      · injection h with h
                        injection h with h1 h2
                        subst h1 h2
                        cases cs with
                        | @cons y1 ys2 _ _ k1 k2 =>
                          refine if_t rfl ⟨_, rfl, .inl ⟨rfl, _, SqL.of hsl⟩, _, rfl, a, _, _, y1, rfl, rfl, SqT.of (S3x _ _ ha), atI_nat (j := 1) rfl, y1, .tuple ws, rfl, k1.same S3x, fun H9 S9 e9 => (by rw [hc] at e9; cases e9), fun H9 S9 _ => ?_⟩
                          obtain ⟨wn, ew, hw1, hwb⟩ := zb_counts hc
                          have ez : zCounts (.tuple ws) = ((wn : Nat) : Int) := ew
                          rw [ez]
                          have hwb' : wn < bigN := by
                            rw [big_nat] at hwb
                            omega
                          refine ⟨s, _, _, rfl, rfl, S9 _ _ hsl, by rw [vints_len, sizeLine_eq]; omega, rfl, keepNew ns3 (S3x.trans S9), X ++ [wn], ?_, fun n hn' => ?_, fun z => (by cases z), fun _ => ?_⟩
                          · rw [upd_same, ← vints_app]
                            rfl
                          · rcases List.mem_append.mp hn' with z | z
                            · exact bs n z
                            · rw [List.mem_singleton.mp z]
                              exact hwb'
                          · rw [if_pos rfl, prodN_app]
                            have ec : multN 0 1 (countsN (at0 (.str "decorated" :: .tuple ws :: [.tuple es]) 1)) = ((wn : Nat) : Int) := ew
                            rw [ec, Int.toNat_natCast]
                            show _ * (wn * 1) = _
                            rw [Nat.mul_one]
                  · rintro σ9 H9 ⟨rfl, S9, Y, hY, bY, y1, y2⟩
                    refine ⟨_, rfl, a, _, _, x0, rfl, rfl, SqT.of (S9 _ _ ha), atI_nat (j := 0) rfl, d0, "choice", c0.same S9, rfl, _, rfl, ?_⟩
                    cases hch : eqStr "choice" d0 with
                    | true =>
                      rw [hch, if_pos rfl] at eJS
                      obtain rfl := y1 hch
                      have bsum : Y.sum < 2 ^ 14000 := by
                        have z := sum_le (b := bigN) (l := Y) fun n hn' => Nat.le_of_lt (bY n hn')
                        have z2 : Y.length * bigN ≤ 2400 * bigN := Nat.mul_le_mul_right _ lb
                        have z3 : 2400 * bigN < 2 ^ 14000 := by decide +kernel
                        exact Nat.lt_of_le_of_lt (Nat.le_trans z z2) z3
                      refine if_t rfl ⟨_, rfl, s, Y.map fun n : Nat => (n : Int), rfl, by rw [← vints_ints]; exact SqL.of hY, (by show 1 ≤ sizeLine; decide), fun w1 nw => ?_⟩
                      rw [sum_cast]
                      have Sw := S9.trans (same_new (o := HO.lst [V.int ((Y.sum : Nat) : Int)]) nw)
                      have pE : prodN [Y.sum] = Y.sum := Nat.mul_one _
                      refine ⟨w1, [Y.sum], rfl, upd_same, fun n hn' => by rw [List.mem_singleton.mp hn']; exact bsum, fun c => ?_, fun c => ?_⟩
                      · rw [pE] at c ⊢
                        refine ⟨_, rfl, rfl, _, rfl, if_f (decide_eq_false fun z => nomatch z) ⟨_, rfl, _, rfl, _, rfl, (by show 3 ≤ sizeLine; decide), fun p5 np5 => q1' p5 _ (Sw.trans (same_new np5)) (by rw [eJS]; omega) ?_⟩⟩
                        rw [upd_same, eJS]
                      · rw [pE] at c
                        exact ⟨_, rfl, rfl, _, rfl, if_t rfl (q0' _ Sw (.inr (.inr (by rw [eJS]; exact c))))⟩
                    | false =>
                      rw [hch, if_neg Bool.false_ne_true] at eJS
                      have eY := y2 hch
                      rw [← eJS] at eY
                      refine if_f rfl ⟨_, rfl, s, Y, rfl, hY, fun n hn' => Nat.lt_trans (bY n hn') (Nat.lt_of_lt_of_le bigN_bits (Nat.pow_le_pow_right (by decide) (by decide))), fun c => ?_, fun c => ?_⟩
                      · rw [eY] at c ⊢
                        refine ⟨_, rfl, rfl, _, rfl, if_f (decide_eq_false fun z => nomatch z) ⟨_, rfl, _, rfl, _, rfl, (by show 3 ≤ sizeLine; decide), fun p5 np5 => q1' p5 _ (S9.trans (same_new np5)) (by omega) ?_⟩⟩
                        rw [upd_same]
                      · rw [eY] at c
                        exact ⟨_, rfl, rfl, _, rfl, if_t rfl (q0' _ S9 (.inr (.inr c)))⟩
            · have S12 := S1.trans S2
              refine ⟨_, rfl, a, x0 :: xs', d0 :: ds', rfl, S12 _ _ ha, hx.same S12, by simp, hnd, hit, fun H3 S3 e3 => (by rw [e] at e3; cases e3), fun H3 S3 _ => ⟨(by show 3 ≤ sizeLine; decide), fun p2 np2 => ?_⟩⟩
              refine q1 p2 1 1 (leafN (.tuple (d0 :: ds'))) _ ((S12.trans S3).trans (same_new np2)) ?_ upd_same
              rw [lmN, if_pos e]
    | int i => exact if_t rfl (if_t rfl (q0 H (Same.refl H) (noT rfl)))
    | bool b => exact if_t rfl (if_t rfl (q0 H (Same.refl H) (noT rfl)))
    | none => exact if_t rfl (if_t rfl (q0 H (Same.refl H) (noT rfl)))
    | str x => exact if_t rfl (if_t rfl (q0 H (Same.refl H) (noT rfl)))
    | list ds => exact if_t rfl (if_t rfl (q0 H (Same.refl H) (noT rfl)))
    | dict kv => exact if_t rfl (if_t rfl (q0 H (Same.refl H) (noT rfl)))
end
end K3
set_option maxRecDepth 100000
set_option maxHeartbeats 8000000
namespace K3
open PySem PySem.Spec PyProof.Rows L2
/-! ### both measures agree -/
def withN (k : Nat) (d : PyData) : Option (Nat × Nat × Nat) := (msN k d).map fun p => (szN k d, p.1, p.2)
theorem zip_ms {k : Nat} : ∀ (ns : List PyData) (l : List (Nat × Nat)), (∀ e ∈ ns, lmN k e = withN k e) → ns.map (msN k) = l.map some →
    ∃ l' : List (Nat × Nat × Nat), ns.map (lmN k) = l'.map some ∧ l'.map (·.1) = ns.map (szN k) ∧ l'.map (·.2.1) = l.map (·.1) ∧ l'.map (·.2.2) = l.map (·.2)
  | [], [], _, _ => ⟨[], rfl, rfl, rfl, rfl⟩
  | [], p :: l, _, h => by cases h
  | e :: ns, [], _, h => by cases h
  | e :: ns, p :: l, h, hm => by
    rw [List.map_cons, List.map_cons] at hm
    injection hm with h1 h2
    obtain ⟨l', a, b, c, d⟩ := zip_ms ns l (fun x hx => h x (by simp [hx])) h2
    refine ⟨(szN k e, p.1, p.2) :: l', ?_, ?_, ?_, ?_⟩
    · rw [List.map_cons, List.map_cons, a, h e (by simp)]
      unfold withN
      rw [h1]
      rfl
    · rw [List.map_cons, List.map_cons, b]
    · rw [List.map_cons, List.map_cons, c]
    · rw [List.map_cons, List.map_cons, d]
theorem sum_ge {f : PyData → Nat} {e : PyData} : ∀ {l : List PyData}, e ∈ l → f e ≤ (l.map f).sum
  | a :: l, h => by
    rw [List.map_cons, List.sum_cons]
    rcases List.mem_cons.mp h with x | x
    · rw [x]
      omega
    · have := sum_ge (f := f) x
      omega
/-- no part is of a kind that the law does not know -/
def six1 (d : PyData) : Bool := !(eqStr "arrangement" (headD d) || (eqStr "walk" (headD d) || eqStr "string" (headD d)))
def sixN : Nat → PyData → Bool
  | 0, _ => true
  | k + 1, d => six1 d && (nestedD d).all (sixN k)
theorem lm_eq : ∀ (k : Nat) (d : PyData), sixN k d = true → lmN k d = if (wfT k d && decide (szN k d ≤ 40)) = true then withN k d else none
  | 0, d, _ => rfl
  | k + 1, d, h6 => by
    have h6' : (six1 d && (nestedD d).all (sixN k)) = true := h6
    rw [Bool.and_eq_true] at h6'
    have h6a := List.all_eq_true.mp h6'.2
    have e6 : leaf6 d = leafB d := by
      show (leafB d && six1 d) = leafB d
      rw [h6'.1, Bool.and_true]
    by_cases hl : leaf6 d = true
    · have hl2 := hl
      rw [e6] at hl2
      unfold leafB at hl2
      rw [Bool.and_eq_true] at hl2
      have en := leaf_nest hl2.1 hl2.2
      have w1 : wfT (k + 1) d = true := by
        show (partB d && (nestedD d).all (wfT k)) = true
        rw [en, hl2.1]
        rfl
      have s1 : szN (k + 1) d = 1 := by
        show 1 + ((nestedD d).map (szN k)).sum = 1
        rw [en]
        rfl
      have lb := leafN_lt (leaf6_leaf hl)
      have js : jsN d [] = leafN d := by
        unfold jsN
        rw [if_pos hl2.2]
      have m1 : msN (k + 1) d = some (1, leafN d) := by
        rw [msN, en]
        show (if (2000 < (if leafD d = true then 1 else jlN d [])) ∨ bigN ≤ jsN d [] then (none : Option (Nat × Nat))
            else some ((if leafD d = true then 1 else jlN d []), jsN d [])) = _
        rw [if_pos hl2.2, js, if_neg (by omega)]
      rw [lmN, if_pos hl, w1, s1, if_pos (by decide)]
      unfold withN
      rw [m1, s1]
      rfl
    · by_cases hn : nestP d = true
      · have hn2 := hn
        unfold nestP at hn2
        rw [Bool.and_eq_true] at hn2
        have lf : leafD d = false := by
          cases e : leafD d with
          | false => rfl
          | true => rw [e] at hn2; cases hn2.2
        have eL : lmN (k + 1) d = match allS ((nestedD d).map (lmN k)) with
            | none => none
            | some l => if 40 < 1 + (l.map (·.1)).sum ∨ 2000 < jlN d (l.map (·.2.1)) ∨ bigN ≤ jsN d (l.map (·.2.2)) then none
              else some (1 + (l.map (·.1)).sum, jlN d (l.map (·.2.1)), jsN d (l.map (·.2.2))) := by
          rw [lmN, if_neg hl, if_pos hn] <;> rfl
        have eM : msN (k + 1) d = match allS ((nestedD d).map (msN k)) with
            | none => none
            | some l => if (2000 < jlN d (l.map (·.1))) ∨ bigN ≤ jsN d (l.map (·.2)) then none
              else some (jlN d (l.map (·.1)), jsN d (l.map (·.2))) := by
          rw [msN]
          cases allS ((nestedD d).map (msN k)) with
          | none => rfl
          | some l =>
            dsimp only
            rw [lf, if_neg Bool.false_ne_true]
        have eS : szN (k + 1) d = 1 + ((nestedD d).map (szN k)).sum := rfl
        have eW : wfT (k + 1) d = (nestedD d).all (wfT k) := by
          show (partB d && (nestedD d).all (wfT k)) = _
          rw [hn2.1, Bool.true_and]
        cases hA : (nestedD d).all (fun e => wfT k e && decide (szN k e ≤ 40)) with
        | true =>
          have hall : ∀ e ∈ nestedD d, (wfT k e && decide (szN k e ≤ 40)) = true := List.all_eq_true.mp hA
          have ih : ∀ e ∈ nestedD d, lmN k e = withN k e := fun e he => by rw [lm_eq k e (h6a e he), if_pos (hall e he)]
          have ew : (nestedD d).all (wfT k) = true := List.all_eq_true.mpr fun e he => by
            have z := hall e he
            rw [Bool.and_eq_true] at z
            exact z.1
          rw [eL, eW, ew, Bool.true_and]
          cases hm : allS ((nestedD d).map (msN k)) with
          | none =>
            obtain ⟨e, he, h0⟩ := List.mem_map.mp (allS_none hm)
            have z : lmN k e = none := by
              rw [ih e he]
              unfold withN
              rw [h0]
              rfl
            rw [allS_mem (by rw [← z]; exact List.mem_map_of_mem he)]
            have m0 : withN (k + 1) d = none := by
              unfold withN
              rw [eM, hm]
              rfl
            rw [m0]
            cases decide (szN (k + 1) d ≤ 40) <;> rfl
          | some l =>
            obtain ⟨l', a, b, c, e⟩ := zip_ms (nestedD d) l ih (allS_some hm)
            rw [a, allS_map]
            dsimp only
            rw [b, c, e, ← eS]
            unfold withN
            rw [eM, hm]
            dsimp only
            by_cases c1 : szN (k + 1) d ≤ 40
            · rw [if_pos (decide_eq_true c1)]
              by_cases c2 : (2000 < jlN d (l.map (·.1))) ∨ bigN ≤ jsN d (l.map (·.2))
              · rw [if_pos c2, if_pos (.inr c2)]
                rfl
              · rw [if_neg c2, if_neg (fun z => z.elim (fun y => by omega) c2)]
                rfl
            · have c3 : ¬ decide (szN (k + 1) d ≤ 40) = true := by
                rw [decide_eq_false c1]
                exact Bool.false_ne_true
              rw [if_neg c3, if_pos (Or.inl (show 40 < szN (k + 1) d by omega))]
        | false =>
          obtain ⟨e, he, hb⟩ := List.all_eq_false.mp hA
          have z : lmN k e = none := by rw [lm_eq k e (h6a e he), if_neg hb]
          rw [eL, allS_mem (by rw [← z]; exact List.mem_map_of_mem he), eW]
          dsimp only
          rw [if_neg]
          intro h
          rw [Bool.and_eq_true] at h
          have w1 := List.all_eq_true.mp h.1 e he
          have s1 : szN (k + 1) d ≤ 40 := of_decide_eq_true h.2
          have g := sum_ge (f := szN k) he
          refine hb ?_
          rw [w1, decide_eq_true (by omega)]
          rfl
      · have hp : partB d = false := by
          cases e : partB d with
          | false => rfl
          | true =>
            cases e2 : leafD d with
            | true => exact absurd (by rw [e6]; unfold leafB; rw [e, e2]; rfl) hl
            | false => exact absurd (by unfold nestP; rw [e, e2]; rfl) hn
        have w0 : wfT (k + 1) d = false := by
          show (partB d && (nestedD d).all (wfT k)) = false
          rw [hp, Bool.false_and]
        rw [lmN, if_neg hl, if_neg hn, w0, if_neg (by rw [Bool.false_and]; exact Bool.false_ne_true)]
/-- so both answer alike -/
theorem lm_space {d : PyData} (h : sixN 6 d = true) : (lmN 6 d).isSome = spaceB d := by
  rw [lm_eq 6 d h]
  unfold spaceB
  rw [wf_eq d]
  unfold withN
  cases (wfT 6 d && decide (szN 6 d ≤ 40)) with
  | false => rfl
  | true =>
    rw [if_pos rfl]
    cases msN 6 d <;> rfl
section
variable {P : Program} {w : World} {K : PySem.W.Frag} {mg : Str → Option Value} {base : Heap}
theorem okl_measure {f fL fN fW fP fB : Addr} {fd fdL fdN fdW fdP fdB : FuncData} (F : Fun K "_law_measure" "_law_measure" s_measure f fd) (b : L2.Binds K fd ["_law_thing", "_law_depth"] []) (g : mg "_law_measure" = some (.ref f)) (T : Nm mg)
    (D_leaf_size : DefOk K mg "_law_leaf_size" s_leaf_size ["_law_thing"] fL fdL) (G_leaf_size : FnOk P w K mg base CX0 9 fL fdL ["_law_thing"] (spOptTZ leaf6 leafZ))
    (D_nested : DefOk K mg "_law_nested" s_nested ["_law_thing"] fN fdN) (G_nested : FnOk P w K mg base CX0 3 fN fdN ["_law_thing"] spNst)
    (D_word_size : DefOk K mg "_law_word_size" s_word_size ["_law_counts_here"] fW fdW) (G_word_size : FnOk P w K mg base CX0 2 fW fdW ["_law_counts_here"] (spOptZ countsB zCounts))
    (D_product : DefOk K mg "_law_product" s_product ["_law_factors"] fP fdP) (D_bound : DefOk K mg "_law_bound" s_bound [] fB fdB) : ∀ n : Nat, FnOk P w K mg base CX0 (10 + n) f fd ["_law_thing", "_law_depth"] (spLM n)
  | 0 => lm_body (sp := fun _ _ _ _ => False) 0 F b g fn_none T D_leaf_size G_leaf_size D_nested G_nested D_word_size G_word_size D_product D_bound fun m e => by cases e
  | n + 1 => by
    have G := okl_measure F b g T D_leaf_size G_leaf_size D_nested G_nested D_word_size G_word_size D_product D_bound n
    rw [show 10 + n = 9 + (n + 1) by omega] at G
    refine lm_body (n + 1) F b g G T D_leaf_size G_leaf_size D_nested G_nested D_word_size G_word_size D_product D_bound fun m e l6 x d H R hd h1 h2 r0 r1 => ?_
    obtain rfl : n = m := Nat.succ.inj e
    exact ⟨x, d, by rw [show (7 : Int) - ((n + 1 : Nat) : Int) + 1 = 7 - (n : Int) by omega], by omega, hd, h1, h2, r0, r1⟩
end
end K3
set_option maxRecDepth 100000
set_option maxHeartbeats 4000000
namespace L2
open PySem PySem.Spec PyProof.Rows
/-! ### repr of any such value, with ints of up to 4,300 digits and empty dicts at any place -/
mutual
def okInt : PyData → Prop
  | .int i => i.natAbs < 10 ^ 4300
  | .list l => okInts l
  | .tuple l => okInts l
  | _ => True
def okInts : List PyData → Prop
  | [] => True
  | d :: ds => okInt d ∧ okInts ds
end
section
variable {prog : Program} {w : World} {A : Around} {E : Value → Shared → Prop} {s : Shared}
theorem call_int_reprS {a : Int} {t : Tok} {Q : Value → Shared → Prop} (hn : s.heap.NoDigits) (hlt : a.natAbs < 10 ^ 4300) (h : Q (.str (toString a) s.toks) { s with toks := s.toks + 1 }) :
    wpAny (model prog w) A (call (.builtin "int.__repr__") [.int a t]) Q E s := by
  (refine wpAny_call_entry F.slot_int_repr (typeIs_int s a t) F.entry_int_repr ?_ (F.args_int_repr_1 _); unfold Builtin.«int.__repr__»)
  show wpAny (model prog w) _ (do let r ← Builtin.overDigitLimit? a; _) _ _ s
  exact wpAny_bind (overDigitLimit_any hn (fun _ => wpAny_bind (wpAny_mkStr (wpAny_pure ⟨_, rfl, h⟩) (int_text_fits10 hlt))) (fun hge => absurd hlt (Nat.not_lt.mpr hge)))
theorem pyReprObj_intS {a : Int} {t : Tok} {Q : Value → Shared → Prop} (hu : A.units < cLine) (hn : s.heap.NoDigits) (hlt : a.natAbs < 10 ^ 4300) (h : Q (.str (toString a) s.toks) { s with toks := s.toks + 1 }) :
    wpAny (model prog w) A (pyReprObj (.int a t)) Q E s :=
  wpAny_pyReprObj_slot hu (typeIs_int s a t) F.slot_int_repr.toG (call_int_reprS hn hlt ⟨_, _, rfl, h⟩)
theorem reprK_int {h₀ : Heap} {as : List Addr} {d : Nat} {a : Int} (t : Tok) (hn : h₀.NoDigits) (hlt : a.natAbs < 10 ^ 4300) : ReprK prog w as h₀ d (.int a t) (toString a) := by
  intro base hb A g E s Q _ _ hu hk0 hQ
  have hn' : base ≤ sizeLine := by omega
  (rw [pyReprUnder_leaf (v := .int a t) hn' (fun _ e => nomatch e)]; unfold pyRepr)
  exact wpAny_bind (pyReprObj_intS (by omega) (hn.keeps hk0) hlt (wpAny_pure (hQ s.heap _ fun _ _ e => e)))
end
end L2
namespace K3
open PySem PySem.Spec PyProof.Rows L2
section
variable {P : Program} {w : World} {H : Hp} {h : Heap}
mutual
theorem dat_repr (ok : HOk P w H h) (nd : h.NoDigits) : ∀ {v : V} {d : PyData} {u : Value}, Dat H v d → RelV v u → okInt d → d.shown.length ≤ sizeLine → ∃ as bs, Reads h u d as ∧ ReadAtMost h d.depth bs ∧ ReprK P w bs h d.depth u d.shown
  | _, _, _, .non, r, _, _ => by
    cases r
    exact ⟨[], [], .none, (fun _ z => nomatch z), by simp only [PyData.shown]; exact .of_is ReprIs.none _ _ _⟩
  | _, _, _, .bl b, r, _, _ => by
    cases r
    exact ⟨[], [], .bool b, (fun _ z => nomatch z), by simp only [PyData.shown]; exact .of_is (ReprIs.bool b) _ _ _⟩
  | _, _, _, .int i, r, hi, _ => by
    obtain ⟨t, rfl⟩ := r
    exact ⟨[], [], .int i t, (fun _ z => nomatch z), by simp only [PyData.shown]; exact reprK_int t nd (by simpa only [okInt] using hi)⟩
  | _, _, _, .str x _, r, _, hz => by
    obtain ⟨t, rfl⟩ := r
    exact ⟨[], [], .str x t, (fun _ z => nomatch z), by simp only [PyData.shown]; exact .of_is (ReprIs.str x t (by simpa only [PyData.shown] using hz)) _ _ _⟩
  | _, _, _, .lst (a := a) (xs := xs) (ds := ds) e t, r, hi, hz => by
    cases r
    obtain ⟨_, its, m, rv, ho⟩ := (show ObjOk P w H h a (.lst xs) from ok a _ e)
    have hz' : (listText (PyData.shownAll ds)).length ≤ sizeLine := by simpa only [PyData.shown] using hz
    obtain ⟨as, bs, ra, hb, hk⟩ := datAll_repr ok nd t rv (by simpa only [okInt] using hi) (fun q hq => Nat.le_trans (listText_mem_le hq) hz')
    have rl : Reads h (.ref a) (.list ds) _ := .list ho rfl rfl ra
    refine ⟨_, a :: bs, rl, ReadAtMost.cons rl (by simp only [PyData.depth]; omega) hb, ?_⟩
    have hna : a ∉ bs := not_mem_of_deeper rl (by simp only [PyData.depth]; omega) hb
    simp only [PyData.depth, PyData.shown]
    cases its with
    | nil =>
      cases ra
      simp only [PyData.shownAll, listText_nil]
      exact ReprK.listEmpty ho rfl rfl
    | cons x l => exact ReprK.list (na := _) ho rfl rfl hna (by simpa using hk.length_eq) (fun i y e' => hk.item i y (by simpa using e'))
  | _, _, _, .tup (a := a) (xs := xs) (ds := ds) e t, r, hi, hz => by
    cases r
    obtain ⟨_, its, rv, o, ho, hc, m, hd⟩ := (show ObjOk P w H h a (.tup xs) from ok a _ e)
    have hz' : (tupleText (PyData.shownAll ds)).length ≤ sizeLine := by simpa only [PyData.shown] using hz
    obtain ⟨as, bs, ra, hb, hk⟩ := datAll_repr ok nd t rv (by simpa only [okInt] using hi) (fun q hq => Nat.le_trans (tupleText_mem_le hq) hz')
    have rl : Reads h (.ref a) (.tuple ds) _ := .tuple ho hc hd ra
    refine ⟨_, a :: bs, rl, ReadAtMost.cons rl (by simp only [PyData.depth]; omega) hb, ?_⟩
    have hna : a ∉ bs := not_mem_of_deeper rl (by simp only [PyData.depth]; omega) hb
    simp only [PyData.depth, PyData.shown]
    exact ReprK.tuple ho hc hd hna hk
  | _, _, _, .d0 (a := a) e, r, _, _ => by
    cases r
    obtain ⟨_, ns, vs, kv, o, es, ep, ho, hx, hd, hk, hp, _⟩ := (show ObjOk P w H h a (.dK []) from ok a _ e)
    cases kv
    have e0 : es.toList = [] := by
      generalize es.toList = l at hp
      cases hp
      rfl
    have rl : Reads h (.ref a) (.dict []) (a :: [] ++ []) := .dict (kvs := []) ho hx.1 hd (by rw [e0]; exact .nil) (by rw [e0]; exact .nil)
    have hsys : (a == sysModules) = false := beq_eq_false_iff_ne.mpr fun z => by
      rw [z] at ns
      simp at ns
    refine ⟨_, [a], rl, ReadAtMost.cons (n := 0) rl (Nat.zero_le _) (fun _ z => nomatch z), ?_⟩
    have k := ReprK.dict (prog := P) (w := w) (as := []) (d := 0) (ps := []) ho hx.1 hd hsys (by simp) (by rw [e0]; exact .nil)
    have k' := k.level_le (d' := (PyData.dict []).depth) (by simp [PyData.depth, PyData.depthKv])
    simpa only [PyData.shown, PyData.shownKv] using k'
theorem datAll_repr (ok : HOk P w H h) (nd : h.NoDigits) : ∀ {vs : List V} {ds : List PyData} {us : List Value}, DatAll H vs ds → Vals vs us → okInts ds → (∀ t ∈ PyData.shownAll ds, t.length ≤ sizeLine) →
    ∃ as bs, ReadsAll h us ds as ∧ ReadAtMost h (PyData.depthAll ds) bs ∧ ReprAllK P w bs h (PyData.depthAll ds) us (PyData.shownAll ds)
  | _, _, _, .nil, .nil, _, _ => ⟨[], [], .nil, (fun _ z => nomatch z), by simp only [PyData.shownAll]; exact .nil⟩
  | _, _, _, .cons (d := d) (ds := ds) t ts, .cons r rs, hi, hz => by
    have hi' : okInt d ∧ okInts ds := by simpa only [okInts] using hi
    obtain ⟨as, b1, ra, hb1, k1⟩ := dat_repr ok nd t r hi'.1 (hz _ (by simp only [PyData.shownAll]; exact List.mem_cons_self ..))
    obtain ⟨cs, b2, rb, hb2, k2⟩ := datAll_repr ok nd ts rs hi'.2 (fun q hq => hz q (by simp only [PyData.shownAll]; exact List.mem_cons_of_mem _ hq))
    refine ⟨as ++ cs, b1 ++ b2, .cons ra rb, ?_, ?_⟩
    · simp only [PyData.depthAll]
      exact (hb1.mono (Nat.le_max_left _ _)).append (hb2.mono (Nat.le_max_right _ _))
    · simp only [PyData.depthAll, PyData.shownAll]
      refine .cons ((k1.more fun b hb => List.mem_append_left _ hb).level_le (Nat.le_max_left _ _)) ?_
      exact k2.more_le (fun b hb => List.mem_append_right _ hb) (Nat.le_max_right _ _)
end
end
section
variable {X : Cx}
theorem nodig {K : PySem.W.Frag} {mg : Str → Option Value} {h : Heap} (M : L2.Mod K mg h) (e : PySem.W.nsIn K cStatics "sys.int_max_str_digits" = some none) : h.NoDigits := by
  obtain ⟨mc, h1, _⟩ := M.nolimit
  exact ⟨mc, h1, PySem.W.ns_none_of M.kin h1 e⟩
def rReprD : List V → Hp → VK → Prop := fun xs H Q => ∃ v d, xs = [v] ∧ Dat H v d ∧ okInt d ∧ d.depth ≤ 64 ∧ d.shown.length ≤ sizeLine ∧ Q (.str d.shown) H
theorem call_reprD (hg : X.A.guards = some []) (hu : X.A.units + 128 < cLine) (e : PySem.W.nsIn X.K cStatics "sys.int_max_str_digits" = some none) : CallR X (.builtin "repr") rReprD := by
  intro pins s σ H xs us Q I r hh
  obtain ⟨v, d, rfl, th, hi, hd, hz, q⟩ := hh
  obtain ⟨u, rfl, ru⟩ := vals1 r
  have nd : s.heap.NoDigits := (nodig I.ok.mod e).keeps I.bk
  have done : ∀ (h' : Heap) (u tk : Nat), (∀ b o, s.heap.get? b = some o → h'.get? b = some o) → EP X pins σ Q (.str d.shown u) { s with heap := h', toks := tk } := fun h' u tk k => ⟨.str _, H, I.kept (t' := tk) k, ⟨_, rfl⟩, q⟩
  cases th with
  | non =>
    cases ru
    exact PySem.P.repr_of_none (by simpa only [PyData.shown] using done s.heap _ _ fun _ _ e => e)
  | bl b =>
    cases ru
    exact PySem.P.repr_of_bool (by simpa only [PyData.shown] using done s.heap _ _ fun _ _ e => e)
  | str x _ =>
    obtain ⟨t, rfl⟩ := ru
    exact PySem.P.repr_of_str (by simpa only [PyData.shown] using done s.heap _ _ fun _ _ e => e) (by simpa only [PyData.shown] using hz)
  | int i =>
    obtain ⟨t, rfl⟩ := ru
    refine call_repr_slot (by omega) (typeIs_int s i t) F.slot_int_repr.toG (call_int_reprS nd (by simpa only [okInt] using hi) ⟨_, _, rfl, ?_⟩)
    simpa only [PyData.shown] using done s.heap _ _ fun _ _ e => e
  | @lst a vs ds e1 t =>
    cases ru
    obtain ⟨_, its, m, rv, ho⟩ := (show ObjOk X.prog X.w H s.heap a (.lst vs) from I.hok a _ e1)
    have hz' : (listText (PyData.shownAll ds)).length ≤ sizeLine := by simpa only [PyData.shown] using hz
    obtain ⟨as, bs, ra, hb, hk⟩ := datAll_repr I.hok nd t rv (by simpa only [okInt] using hi) (fun q hq => Nat.le_trans (listText_mem_le hq) hz')
    have rl : Reads s.heap (.ref a) (.list ds) _ := .list ho rfl rfl ra
    have hna : a ∉ bs := not_mem_of_deeper rl (by simp only [PyData.depth]; omega) hb
    simp only [PyData.depth] at hd
    simp only [PyData.shown] at done
    refine call_repr_slot (by omega) ⟨_, ho, rfl⟩ F.slot_list_repr.toG ?_
    cases its with
    | nil =>
      cases ra
      simp only [PyData.shownAll, listText_nil] at done
      exact call_list_repr_empty ⟨_, ho, rfl⟩ ho rfl ⟨_, _, rfl, done s.heap _ _ fun _ _ e => e⟩
    | cons x l => exact call_list_reprK (h₀ := s.heap) ho rfl rfl hna (by simpa using hk.length_eq) (fun i y e => hk.item i y (by simpa using e)) (A := X.A.in1) (g := []) hg (fun b _ => Clear.nil b) (by show X.A.units + 1 + (PyData.depthAll ds + 1) < cLine; omega) (fun _ _ e => e) (fun h' u tk k => ⟨_, _, rfl, done h' u tk k⟩) hz'
  | @tup a vs ds e1 t =>
    cases ru
    obtain ⟨_, its, rv, o, ho, hc, m, hdd⟩ := (show ObjOk X.prog X.w H s.heap a (.tup vs) from I.hok a _ e1)
    have hz' : (tupleText (PyData.shownAll ds)).length ≤ sizeLine := by simpa only [PyData.shown] using hz
    obtain ⟨as, bs, ra, hb, hk⟩ := datAll_repr I.hok nd t rv (by simpa only [okInt] using hi) (fun q hq => Nat.le_trans (tupleText_mem_le hq) hz')
    have rl : Reads s.heap (.ref a) (.tuple ds) _ := .tuple ho hc hdd ra
    have hna : a ∉ bs := not_mem_of_deeper rl (by simp only [PyData.depth]; omega) hb
    simp only [PyData.depth] at hd
    simp only [PyData.shown] at done
    refine call_repr_slot (by omega) ⟨_, ho, hc⟩ F.slot_tuple_repr ?_
    exact call_tuple_reprK (h₀ := s.heap) ho hc hdd hna hk (A := X.A.in1) (g := []) hg (fun b _ => Clear.nil b) (by show X.A.units + 1 + (PyData.depthAll ds + 1) < cLine; omega) (fun _ _ e => e) (fun h' u tk k => ⟨_, _, rfl, done h' u tk k⟩) hz'
  | @d0 a e1 =>
    cases ru
    obtain ⟨_, ns, vs, kv, o, es, ep, ho, hx, hdd, hk, hp, _⟩ := (show ObjOk X.prog X.w H s.heap a (.dK []) from I.hok a _ e1)
    cases kv
    have e0 : es.toList = [] := by
      generalize es.toList = l at hp
      cases hp
      rfl
    have hsys : (a == sysModules) = false := beq_eq_false_iff_ne.mpr fun z => by
      rw [z] at ns
      simp at ns
    simp only [PyData.shown, PyData.shownKv] at done
    refine call_repr_slot (by omega) ⟨_, ho, hx.1⟩ F.slot_dict_repr ?_
    exact call_dict_reprK (h₀ := s.heap) (as := []) (d := 0) (ps := []) ho hx.1 hdd hsys (by simp) (by rw [e0]; exact .nil) (A := X.A.in1) (g := []) hg (fun b _ => Clear.nil b) (by show X.A.units + 1 + 1 < cLine; omega) (fun _ _ e => e) (fun h' u tk k => ⟨_, _, rfl, done h' u tk k⟩)
end
end K3
set_option maxRecDepth 100000
set_option maxHeartbeats 4000000
namespace L2
open PySem PySem.Spec PyProof.Rows
/-! ### a def that is called where no repr runs -/
structure FnG (P : Program) (w : World) (K : PySem.W.Frag) (mg : Str → Option Value) (base : Heap) (k : Nat) (f : Addr) (fd : FuncData) (ps : List Str) (sp : Sp) : Prop where
  len : ∀ vs H Q E, sp vs H Q E → vs.length = ps.length
  run : ∀ (A : Around) (outer : List Env) (s : Shared) (H : Hp) (args : Args) (us : List Value) (vs : List V) (Q : VK) (E : XK), A.guards = some [] → Room k A → Env0 P w K mg base A outer s H → BindsTo s fd args (ps.zip us) → Vals vs us → sp vs H Q E →
    codeAny (model P w) A (.call (.ref f) args) (CR CX0 outer P w H s Q E) s
section
variable {P : Program} {w : World} {K : PySem.W.Frag} {mg : Str → Option Value} {base : Heap}
theorem Fun.okG {x qual : Str} {st : Stmt} {f : Addr} {fd : FuncData} {N ps : List Str} {k : Nat} {sp : Sp} (F : Fun K x qual st f fd) (S : FnScope N ps (defScope st)) (len : ∀ vs H Q E, sp vs H Q E → vs.length = ps.length)
    (hbody : ∀ (cdv : Value) (A : Around) (outer : List Env) (s : Shared) (H : Hp) (vs : List V) (Q : VK) (E : XK), A.guards = some [] → Room k (A.deeper (envOfC qual (defScope st) s.heap.objs.size f cdv)) → sp vs H Q E →
      ∃ t, PSs (cxOf CX0 P w K mg base N qual (defScope st) f cdv A outer s H E).nox (defBody st) t ∧ t { nx := fun _ H' => Q .non H', rt := Q } (start N vs) H) : FnG P w K mg base (k + 1) f fd ps sp := by
  obtain ⟨oc, od, kV, doc, pm, an, cdv, ct, osl, rfl, lk, hcd⟩ := F.ex
  refine ⟨len, fun A outer s H args us vs Q E hg hr e0 hb r hsp => ?_⟩
  obtain ⟨t, ht, hq⟩ := hbody cdv A outer s H vs Q E hg (hr.deeper _) hsp
  have KX : K.In s.heap := e0.mod.kin.keeps fun b o z => (e0.bs b o z).1
  have inPar : ∀ y ∈ ps.zip us, (defScope st).names.lookup y.1 = some .local ∨ ((defScope st).names.lookup y.1 = some .cell ∧ ((cellsFrom (s.heap.objs.size + 1) (defScope st).names []).lookup y.1).isSome = true) := by
    intro y hy
    have hin : y.1 ∈ ps := (List.of_mem_zip (a := y.1) (b := y.2) hy).1
    rcases S.par y.1 hin with z | z
    · exact .inl z
    · exact .inr ⟨z, PySem.W.cellsFrom_some _ _ _ (.inl z)⟩
  refine codeAny_call_function hr.depth (KX _ _ lk) rfl S.co S.gen rfl (PySem.W.codeRec_of KX hcd) (hb _ _ _ _ ?_)
  refine wpAny_newFunctionEnv_cells S.kind inPar fun env he s1 ic => ?_
  subst he
  have I := inv_start (CX := CX0) (E := E) (cd := cdv) (qual := qual) (f := f) S hr.hd e0 (len _ _ _ _ hsp) r ic
  refine ⟨(e0.mod.nolimit.keeps fun b o z => (e0.bs b o z).1).keeps ic.toInCall.keep, codeAny_func ?_⟩
  refine wpAny_mono (ht.nox.run [] s1 (start N vs) H _ I hq) (fun fl s' q => ?_) fun _ _ z => z
  cases fl with
  | next =>
    obtain ⟨σ', H', J, z⟩ := q
    exact ⟨.non, H', J.os, J.bare, J.base, J.hok, rfl, z⟩
  | ret u =>
    obtain ⟨v, σ', H', J, rv, z⟩ := q
    exact ⟨v, H', J.os, J.bare, J.base, J.hok, rv, z⟩
  | brk =>
    obtain ⟨_, _, _, z⟩ := q
    exact z.elim
  | cont =>
    obtain ⟨_, _, _, z⟩ := q
    exact z.elim
end
section
variable {X : Cx} {k : Nat} {f : Addr} {fd : FuncData} {ps : List Str} {sp : Sp} {x : Str} {p pos : Pos} {e : Expr} {es : List Expr} {t : TA}
theorem pe_callG (F : FnG X.prog X.w X.K X.mg X.base k f fd ps sp) (hg : X.A.guards = some []) (hr : Room k X.A) (gl : Gl X x) (hm : X.mg x = some (.ref f)) (hk : PySem.W.keepIn X.K (.ref f) = true) (hb : Binds X.K fd ps []) (ha : PA X (e :: es) t)
    (hdb : (x == ("__debug__" : Str)) = false := by decide) (he : starEach (e :: es) X.env = (false, eval e X.env) :: starEach es X.env := by rfl) (hpl : (backTo pos (starEach es X.env)).any (·.1) = false := by rfl) :
    PE X (.Call (.Name x p) (e :: es) [] pos) (tCall sp [] E0 t) := by
  refine ⟨fun pins s σ H Q I h => ?_⟩
  refine wpAny_Call_Name_kw (ld_glob I gl hm ?_ hdb)
  refine PySem.W.callWith_K (h₀ := X.base) I.ok.mod.kin hk (thn (ha.run pos pins s σ H _ I h) fun us s1 hh => ?_) he hpl
  obtain ⟨vs, H1, I1, r, q⟩ := hh
  refine ⟨I1.kIn, ?_⟩
  have q' : sp vs H1 Q E0 := by
    have z : sp (vs ++ []) H1 Q E0 := q
    rw [List.append_nil] at z
    exact z
  have hl : us.length = ps.length := r.length.symm.trans (F.len _ _ _ _ q')
  have b := hb s1 us I1.kIn (by rw [List.append_nil]; exact hl)
  rw [List.append_nil] at b
  refine wpAny_call (codeAny_mono (F.run X.A X.stack s1 H1 ⟨us, []⟩ us vs Q E0 hg hr I1.env0 b r q') fun res s' z => ?_)
  cases res with
  | error er => exact False.elim z
  | ok fl =>
    cases fl with
    | ret u => exact I1.after z
    | next => exact False.elim z
    | brk => exact False.elim z
    | cont => exact False.elim z
end
end L2
set_option maxRecDepth 100000
set_option maxHeartbeats 4000000
namespace L2
open PySem PySem.Spec PyProof.Rows
section
variable {P : Program} {w : World} {K : PySem.W.Frag} {mg mb : Str → Option Value} {k : Nat} {fa a : Addr} {fd : FuncData} {x : Str} {sp : Sp} {s1 : Shared} {vs : List Value} {ns : List Int}
/-- the law's call where at most the script is tracked (at a) -/
theorem callG_at (KX : K.In s1.heap) (hns : s1.heap.Ns mainGlobals mg) (hb : s1.heap.Ns builtinsNs mb) (hbb : ∀ x : Str, x ≠ "__name__" → mb x = bootBuiltins x) (hlim : s1.heap.NoLimit) (hg : s1.gens = #[])
    (ha : s1.heap.get? a = some { cls := .type "list", data := .seq vs.toArray }) (hr : Room k callerA) (F : ∀ base : Heap, K.In base → base.Ns mainGlobals mg → FnG P w K mg base k fa fd [x] sp)
    (hbind : ∀ (s : Shared) (u : Value), BindsTo s fd ⟨[u], []⟩ [(x, u)]) (H : Hp) (hO : Only H) (hok : HOk P w H s1.heap) (hA : ∀ b, H b ≠ none → b = a) (hK : H a ≠ none → K.lookup a = none)
    (hsp : sp [.ref a] H (fun v _ => v = .bl true) fun _ _ _ => False) :
    codeAny (model P w) callerA (.call (.ref fa) ⟨[.ref a], []⟩) (fun r s' => r = .ok (.ret (.bool true)) ∧ OldK s1.heap s'.heap ∧ s'.os = s1.os ∧ AllBare s'.gens) s1 := by
  have free : ∀ {b : Addr} {o : Obj}, s1.heap.get? b = some o → o.data ≠ .seq vs.toArray → H b = none := by
    intro b o e hd
    cases q : H b with
    | none => rfl
    | some u =>
      have eb := hA b (by rw [q]; exact fun z => nomatch z)
      rw [eb, ha] at e
      cases e
      exact absurd rfl hd
  have nsB : ∀ {b : Addr} {m : Str → Option Value}, s1.heap.Ns b m → (hidT s1.heap H).Ns b m := by
    intro b m hn
    refine hn.at fun o e => hidT_get e ?_
    obtain ⟨o', es, ep, e', d, -⟩ := hn
    rw [e] at e'
    cases e'
    exact free e (by rw [d]; exact fun z => nomatch z)
  have KB : K.In (hidT s1.heap H) := fun b o e => by
    refine hidT_get (KX b o e) ?_
    cases q : H b with
    | none => rfl
    | some u =>
      have hb0 : H b ≠ none := by rw [q]; exact fun z => nomatch z
      have eb := hA b hb0
      rw [eb] at hb0 e
      rw [hK hb0] at e
      cases e
  have M : Mod K mg (hidT s1.heap H) := ⟨KB, nsB hns, ⟨mb, nsB hb, hbb⟩, by obtain ⟨mc, h1, h2⟩ := hlim; exact ⟨mc, nsB h1, h2⟩⟩
  have e0 : Env0 P w K mg (hidT s1.heap H) callerA [] s1 H := ⟨rfl, M, fun _ _ e => of_hidT e, Nat.le_of_eq (hidT_size _ _), trivial, fun b z => absurd (show b ∈ ([] : List Addr) from z) (List.not_mem_nil), hok, .of_eq hg⟩
  refine codeAny_mono ((F _ KB (nsB hns)).run callerA [] s1 H ⟨[.ref a], []⟩ [.ref a] [.ref a] _ _ rfl hr e0 (hbind s1 (.ref a)) (.cons rfl .nil) hsp) fun r s' z => ?_
  cases r with
  | error e => exact False.elim z
  | ok fl =>
    cases fl with
    | next => exact False.elim z
    | brk => exact False.elim z
    | cont => exact False.elim z
    | ret u =>
      obtain ⟨v, H', os, bare, un, hok', rv, q⟩ := z
      have q' : v = .bl true := q
      subst q'
      obtain rfl : u = Value.bool true := rv
      refine ⟨rfl, OldK.of_keep fun b o e => ?_, os, bare⟩
      cases qb : H b with
      | none => exact un.keep b o e qb (fun z => absurd (show b ∈ ([] : List Addr) from z) (List.not_mem_nil)) (List.not_mem_nil)
      | some y =>
        rcases hO b with z | ⟨ob, xs, z⟩
        · rw [qb] at z
          cases z
        · have e1 := (hok b _ z).1
          have e2 := (hok' b _ (un.frzs b ob _ z)).1
          rw [e] at e1
          cases e1
          exact e2
end
theorem walk_G {l : PySem.W.OpenLaw} {n k : Nat} {q : Program} {loose : List Str} {XP : (Str → Option Value) → Heap → Prop} {YP : World → Heap → Prop} {d : DefRec} {K : Params → PySem.W.Frag} {sp : PySem.W.Frag → Sp} {x : Str}
    (hn : l.most = some n) (hn2 : n ≤ sizeLine) (hdf : d.params.defaults = []) (hr : Room k callerA) (hY : ∀ (w : World) (h : Heap), YP w h → (K w.params).In h)
    (F : ∀ (w : World) (mg : Str → Option Value) (fa : Addr) (h : Heap), (K w.params).In h → h.Ns mainGlobals mg → mg d.name = some (.ref fa) →
      ∃ fd : FuncData, (∀ (s : Shared) (u : Value), BindsTo s fd ⟨[u], []⟩ [(x, u)]) ∧ ∀ base : Heap, (K w.params).In base → base.Ns mainGlobals mg → FnG l.prog w (K w.params) mg base k fa fd [x] (sp (K w.params)))
    (hsp : ∀ (K : PySem.W.Frag) (H : Hp) (a : Addr) (ns : List Int), ns.length ≤ n → Only H → SqL K H a (ns.map V.int) → sp K [.ref a] H (fun v _ => v = .bl true) fun _ _ _ => False) :
    PySem.W.WalkO q loose XP YP l.row.toRowW d [] (fun f vs => PySem.call f vs) := by
  refine Att.attach_call hn hdf fun w s₀ s1 mg mb fa o pm cd doc a vs ns G Y ho hd hcd hmg hobj hints hlen hg => ?_
  have KX := hY w _ Y
  obtain ⟨fd, hb, hF⟩ := F w mg fa _ KX G.T.g hmg
  have hl : ns.length ≤ sizeLine := Nat.le_trans hlen hn2
  have rv := vals_ints hints
  cases hk : (K w.params).lookup a with
  | some oa =>
    have e := KX a oa hk
    rw [hobj] at e
    cases e
    refine callG_at KX G.T.g G.T.b G.T.builtins G.T.nolimit hg hobj hr hF hb (fun _ => none) (fun _ => .inl rfl) (fun b u z => nomatch z) (fun b z => absurd rfl z) (fun z => absurd rfl z) (hsp _ _ a ns hlen (fun _ => .inl rfl) ?_)
    exact .inr ⟨_, vs.toArray, _, hk, rfl, rfl, rfl, by rw [List.size_toArray, hints.length]; exact hl, by simpa using rv⟩
  | none =>
    let H : Hp := fun b => if b = a then some (.frz { cls := .type "list", data := .seq vs.toArray } (.lst (ns.map V.int))) else none
    have Ha : H a = some (.frz { cls := .type "list", data := .seq vs.toArray } (.lst (ns.map V.int))) := if_pos rfl
    have Hn : ∀ {b : Addr}, b ≠ a → H b = none := fun h => if_neg h
    have only : Only H := fun b => by
      by_cases hb : b = a
      · exact .inr ⟨_, _, by rw [hb]; exact Ha⟩
      · exact .inl (Hn hb)
    refine callG_at KX G.T.g G.T.b G.T.builtins G.T.nolimit hg hobj hr hF hb H only (fun b u z => ?_) (fun b z => ?_) (fun _ => hk) (hsp _ H a ns hlen only (.inl (.inr ⟨_, Ha⟩)))
    · by_cases hb : b = a
      · rw [hb, Ha] at z
        cases z
        rw [hb]
        exact ⟨hobj, by rw [List.length_map]; exact hl, vs, _, rv, hobj⟩
      · rw [Hn hb] at z
        cases z
    · by_cases hb : b = a
      · exact hb
      · exact absurd (Hn hb) z
end L2
set_option maxRecDepth 100000
set_option maxHeartbeats 4000000
namespace L2
open PySem PySem.Spec PyProof.Rows
/-! ### f(k = v, ..), nothing by position -/
def tCallKw (sp : Sp) (gV : List V → List V → List V) (E : XK) (tk : TA) : TE := fun σ H Q => tk σ H fun zs H1 => sp (gV [] zs) H1 Q E
section
variable {X : Cx} {CX : CXT} {k : Nat} {f : Addr} {fd : FuncData} {ps ks : List Str} {sp : Sp} {E : XK} {x : Str} {p pos : Pos} {kws : List Keyword} {tk : TA} {g : List Value → List Value → List Value} {gV : List V → List V → List V}
theorem pe_callKw (F : FnOk X.prog X.w X.K X.mg X.base CX k f fd ps sp) (hr : Room k X.A) (hg : Gl X x) (hm : X.mg x = some (.ref f)) (hk : PySem.W.keepIn X.K (.ref f) = true) (hb : KBinds X.K fd ps ks g gV) (hx : Passes CX X E)
    (hkw : PK X kws tk) (hall : (backToKw pos (keywordEach kws X.env)).all (·.1.isSome) = true := by rfl) (hks : (backToKw pos (keywordEach kws X.env)).filterMap (·.1) = ks := by rfl) (hdb : (x == ("__debug__" : Str)) = false := by decide)
    (hpl : ((backTo pos (starEach [] X.env)).any (·.1) || (backToKw pos (keywordEach kws X.env)).any (·.1.isNone)) = false := by rfl) :
    PE X (.Call (.Name x p) [] kws pos) (tCallKw sp gV E tk) := by
  refine ⟨fun pins s σ H Q I h => wpAny_Call_Name_kw (ld_glob I hg hm ?_ hdb)⟩
  refine PySem.W.callWith_KW0 (h₀ := X.base) I.ok.mod.kin hk hall (thn (hkw.run pos pins s σ H _ I h) fun ws s2 hh => ?_) hpl
  obtain ⟨zs, H2, I2, rz, q2⟩ := hh
  refine ⟨I2.kIn, ?_⟩
  rw [hks]
  exact run_fnk (us := []) (vs := []) F hr hb hx I2 .nil rz q2
end
end L2
namespace K3
open PySem PySem.Spec PyProof.Rows L2
/-! ### one value is answered as the second implementation says -/
abbrev s_right : Stmt := top 101
/-- a value as the law makes them -/
structure Ok (d : PyData) : Prop where
  oki : okInt d
  dep : d.depth ≤ 60
  nod : nodes d ≤ 100000
  itm : itm d ≤ 800
  len : d.shown.length ≤ sizeLine
  six : sixN 6 d = true
def spRight : Sp := fun vs H Q _ => ∃ (v : V) (d : PyData), vs = [v] ∧ Dat H v d ∧ Ok d ∧ ∀ H', Same H H' → Q (.bl true) H'
theorem dat_bls {H : Hp} {a : Addr} {b c : Bool} (h : H a = some (.lst [.bl b, .bl c])) : Dat H (.ref a) (.list [.bool b, .bool c]) := .lst h (.cons (.bl b) (.cons (.bl c) .nil))
theorem shown2 (b c : Bool) : okInt (.list [.bool b, .bool c]) ∧ (PyData.list [.bool b, .bool c]).depth ≤ 64 ∧ (PyData.list [.bool b, .bool c]).shown.length ≤ sizeLine := by
  refine ⟨by simp [okInt, okInts], by simp [PyData.depth, PyData.depthAll], ?_⟩
  have z : (PyData.list [.bool b, .bool c]).shown.length ≤ 20 := by cases b <;> cases c <;> decide +kernel
  exact Nat.le_trans z (by decide)
theorem dat_is {H : Hp} {a : Addr} {i j : Int} (h : H a = some (.lst [.int i, .int j])) : Dat H (.ref a) (.list [.int i, .int j]) := .lst h (.cons (.int i) (.cons (.int j) .nil))
theorem shownI {i : Int} (h : i.natAbs < 10 ^ 4000) : okInt (.list [.int i, .int i]) ∧ (PyData.list [.int i, .int i]).depth ≤ 64 ∧ (PyData.list [.int i, .int i]).shown.length ≤ sizeLine := by
  have h3 : i.natAbs < 10 ^ 4300 := Nat.lt_of_lt_of_le h (Nat.pow_le_pow_right (by decide) (by decide))
  refine ⟨by simp only [okInt, okInts, and_true]; exact ⟨h3, h3⟩, by simp [PyData.depth, PyData.depthAll], ?_⟩
  have e : (PyData.shown (.int i)).length ≤ 4100 := by
    have z := int_text_length_le10 (a := i) (k := 4000) (by decide) h
    simp only [PyData.shown]
    rw [PySem.ofString_length]
    omega
  have z := PyData.shown_le_bulk 4100 (by decide) (.list [.int i, .int i]) (by simp only [PyData.leavesShort, PyData.leavesShortAll, decide_eq_true e]; rfl)
  have y : (PyData.list [.int i, .int i]).bulk ≤ 10 := by simp [PyData.bulk, PyData.bulkAll]
  rw [sizeLine_eq]
  omega
def Found (H : Hp) (x : V) (d : PyData) : Prop := (x = .non ∧ spaceB d = false) ∨ ∃ (p : Addr) (n l s : Nat), x = .ref p ∧ spaceB d = true ∧ wfT 6 d = true ∧ msN 6 d = some (l, s) ∧ s < bigN ∧ H p = some (.tup [.int (n : Nat), .int (l : Nat), .int (s : Nat)])
theorem found_of {d : PyData} {n l s : Nat} (h6 : sixN 6 d = true) (e : lmN 6 d = some (n, l, s)) : spaceB d = true ∧ wfT 6 d = true ∧ msN 6 d = some (l, s) ∧ s < bigN := by
  have e1 := lm_space h6
  rw [e] at e1
  rw [lm_eq 6 d h6] at e
  refine ⟨e1.symm, ?_⟩
  by_cases c : (wfT 6 d && decide (szN 6 d ≤ 40)) = true
  · rw [if_pos c] at e
    rw [Bool.and_eq_true] at c
    unfold withN at e
    cases hm : msN 6 d with
    | none =>
      rw [hm] at e
      cases e
    | some p =>
      obtain ⟨l', s'⟩ := p
      rw [hm] at e
      injection e with e
      injection e with e2 e
      injection e with e3 e4
      subst e3 e4
      exact ⟨c.1, rfl, (ms_bd hm).2⟩
  · rw [if_neg c] at e
    cases e
section
variable {P : Program} {w : World} {K : PySem.W.Frag} {mg : Str → Option Value} {base : Heap}
theorem sc_right : FnScope ["_law_thing", "_law_kept", "_law_found", "_law_told"] ["_law_thing"] (defScope s_right) := ⟨rfl, rfl, rfl, by decide +kernel, rfl, by decide +kernel, by decide +kernel⟩
theorem okl_right {f fL fS fZ : Addr} {fd fdL fdS fdZ : FuncData} (F : Fun K "_law_right" "_law_right" s_right f fd) (T : Nm mg) (Tr : mg "repr" = none) (eS : PySem.W.nsIn K cStatics "sys.int_max_str_digits" = some none)
    (D_measure : DefOk K mg "_law_measure" s_measure ["_law_thing", "_law_depth"] fL fdL) (G_measure : ∀ base : Heap, FnOk P w K mg base CX0 16 fL fdL ["_law_thing", "_law_depth"] (spLM 6))
    (D_is_space : DefOk K mg "is_space" s_is_space ["value"] fS fdS) (G_is_space : ∀ base : Heap, FnOk P w K mg base CX0 18 fS fdS ["value"] spSpace)
    (kb : KBinds K fdS ["value"] ["value"] (fun us ws => us ++ ws) (fun vs zs => vs ++ zs))
    (D_size_of : DefOk K mg "size_of" sSizeOf ["space"] fZ fdZ) (G_size_of : ∀ base : Heap, FnOk P w K mg base CX0 17 fZ fdZ ["space"] (spSzOf 6))
    (kz : KBinds K fdZ ["space"] ["space"] (fun us ws => us ++ ws) (fun vs zs => vs ++ zs)) : FnG P w K mg base 19 f fd ["_law_thing"] spRight := by
  refine F.okG sc_right (fun vs H Q E h => ?_) (fun cdv A outer s H vs Q E hg hr h => ?_)
  · obtain ⟨v, d, rfl, _⟩ := h
    rfl
  · obtain ⟨v, d, rfl, hd, O, q⟩ := h
    have hu0 := hr.units0
    have hu : (A.deeper (envOfC "_law_right" (defScope s_right) s.heap.objs.size f cdv)).units + 128 < cLine := by
      have := hr.un
      omega
    have hr16 : Room 16 _ := hr.mono (by decide)
    have hr17 : Room 17 _ := hr.mono (by decide)
    refine ⟨_, (C8.pss_cut (ps_par (i := 1) (j := 2) rfl sc_right.nd rfl rfl (by decide) rfl rfl (pa_cons (pe_callB (call_reprD hg hu eS) (by rfl) Tr (by decide +kernel) (pa_cons (pv 0) pa_nil)) (pa_cons (pe_call (G_measure _) hr16 rfl D_measure.g D_measure.F.kp D_measure.b .nil pass0 (pa_cons (pv 0) (pa_cons pe_int pa_nil))) pa_nil)) (by rfl))
      (pss_cons (ps_set (i := 3) sc_right.nd rfl (Or.inl rfl) (pe_lst (pa_cons (pe_call (G_is_space _) hr rfl D_is_space.g D_is_space.F.kp D_is_space.b .nil pass0 (pa_cons (pv 0) pa_nil)) (pa_cons (pe_callKw (G_is_space _) hr rfl D_is_space.g D_is_space.F.kp kb pass0 (pk_cons (pv 0) pk_nil)) pa_nil))))
      (pss_cons (ps_if (PW.pt (pw_or (pt_cmpR op_ne (pe_callB (call_reprD hg hu eS) (by rfl) Tr (by decide +kernel) (pa_cons (pv 3) pa_nil)) (pe_callB (call_reprD hg hu eS) (by rfl) Tr (by decide +kernel) (pa_cons (pe_op op_rep (pe_lst (pa_cons (pe_cmpR op_notN (pv 2) pe_non (nomark _)) pa_nil)) pe_int) pa_nil)) (nomark _)) (pw_or1 (pt_cmpR op_ne (pe_callB (call_reprD hg hu eS) (by rfl) Tr (by decide +kernel) (pa_cons (pv 0) pa_nil)) (pv 1) (nomark _)))))
        (pss_one (ps_ret pe_bl))
        pss_nil)
      (pss_one (ps_ret (pe_or (pe_cmpR op_isN (pv 2) pe_non (nomark _)) (pe_one (pe_cmpR op_eq (pe_callB (call_reprD hg hu eS) (by rfl) Tr (by decide +kernel) (pa_cons (pe_lst (pa_cons (pe_call (G_size_of _) hr17 rfl D_size_of.g D_size_of.F.kp D_size_of.b .nil pass0 (pa_cons (pv 0) pa_nil)) (pa_cons (pe_callKw (G_size_of _) hr17 rfl D_size_of.g D_size_of.F.kp kz pass0 (pk_cons (pv 0) pk_nil)) pa_nil))) pa_nil)) (pe_callB (call_reprD hg hu eS) (by rfl) Tr (by decide +kernel) (pa_cons (pe_op op_rep (pe_lst (pa_cons (pe_ix ix_tup (pv 2) pe_int (fun _ _ => rfl)) pa_nil)) pe_int) pa_nil)) (nomark _))))))))), ?_⟩
    have hdep : d.depth ≤ 64 := Nat.le_trans O.dep (by decide)
    refine ⟨fun σ H' => ∃ x : V, σ = [some v, some (.str d.shown), some x, none] ∧ Same H H' ∧ Found H' x d, ?_, ?_⟩
    · refine ⟨_, rfl, v, d, rfl, hd, O.oki, hdep, O.len, _, rfl, v, d, rfl, by decide, hd, O.nod, O.itm, fun H2 S2 e => ⟨_, _, rfl, _, rfl, S2, .inl ⟨rfl, ?_⟩⟩, fun p n l s H2 S2 e hp => ⟨_, _, rfl, _, rfl, S2, .inr ⟨p, n, l, s, rfl, ?_⟩⟩⟩
      · rw [← lm_space O.six, e]
        rfl
      · obtain ⟨a, b, c, g⟩ := found_of O.six e
        exact ⟨a, b, c, g, hp⟩
    · rintro σ H1 ⟨x, rfl, S1, hx⟩
      have hd1 := hd.same S1
      have hxb : decide (x = V.non) = !spaceB d := by
        rcases hx with ⟨rfl, e⟩ | ⟨p, n, l, s, rfl, e, _⟩
        · rw [e]
          rfl
        · rw [e]
          exact decide_eq_false fun z => nomatch z
      refine ⟨_, rfl, v, d, rfl, hd1, fun H2 S2 => ⟨_, rfl, v, d, rfl, hd1.same S2, fun H3 S3 => ⟨(by show 2 ≤ sizeLine; decide), fun p np => ?_⟩⟩⟩
      have S4 := same_new (o := HO.lst [.bl (spaceB d), .bl (spaceB d)]) np
      have e4 : upd H3 p (.lst [.bl (spaceB d), .bl (spaceB d)]) p = some (.lst [.bl (spaceB d), .bl (spaceB d)]) := upd_same
      generalize upd H3 p (.lst [.bl (spaceB d), .bl (spaceB d)]) = H4 at S4 e4 ⊢
      refine ⟨_, rfl, _, _, rfl, dat_bls e4, (shown2 _ _).1, (shown2 _ _).2.1, (shown2 _ _).2.2, ?_⟩
      refine ⟨_, rfl, rfl, ?_⟩
      rw [hxb, Bool.not_not]
      refine ⟨(by show 1 ≤ sizeLine; decide), fun l nl => ?_⟩
      have S5 := same_new (o := HO.lst [.bl (spaceB d)]) nl
      have e5 : upd H4 l (.lst [.bl (spaceB d)]) l = some (.lst [.bl (spaceB d)]) := upd_same
      generalize upd H4 l (.lst [.bl (spaceB d)]) = H5 at S5 e5 ⊢
      refine ⟨l, 2, _, rfl, rfl, e5, by decide, by decide, (by show 1 * 2 ≤ sizeLine; decide), fun p2 np2 => ?_⟩
      rw [show (List.replicate (2 : Int).toNat [V.bl (spaceB d)]).flatten = [.bl (spaceB d), .bl (spaceB d)] from rfl]
      have S6 := same_new (o := HO.lst [.bl (spaceB d), .bl (spaceB d)]) np2
      have e6 : upd H5 p2 (.lst [.bl (spaceB d), .bl (spaceB d)]) p2 = some (.lst [.bl (spaceB d), .bl (spaceB d)]) := upd_same
      generalize upd H5 p2 (.lst [.bl (spaceB d), .bl (spaceB d)]) = H6 at S6 e6 ⊢
      refine ⟨_, _, rfl, dat_bls e6, (shown2 _ _).1, (shown2 _ _).2.1, (shown2 _ _).2.2, ?_⟩
      generalize (PyData.list [.bool (spaceB d), .bool (spaceB d)]).shown = PS
      refine ⟨rfl, _, rfl, if_f (by rw [decide_eq_true rfl]; rfl) ?_⟩
      have S16 : Same H1 H6 := (((S2.trans S3).trans S4).trans S5).trans S6
      refine ⟨_, rfl, v, d, rfl, hd1.same S16, O.oki, hdep, O.len, _, rfl, rfl, ?_⟩
      generalize d.shown = DS
      refine ⟨_, rfl, if_f (by rw [decide_eq_true rfl]; rfl) ?_⟩
      refine ⟨_, rfl, rfl, _, rfl, ?_⟩
      rw [hxb]
      rcases hx with ⟨rfl, e⟩ | ⟨pf, n, lv, sz, rfl, e, hw, hm, hs, hpf⟩
      · rw [e]
        exact if_t rfl (q H6 (S1.trans S16))
      · rw [e]
        refine if_f rfl ?_
        have hd6 := hd1.same S16
        have hp6 := S16 _ _ hpf
        have hI : ((sz : Nat) : Int).natAbs < 10 ^ 4000 := by
          rw [Int.natAbs_natCast]
          exact hs
        refine ⟨_, rfl, v, d, lv, sz, rfl, hd6, hw, hm, fun H7 S7 => ⟨_, rfl, v, d, lv, sz, rfl, hd6.same S7, hw, hm, fun H8 S8 => ⟨(by show 2 ≤ sizeLine; decide), fun p3 np3 => ?_⟩⟩⟩
        have S9 := same_new (o := HO.lst [.int (sz : Nat), .int (sz : Nat)]) np3
        have e9 : upd H8 p3 (.lst [.int (sz : Nat), .int (sz : Nat)]) p3 = some (.lst [.int (sz : Nat), .int (sz : Nat)]) := upd_same
        generalize upd H8 p3 (.lst [.int (sz : Nat), .int (sz : Nat)]) = H9 at S9 e9 ⊢
        refine ⟨_, _, rfl, dat_is e9, (shownI hI).1, (shownI hI).2.1, (shownI hI).2.2, ?_⟩
        have S69 := (S7.trans S8).trans S9
        refine ⟨_, rfl, pf, _, _, _, rfl, rfl, SqT.of (S69 _ _ hp6), atI_nat (j := 2) rfl, (by show 1 ≤ sizeLine; decide), fun l2 nl2 => ?_⟩
        have SA := same_new (o := HO.lst [.int (sz : Nat)]) nl2
        have eA : upd H9 l2 (.lst [.int (sz : Nat)]) l2 = some (.lst [.int (sz : Nat)]) := upd_same
        generalize upd H9 l2 (.lst [.int (sz : Nat)]) = HA at SA eA ⊢
        refine ⟨l2, 2, _, rfl, rfl, eA, by decide, by decide, (by show 1 * 2 ≤ sizeLine; decide), fun p4 np4 => ?_⟩
        rw [show (List.replicate (2 : Int).toNat [V.int (sz : Nat)]).flatten = [.int (sz : Nat), .int (sz : Nat)] from rfl]
        have SB := same_new (o := HO.lst [.int (sz : Nat), .int (sz : Nat)]) np4
        have eB : upd HA p4 (.lst [.int (sz : Nat), .int (sz : Nat)]) p4 = some (.lst [.int (sz : Nat), .int (sz : Nat)]) := upd_same
        generalize upd HA p4 (.lst [.int (sz : Nat), .int (sz : Nat)]) = HB at SB eB ⊢
        refine ⟨_, _, rfl, dat_is eB, (shownI hI).1, (shownI hI).2.1, (shownI hI).2.2, rfl, ?_⟩
        generalize (PyData.list [.int (sz : Nat), .int (sz : Nat)]).shown = PI
        have q1 := q HB ((S1.trans S16).trans ((S69.trans SA).trans SB))
        rw [← decide_eq_true (rfl : V.str PI = V.str PI)] at q1
        exact q1
end
end K3
set_option maxRecDepth 100000
set_option maxHeartbeats 4000000
namespace K3
open PySem PySem.Spec PyProof.Rows L2
/-! ### names: up to 20 of a kind, ascending -/
abbrev s_names : Stmt := top 92
def sLt (a b : Str) : Bool := decide (a.cps.toList < b.cps.toList)
def sgT (at' k : Nat) : Str := ⟨#[97 + (at' + 7 * k) % 26]⟩
def nmT (w at' k : Nat) : Str := if w = 0 then sgT at' k else if w = 1 then "abcde" ++ sgT at' k else sgT at' k ++ cutS "zyxwv" none (some ((k % 6 : Nat) : Int))
theorem nm_name : ∀ (w : Fin 3) (a : Fin 26) (k : Fin 20), nameB (.str (nmT w.val a.val k.val)) = true := by decide +kernel
theorem nm_nodup : ∀ (w : Fin 3) (a : Fin 26), ((List.range 20).map fun k => (nmT w.val a.val k).cps.toList).Nodup := by decide +kernel
theorem rising_le : ∀ (r : List Str) (p : Str), risingS p r = true → ∀ y ∈ r, p.cps.toList ≤ y.cps.toList
  | [], _, _, y, hy => by simp at hy
  | x :: r, p, h, y, hy => by
    have h' : (!ltCps x.cps.toList p.cps.toList && risingS x r) = true := h
    rw [Bool.and_eq_true, Bool.not_eq_true', ltCps_eq] at h'
    have px : p.cps.toList ≤ x.cps.toList := List.not_lt.mp (of_decide_eq_false h'.1)
    rcases List.mem_cons.mp hy with e | e
    · rw [e]
      exact px
    · exact List.le_trans px (rising_le r x h'.2 y e)
theorem le_sLt {a b : Str} (h : a.cps.toList ≤ b.cps.toList) (n : a ≠ b) : sLt a b = true := by
  unfold sLt
  refine decide_eq_true ?_
  by_cases z : a.cps.toList < b.cps.toList
  · exact z
  · refine absurd ?_ n
    exact Str.ext' (Array.toList_inj.mp (List.le_antisymm h (List.not_lt.mp z)))
theorem rising_asc : ∀ (r : List Str) (p : Str), risingS p r = true → (p :: r).Nodup → (p :: r).Pairwise (fun a b => sLt a b = true)
  | [], p, _, _ => by simp
  | x :: r, p, h, n => by
    have h' : (!ltCps x.cps.toList p.cps.toList && risingS x r) = true := h
    rw [Bool.and_eq_true] at h'
    rw [List.nodup_cons] at n
    refine List.pairwise_cons.mpr ⟨fun y hy => ?_, rising_asc r x h'.2 n.2⟩
    exact le_sLt (rising_le (x :: r) p h y hy) (fun e => n.1 (by rw [e]; exact hy))
theorem sorted_asc {l : List Str} (h : sortedS l = true) (n : l.Nodup) : l.Pairwise (fun a b => sLt a b = true) := by
  cases l with
  | nil => exact .nil
  | cons p r => exact rising_asc r p h n
def txtOk (_ : Str) : Bool := true
def nmF (x : Str) : Bool := x.cps.toList.all (fun c => decide (c < 128)) && (!(x == "item") && decide (x.length ≤ 6))
theorem nm_fine : ∀ (w : Fin 3) (a : Fin 26) (k : Fin 20), nmF (nmT w.val a.val k.val) = true := by decide +kernel
/-- names as the maker gives them -/
structure Names (ns : List Str) : Prop where
  nm : ∀ x ∈ ns, nameB (.str x) = true
  fi : ∀ x ∈ ns, nmF x = true
  asc : ns.Pairwise (fun a b => sLt a b = true)
theorem names_of {w a m : Nat} (hw : w < 3) (ha : a < 26) (hm : m ≤ 20) {ys : List Str} (hp : ys.Perm ((List.range m).map (nmT w a))) (hs : sortedS ys = true) : Names ys ∧ ys.length = m := by
  have nd : ((List.range m).map (nmT w a)).Nodup := by
    have z := nm_nodup ⟨w, hw⟩ ⟨a, ha⟩
    have y : ((List.range 20).map (nmT w a)).Nodup := by
      refine List.pairwise_map.mpr ((List.pairwise_map.mp z).imp ?_)
      intro x y h e
      refine h ?_
      show (nmT w a x).cps.toList = (nmT w a y).cps.toList
      rw [e]
    exact y.sublist ((List.range_sublist.mpr hm).map _)
  refine ⟨⟨fun x hx => ?_, fun x hx => ?_, sorted_asc hs (hp.nodup_iff.mpr nd)⟩, by rw [hp.length_eq, List.length_map, List.length_range]⟩
  · obtain ⟨k, hk, rfl⟩ := List.mem_map.mp (hp.mem_iff.mp hx)
    exact nm_name ⟨w, hw⟩ ⟨a, ha⟩ ⟨k, Nat.lt_of_lt_of_le (List.mem_range.mp hk) hm⟩
  · obtain ⟨k, hk, rfl⟩ := List.mem_map.mp (hp.mem_iff.mp hx)
    exact nm_fine ⟨w, hw⟩ ⟨a, ha⟩ ⟨k, Nat.lt_of_lt_of_le (List.mem_range.mp hk) hm⟩
theorem dk_upd {H : Hp} {p q r : Addr} {b : Nat} {o : HO} (D : Dk H p q b) (h1 : r ≠ p) (h2 : r ≠ q) : Dk (upd H r o) p q b := by
  obtain ⟨ns, m, c, D, hc⟩ := D
  exact ⟨ns, m, c, ⟨by rw [upd_ne h1.symm]; exact D.ob, by rw [upd_ne h2.symm]; exact D.ce, D.m0, D.m1, D.c0, D.c1, D.ln⟩, hc⟩
def spNms : Sp := fun vs H Q _ => ∃ (p q : Addr) (b m : Nat), vs = [.ref p, .int (m : Nat)] ∧ m ≤ 20 ∧ Dk H p q b ∧ b + 2 ≤ 100000000 ∧
  ∀ (t : Addr) (ns : List Str) (H' : Hp), Off p q H H' → Dk H' p q (b + 2) → H' t = some (.lst (ns.map .str)) → t ≠ p → t ≠ q → ns.length = m → Names ns → Q (.ref t) H'
theorem nat_of {i : Int} (h : 0 ≤ i) : ∃ j : Nat, i = j := ⟨i.toNat, by omega⟩
theorem letter_at : ∀ j : Fin 26, atI letters.cps.toList ((j.val : Nat) : Int) = some (97 + j.val) := by decide +kernel
end K3
set_option maxRecDepth 100000
set_option maxHeartbeats 4000000
namespace K3
open PySem PySem.Spec PyProof.Rows L2
section
variable {P : Program} {w : World} {K : PySem.W.Frag} {mg : Str → Option Value} {base : Heap}
theorem sc_names : FnScope ["_law_deck_here", "_law_many", "_law_letters", "_law_way", "_law_at", "_law_found", "_law_k", "_law_sign"] ["_law_deck_here", "_law_many"] (defScope s_names) := ⟨rfl, rfl, rfl, by decide +kernel, rfl, by decide +kernel, by decide +kernel⟩
theorem cut_len : ∀ j : Fin 6, (cutS "zyxwv" none (some ((j.val : Nat) : Int))).length ≤ 10 := by decide +kernel
theorem okl_names {f fD : Addr} {fd fdD : FuncData} (F : Fun K "_law_names" "_law_names" s_names f fd) (T : Nm mg) (Ts : mg "sorted" = none)
    (D_draw : DefOk K mg "_law_draw" sDraw ["_law_deck_here", "_law_bound_here"] fD fdD) : FnOk P w K mg base CX0 2 f fd ["_law_deck_here", "_law_many"] spNms := by
  have G_draw : FnOk P w K mg base CX0 1 fD fdD ["_law_deck_here", "_law_bound_here"] spDraw := ok_draw D_draw.F
  refine F.ok sc_names (fun vs H Q E h => ?_) (fun cdv A outer s H vs Q E hr h => ?_)
  · obtain ⟨p, q, b, m, rfl, _⟩ := h
    rfl
  · obtain ⟨p, q, b, m, rfl, hm, D, hb, k⟩ := h
    refine ⟨_, (pss_cons (ps_par3 (i := 2) (j := 3) (l := 4) rfl sc_names.nd rfl rfl rfl (by decide) (by decide) (by decide) rfl rfl rfl (pa_cons pe_str (pa_cons (pe_call G_draw hr rfl D_draw.g D_draw.F.kp D_draw.b .nil pass0 (pa_cons (pv 0) (pa_cons pe_int pa_nil))) (pa_cons (pe_call G_draw hr rfl D_draw.g D_draw.F.kp D_draw.b .nil pass0 (pa_cons (pv 0) (pa_cons pe_int pa_nil))) pa_nil))) (by rfl))
      (pss_cons (ps_set (i := 5) sc_names.nd rfl (Or.inl rfl) (pe_lst pa_nil))
      (pss_cons (ps_for PassesOwn.never rfl (pi_range1 rfl T.range (pa_cons (pv 1) pa_nil)) (pg_name (i := 6) sc_names.nd rfl (Or.inl rfl))
        (pss_cons (ps_set (i := 7) sc_names.nd rfl (Or.inl rfl) (pe_ix ix_str (pv 2) (pe_op op_mod (pe_op op_addN (pv 4) (pe_op op_mulN pe_int (pv 6))) pe_int) (fun _ _ => rfl)))
        (pss_one (ps_expr (pe_bm PySem.F.plainAttrs_list PySem.F.slot_list_append PySem.F.type_list_append mt_append (pv 5) (pa_cons (pe_ix ix_list (pe_lst (pa_cons (pv 7) (pa_cons (pe_op op_add_str pe_str (pv 7)) (pa_cons (pe_op op_add_str (pv 7) (pe_slice sl_str pe_str po_none (po_some (pe_op op_mod (pv 6) pe_int)))) pa_nil)))) (pv 3) (fun _ _ => rfl)) pa_nil))))))
      (pss_one (ps_ret (pe_callB cr_sortedS (by rfl) Ts (by decide +kernel) (pa_cons (pv 5) pa_nil))))))), ?_⟩
    obtain ⟨ds, mx, c, D0, hc⟩ := D
    refine ⟨_, rfl, p, q, ds, mx, c, 3, rfl, by decide, by decide, D0, by omega, fun wy H1x H1 w0 hw O1 D1 => ?_⟩
    obtain ⟨wy, rfl⟩ := nat_of w0
    refine ⟨_, rfl, p, q, _, mx, c + 1, 26, rfl, by decide, by decide, D1, by omega, fun at' H2x H2 a0 ha O2 D2' => ?_⟩
    obtain ⟨at', rfl⟩ := nat_of a0
    have D2 : Dk H2 p q (b + 2) := ⟨_, mx, _, D2', by omega⟩
    have O12 := O1.trans O2
    refine ⟨_, _, _, rfl, (by show 0 ≤ sizeLine; decide), fun r nr => ?_⟩
    obtain ⟨rp, rq⟩ := D2.new nr
    have S2 := same_new (o := HO.lst []) nr
    have D3 : Dk (upd H2 r (.lst [])) p q (b + 2) := dk_upd D2 rp rq
    refine ⟨_, rfl, m, rfl, by omega, by omega, for_range (n := m) (fun i σ H' => ∃ (x6 x7 : Option V), σ = [some (.ref p), some (.int (m : Nat)), some (.str letters), some (.int (wy : Nat)), some (.int (at' : Nat)), some (.ref r), x6, x7] ∧ Same H2 H' ∧ Dk H' p q (b + 2) ∧ H' r = some (.lst (((List.range i).map (nmT wy at')).map V.str)))
      ⟨none, none, rfl, S2, D3, upd_same⟩ ?_ ?_⟩
    · rintro i σ H3 hi ⟨x6, x7, rfl, S3, D4, hr3⟩
      rw [Int.zero_add]
      refine ⟨_, rfl, _, rfl, _, rfl, 7, i, rfl, rfl, by decide, at', 7 * i, rfl, rfl, _, _, rfl, rfl, (by show (0 : Int) < 26; decide), ?_⟩
      refine ⟨letters, (((at' + 7 * i) % 26 : Nat) : Int), 97 + (at' + 7 * i) % 26, rfl, rfl, by decide, letter_at ⟨(at' + 7 * i) % 26, Nat.mod_lt _ (by decide)⟩, ?_⟩
      have hsg : (sgT at' i).length = 1 := rfl
      refine ⟨_, rfl, .inl ⟨rfl, _, SqL.of hr3⟩, _, rfl, _, rfl, "abcde", sgT at' i, rfl, rfl, (by rw [hsg]; decide), _, rfl, _, rfl, _, _, rfl, rfl, (by show (0 : Int) < 6; decide), ?_⟩
      have hcu : (cutS "zyxwv" none (some ((i % 6 : Nat) : Int))).length ≤ 10 := cut_len ⟨i % 6, Nat.mod_lt _ (by decide)⟩
      refine ⟨((i % 6 : Nat) : Int), rfl, "zyxwv", rfl, by decide, sgT at' i, cutS "zyxwv" none (some ((i % 6 : Nat) : Int)), rfl, rfl, (by rw [hsg, sizeLine_eq]; omega), (by show 3 ≤ sizeLine; decide), fun l3 n3 => ?_⟩
      have e3 : upd H3 l3 (.lst [.str (sgT at' i), .str ("abcde" ++ sgT at' i), .str (sgT at' i ++ cutS "zyxwv" none (some ((i % 6 : Nat) : Int)))]) l3 = some (.lst [.str (sgT at' i), .str ("abcde" ++ sgT at' i), .str (sgT at' i ++ cutS "zyxwv" none (some ((i % 6 : Nat) : Int)))]) := upd_same
      have S4 := same_new (o := HO.lst [.str (sgT at' i), .str ("abcde" ++ sgT at' i), .str (sgT at' i ++ cutS "zyxwv" none (some ((i % 6 : Nat) : Int)))]) n3
      have hG : ∀ G : Hp → Prop, (∀ Z, Z = upd H3 l3 (.lst [.str (sgT at' i), .str ("abcde" ++ sgT at' i), .str (sgT at' i ++ cutS "zyxwv" none (some ((i % 6 : Nat) : Int)))]) → G Z) → G (upd H3 l3 (.lst [.str (sgT at' i), .str ("abcde" ++ sgT at' i), .str (sgT at' i ++ cutS "zyxwv" none (some ((i % 6 : Nat) : Int)))])) := fun G h => h _ rfl
      refine hG _ fun H4 e4 => ?_
      rw [← e4] at e3 S4
      clear e4 hG
      have hw3 : wy = 0 ∨ wy = 1 ∨ wy = 2 := by omega
      have eat : atI [V.str (sgT at' i), .str ("abcde" ++ sgT at' i), .str (sgT at' i ++ cutS "zyxwv" none (some ((i % 6 : Nat) : Int)))] ((wy : Nat) : Int) = some (.str (nmT wy at' i)) := by
        refine atI_nat ?_
        rcases hw3 with rfl | rfl | rfl <;> rfl
      refine ⟨_, rfl, l3, _, _, _, rfl, rfl, SqL.of e3, eat, r, _, _, rfl, rfl, S4 _ _ hr3, (by rw [List.length_map, List.length_map, List.length_range, sizeLine_eq]; omega), ?_⟩
      refine ⟨_, _, rfl, ?_, dk_upd (D4.same S4) rp rq, ?_⟩
      · exact grow nr (S3.trans S4)
      · rw [upd_same, List.range_succ, List.map_append, List.map_append]
        rfl
    · rintro σ H3 ⟨x6, x7, rfl, S3, D4, hr3⟩
      refine ⟨_, rfl, r, _, rfl, SqL.of hr3, by rw [List.length_map, List.length_range]; omega, fun ys t hp hs nt => ?_⟩
      obtain ⟨N, hl⟩ := names_of (by omega) (by omega) hm hp hs
      obtain ⟨tp, tq⟩ := D4.new nt
      exact k t ys _ ((O12.trans (.of_same S3)).trans (.of_same (same_new nt))) (dk_upd D4 tp tq) upd_same tp tq hl N
end
end K3
set_option maxRecDepth 100000
set_option maxHeartbeats 4000000
namespace K3
open PySem PySem.Spec PyProof.Rows L2
/-! ### values as the makers give them -/
mutual
def fineB (s : Nat) : PyData → Bool
  | .int i => decide (i.natAbs < 10 ^ (40 + s))
  | .str x => x.cps.toList.all (fun c => decide (c < 128)) && (txtOk x && decide (x.length ≤ 200 * (s + 1)))
  | .list l => decide (1 ≤ s) && fineAll s l
  | .tuple l => fineAll s l
  | .dict kv => kv.isEmpty
  | .none => true
  | .bool _ => true
def fineAll (s : Nat) : List PyData → Bool
  | [] => true
  | d :: ds => fineB s d && fineAll s ds
end
/-- the word 'item' weighs more -/
def itw (x : Str) : Nat := if x = "item" then 120 else 0
mutual
def mass : PyData → Nat
  | .str x => 1 + x.cps.size + itw x
  | .list l => 1 + massAll l
  | .tuple l => 1 + massAll l
  | .dict _ => 1
  | .none => 1
  | .bool _ => 1
  | .int _ => 1
def massAll : List PyData → Nat
  | [] => 0
  | d :: ds => mass d + massAll ds
end
theorem fineAll_iff {s : Nat} : ∀ {l : List PyData}, fineAll s l = true ↔ ∀ d ∈ l, fineB s d = true
  | [] => by simp [fineAll]
  | a :: l => by simp [fineAll, fineAll_iff (l := l)]
theorem massAll_append : ∀ (a b : List PyData), massAll (a ++ b) = massAll a + massAll b
  | [], b => by simp [massAll]
  | x :: a, b => by
    rw [List.cons_append, massAll, massAll, massAll_append a b]
    omega
theorem depthAll_append : ∀ (a b : List PyData), PyData.depthAll (a ++ b) = max (PyData.depthAll a) (PyData.depthAll b)
  | [], b => by simp [PyData.depthAll]
  | x :: a, b => by
    rw [List.cons_append, PyData.depthAll, PyData.depthAll, depthAll_append a b]
    omega
theorem mass_pos (d : PyData) : 1 ≤ mass d := by
  cases d <;> simp only [mass] <;> omega
theorem itw_le (x : Str) : itw x ≤ 120 := by
  unfold itw
  split <;> omega
theorem itw_no {x : Str} (h : (x == "item") = false) : itw x = 0 := by
  unfold itw
  rw [if_neg fun e => by rw [e] at h; exact absurd h (by decide +kernel)]
mutual
theorem mass_itm : ∀ d : PyData, 120 * itm d ≤ mass d
  | .str x => by
    simp only [itm, mass]
    unfold itw
    split <;> omega
  | .list l => by
    have z := massAll_itm l
    simp only [itm, mass]
    omega
  | .tuple l => by
    have z := massAll_itm l
    simp only [itm, mass]
    omega
  | .dict _ => by simp [itm, mass]
  | .none => by simp [itm, mass]
  | .bool _ => by simp [itm, mass]
  | .int _ => by simp [itm, mass]
theorem massAll_itm : ∀ l : List PyData, 120 * itmAll l ≤ massAll l
  | [] => by simp [itmAll, massAll]
  | d :: ds => by
    have z := mass_itm d
    have y := massAll_itm ds
    rw [itmAll, massAll]
    omega
end
mutual
theorem mass_nodes : ∀ d : PyData, nodes d ≤ mass d
  | .str x => by
    simp only [nodes, mass]
    omega
  | .list l => by
    have z := massAll_nodes l
    simp only [nodes, mass]
    omega
  | .tuple l => by
    have z := massAll_nodes l
    simp only [nodes, mass]
    omega
  | .dict _ => by simp [nodes, mass]
  | .none => by simp [nodes, mass]
  | .bool _ => by simp [nodes, mass]
  | .int _ => by simp [nodes, mass]
theorem massAll_nodes : ∀ l : List PyData, nodesAll l ≤ massAll l
  | [] => by simp [nodesAll, massAll]
  | d :: ds => by
    have z := mass_nodes d
    have y := massAll_nodes ds
    rw [nodesAll, massAll]
    omega
end
mutual
theorem fine_bulk {s : Nat} : ∀ d : PyData, fineB s d = true → d.bulk + 1 ≤ mass d
  | .str x, _ => by
    simp only [PyData.bulk, mass]
    omega
  | .list l, h => by
    have z := fine_bulkAll l (by rw [fineB, Bool.and_eq_true] at h; exact h.2)
    simp only [PyData.bulk, mass]
    omega
  | .tuple l, h => by
    have z := fine_bulkAll l (by simpa only [fineB] using h)
    simp only [PyData.bulk, mass]
    omega
  | .dict kv, h => by
    have e : kv = [] := by simpa [fineB] using h
    subst e
    simp [PyData.bulk, PyData.bulkKv, mass]
  | .none, _ => by simp [PyData.bulk, mass]
  | .bool _, _ => by simp [PyData.bulk, mass]
  | .int _, _ => by simp [PyData.bulk, mass]
theorem fine_bulkAll {s : Nat} : ∀ l : List PyData, fineAll s l = true → PyData.bulkAll l ≤ massAll l
  | [], _ => by simp [PyData.bulkAll, massAll]
  | d :: ds, h => by
    have h' : fineB s d = true ∧ fineAll s ds = true := by simpa [fineAll] using h
    have z := fine_bulk d h'.1
    have y := fine_bulkAll ds h'.2
    rw [PyData.bulkAll, massAll]
    omega
end
mutual
theorem fine_int {s : Nat} (hs : s ≤ 10) : ∀ d : PyData, fineB s d = true → okInt d
  | .int i, h => by
    have h' : i.natAbs < 10 ^ (40 + s) := by simpa [fineB] using h
    simp only [okInt]
    exact Nat.lt_of_lt_of_le h' (Nat.pow_le_pow_right (by decide) (by omega))
  | .list l, h => by
    simp only [okInt]
    exact fine_ints hs l (by rw [fineB, Bool.and_eq_true] at h; exact h.2)
  | .tuple l, h => by
    simp only [okInt]
    exact fine_ints hs l (by simpa only [fineB] using h)
  | .str _, _ => by simp [okInt]
  | .dict _, _ => by simp [okInt]
  | .none, _ => by simp [okInt]
  | .bool _, _ => by simp [okInt]
theorem fine_ints {s : Nat} (hs : s ≤ 10) : ∀ l : List PyData, fineAll s l = true → okInts l
  | [], _ => by simp [okInts]
  | d :: ds, h => by
    have h' : fineB s d = true ∧ fineAll s ds = true := by simpa [fineAll] using h
    simp only [okInts]
    exact ⟨fine_int hs d h'.1, fine_ints hs ds h'.2⟩
end
mutual
theorem fine_short {s : Nat} (hs : s ≤ 10) : ∀ d : PyData, fineB s d = true → d.leavesShort 60 = true
  | .int i, h => by
    have h' : i.natAbs < 10 ^ (40 + s) := by simpa [fineB] using h
    simp only [PyData.leavesShort]
    have z := int_text_length_le10 (a := i) (k := 40 + s) (by omega) h'
    refine decide_eq_true ?_
    simp only [PyData.shown]
    rw [PySem.ofString_length]
    omega
  | .str x, h => by
    have h' : x.cps.toList.all (fun c => decide (c < 128)) = true := by
      rw [fineB, Bool.and_eq_true] at h
      exact h.1
    simp only [PyData.leavesShort, List.all_eq_true, decide_eq_true_eq] at h' ⊢
    intro c hc
    have := h' c hc
    omega
  | .list l, h => by
    simp only [PyData.leavesShort]
    exact fine_shorts hs l (by rw [fineB, Bool.and_eq_true] at h; exact h.2)
  | .tuple l, h => by
    simp only [PyData.leavesShort]
    exact fine_shorts hs l (by simpa only [fineB] using h)
  | .dict kv, h => by
    have e : kv = [] := by simpa [fineB] using h
    subst e
    simp [PyData.leavesShort, PyData.leavesShortKv]
  | .none, _ => by simp [PyData.leavesShort]
  | .bool _, _ => by simp [PyData.leavesShort]
theorem fine_shorts {s : Nat} (hs : s ≤ 10) : ∀ l : List PyData, fineAll s l = true → PyData.leavesShortAll 60 l = true
  | [], _ => by simp [PyData.leavesShortAll]
  | d :: ds, h => by
    have h' : fineB s d = true ∧ fineAll s ds = true := by simpa [fineAll] using h
    simp only [PyData.leavesShortAll, Bool.and_eq_true]
    exact ⟨fine_short hs d h'.1, fine_shorts hs ds h'.2⟩
end
theorem fine_ok {s : Nat} {d : PyData} (hs : s ≤ 10) (h : fineB s d = true) (hm : mass d ≤ 96000) (hd : d.depth ≤ 60) (h6 : sixN 6 d = true) : Ok d := by
  refine ⟨fine_int hs d h, hd, Nat.le_trans (mass_nodes d) (by omega), by have := mass_itm d; omega, ?_, h6⟩
  have z := PyData.shown_le_bulk 60 (by decide) d (fine_short hs d h)
  have y := fine_bulk d h
  rw [sizeLine_eq]
  omega
/-- what a maker gives: fine, and no larger than m, no deeper than n -/
structure Fine (s m n : Nat) (d : PyData) : Prop where
  f : fineB s d = true
  m : mass d ≤ m
  n : d.depth ≤ n
theorem Fine.ok {s m n : Nat} {d : PyData} (F : Fine s m n d) (hs : s ≤ 10) (hm : m ≤ 96000) (hn : n ≤ 60) (h6 : sixN 6 d = true) : Ok d := fine_ok hs F.f (Nat.le_trans F.m hm) (Nat.le_trans F.n hn) h6
theorem Fine.mono {s m n m' n' : Nat} {d : PyData} (F : Fine s m n d) (hm : m ≤ m') (hn : n ≤ n') : Fine s m' n' d := ⟨F.f, Nat.le_trans F.m hm, Nat.le_trans F.n hn⟩
end K3
set_option maxRecDepth 100000
set_option maxHeartbeats 4000000
namespace K3
open PySem PySem.Spec PyProof.Rows L2
/-! ### the law's counts -/
abbrev s_counts : Stmt := top 93
theorem fine_name {x : Str} (h : nmF x = true) : fineB 0 (.str x) = true ∧ mass (.str x) ≤ 7 := by
  unfold nmF at h
  rw [Bool.and_eq_true, Bool.and_eq_true] at h
  have hl := of_decide_eq_true h.2.2
  refine ⟨?_, ?_⟩
  · rw [fineB, h.1]
    exact decide_eq_true (by omega)
  · have e : x.length = x.cps.size := rfl
    have z := itw_no (x := x) (by have := h.2.1; cases hx : x == "item" with | false => rfl | true => rw [hx] at this; cases this)
    simp only [mass]
    omega
theorem nm_len {x : Str} (h : nmF x = true) : x.length ≤ 1000 := by
  unfold nmF at h
  rw [Bool.and_eq_true, Bool.and_eq_true] at h
  have hl := of_decide_eq_true h.2.2
  omega
/-- without r -/
def noR (r : Addr) (H : Hp) : Hp := fun b => if b = r then none else H b
theorem noR_sub {r : Addr} {H : Hp} : Same (noR r H) H := fun b o e => by
  unfold noR at e
  split at e
  · cases e
  · exact e
theorem noR_upd {r : Addr} {H : Hp} {o : HO} : noR r (upd H r o) = noR r H := by
  funext b
  unfold noR
  by_cases e : b = r
  · rw [if_pos e, if_pos e]
  · rw [if_neg e, if_neg e, upd_ne e]
theorem noR_at {r b : Addr} {H : Hp} {o : HO} (h : H b = some o) (n : b ≠ r) : noR r H b = some o := by
  unfold noR
  rw [if_neg n]
  exact h
theorem noR_off {p q r : Addr} {H H' : Hp} (O : Off p q H H') : Same (hide p q (noR r H)) (hide p q (noR r H')) := fun b o e => by
  unfold hide noR at e ⊢
  split at e
  · cases e
  · rename_i h
    rw [if_neg h]
    split at e
    · cases e
    · rename_i h2
      rw [if_neg h2]
      exact O _ _ e (fun z => h (.inl z)) (fun z => h (.inr z))
theorem noR_hide {p q r : Addr} {H : Hp} : Same (hide p q (noR r H)) (hide p q H) := hide_same noR_sub
def cntD (c : Str × Nat) : PyData := .tuple [.str c.1, .int (c.2 : Nat)]
theorem asc_strF : ∀ (l : List Str) (a : Str), (a :: l).Pairwise (fun a b => sLt a b = true) → ascF (.str a) (l.map PyData.str) = true
  | [], _, _ => rfl
  | x :: l, a, h => by
    rw [List.pairwise_cons] at h
    have z := asc_strF l x h.2
    have y : PySem.W.dataLt (.str a) (.str x) = true := by
      rw [PySem.W.dataLt_str]
      exact h.1 x (by simp)
    rw [List.map_cons, ascF, y, z]
    rfl
theorem asc_str {l : List Str} (h : l.Pairwise (fun a b => sLt a b = true)) : ascB (l.map PyData.str) = true := by
  cases l with
  | nil => rfl
  | cons a l =>
    rw [List.map_cons, ascB_cons]
    exact asc_strF l a h
theorem cnt_ok {c : Str × Nat} (h1 : nameB (.str c.1) = true) (h2 : 1 ≤ c.2) (h3 : c.2 ≤ 400) : countB (cntD c) = true := by
  have e1 : tupOf 2 2 (cntD c) = true := rfl
  have e2 : btw 1 400 (.int (c.2 : Nat)) = true := by
    show (decide ((1 : Int) ≤ (c.2 : Nat)) && decide (((c.2 : Nat) : Int) ≤ 400)) = true
    rw [decide_eq_true (by omega), decide_eq_true (by omega)]
    rfl
  unfold countB
  rw [e1]
  show (true && (nameB (.str c.1) && btw 1 400 (.int (c.2 : Nat)))) = true
  rw [h1, e2]
  rfl
theorem cnt_fine {c : Str × Nat} (h1 : nmF c.1 = true) (h3 : c.2 ≤ 400) : fineB 0 (cntD c) = true ∧ mass (cntD c) ≤ 9 ∧ (cntD c).depth ≤ 1 := by
  obtain ⟨a, b⟩ := fine_name h1
  have e : fineB 0 (.int ((c.2 : Nat) : Int)) = true := by
    rw [fineB]
    refine decide_eq_true (Nat.lt_of_le_of_lt (show ((c.2 : Nat) : Int).natAbs ≤ 400 by omega) (by decide))
  refine ⟨?_, ?_, ?_⟩
  · unfold cntD
    rw [fineB, fineAll, fineAll, fineAll, a, e]
    rfl
  · unfold cntD
    simp only [mass, massAll] at b ⊢
    omega
  · unfold cntD
    simp [PyData.depth, PyData.depthAll]
theorem cnts_mass : ∀ {L : List (Str × Nat)}, (∀ c ∈ L, nmF c.1 = true ∧ c.2 ≤ 400) → massAll (L.map cntD) ≤ 9 * L.length ∧ PyData.depthAll (L.map cntD) ≤ 1
  | [], _ => by simp [massAll, PyData.depthAll]
  | x :: ns, h => by
    obtain ⟨a, b⟩ := cnts_mass (L := ns) fun y hy => h y (by simp [hy])
    obtain ⟨_, f1, f2⟩ := cnt_fine (h x (by simp)).1 (h x (by simp)).2
    rw [List.map_cons, massAll, PyData.depthAll, List.length_cons]
    omega
theorem cnts_sum : ∀ L : List (Str × Nat), ((L.map cntD).map countOf).sum = ((L.map (·.2)).sum : Nat)
  | [] => rfl
  | c :: L => by
    rw [List.map_cons, List.map_cons, List.sum_cons, cnts_sum L, List.map_cons, List.sum_cons]
    show ((c.2 : Nat) : Int) + _ = _
    omega
theorem cnts_ok {L : List (Str × Nat)} (h0 : L ≠ []) (h6 : L.length ≤ 6) (h : ∀ c ∈ L, nameB (.str c.1) = true ∧ 1 ≤ c.2 ∧ c.2 ≤ 400) (hs : (L.map (·.2)).sum ≤ 400) (ha : (L.map (·.1)).Pairwise (fun a b => sLt a b = true)) : countsB (.tuple (L.map cntD)) = true := by
  have e1 : tupOf 1 6 (.tuple (L.map cntD)) = true := by
    show (decide ((1 : Int) ≤ ((L.map cntD).length : Int)) && decide (((L.map cntD).length : Int) ≤ 6)) = true
    have : 0 < L.length := List.length_pos_iff.mpr h0
    rw [List.length_map, decide_eq_true (by omega), decide_eq_true (by omega)]
    rfl
  have e2 : (L.map cntD).all countB = true := List.all_eq_true.mpr fun d hd => by
    obtain ⟨c, hc, rfl⟩ := List.mem_map.mp hd
    exact cnt_ok (h c hc).1 (h c hc).2.1 (h c hc).2.2
  have e3 : ((L.map cntD).map letterOf) = (L.map (·.1)).map PyData.str := by
    rw [List.map_map, List.map_map]
    rfl
  unfold countsB
  show (tupOf 1 6 (.tuple (L.map cntD)) && (L.map cntD).all countB && (decide (((L.map cntD).map countOf).sum ≤ 400) && ascB ((L.map cntD).map letterOf))) = true
  rw [e1, e2, e3, asc_str ha, cnts_sum, decide_eq_true (by omega)]
  rfl
def spCnts : Sp := fun vs H Q _ => ∃ (p q : Addr) (b n : Nat), vs = [.ref p, .int (n : Nat)] ∧ 1 ≤ n ∧ n ≤ 400 ∧ Dk H p q b ∧ b + 9 ≤ 100000000 ∧
  ∀ (v : V) (d : PyData) (H' : Hp), Off p q H H' → Dk H' p q (b + 9) → Dat (hide p q H') v d → countsB d = true → (countsN d).sum ≤ n → Fine 0 60 3 d → Q v H'
section
variable {P : Program} {w : World} {K : PySem.W.Frag} {mg : Str → Option Value} {base : Heap}
theorem sc_counts : FnScope ["_law_deck_here", "_law_total", "_law_names_here", "_law_found", "_law_left", "_law_name", "_law_often"] ["_law_deck_here", "_law_total"] (defScope s_counts) := ⟨rfl, rfl, rfl, by decide +kernel, rfl, by decide +kernel, by decide +kernel⟩
theorem okl_counts {f fD fN : Addr} {fd fdD fdN : FuncData} (F : Fun K "_law_counts" "_law_counts" s_counts f fd) (T : Nm mg) (Ts : mg "sorted" = none) (Tm : mg "max" = none)
    (D_draw : DefOk K mg "_law_draw" sDraw ["_law_deck_here", "_law_bound_here"] fD fdD) (D_names : DefOk K mg "_law_names" s_names ["_law_deck_here", "_law_many"] fN fdN) : FnOk P w K mg base CX0 3 f fd ["_law_deck_here", "_law_total"] spCnts := by
  have G_draw : FnOk P w K mg base CX0 1 fD fdD ["_law_deck_here", "_law_bound_here"] spDraw := ok_draw D_draw.F
  have G_names : FnOk P w K mg base CX0 2 fN fdN ["_law_deck_here", "_law_many"] spNms := okl_names D_names.F T Ts D_draw
  refine F.ok sc_counts (fun vs H Q E h => ?_) (fun cdv A outer s H vs Q E hr h => ?_)
  · obtain ⟨p, q, b, n, rfl, _⟩ := h
    rfl
  · obtain ⟨p, q, b, n, rfl, hn1, hn4, D, hb, k⟩ := h
    have hr1 : Room 1 _ := hr.mono (by decide)
    refine ⟨_, (pss_cons (ps_par3 (i := 2) (j := 3) (l := 4) rfl sc_counts.nd rfl rfl rfl (by decide) (by decide) (by decide) rfl rfl rfl (pa_cons (pe_call G_names hr rfl D_names.g D_names.F.kp D_names.b .nil pass0 (pa_cons (pv 0) (pa_cons (pe_op op_addN pe_int (pe_call G_draw hr1 rfl D_draw.g D_draw.F.kp D_draw.b .nil pass0 (pa_cons (pv 0) (pa_cons pe_int pa_nil)))) pa_nil))) (pa_cons (pe_lst pa_nil) (pa_cons (pv 1) pa_nil))) (by rfl))
      (pss_cons (ps_for PassesOwn.never rfl (pi_list (pv 2)) (pg_name (i := 5) sc_counts.nd rfl (Or.inl rfl))
        (pss_cons (ps_set (i := 6) sc_counts.nd rfl (Or.inl rfl) (pe_op op_addN pe_int (pe_call G_draw hr1 rfl D_draw.g D_draw.F.kp D_draw.b .nil pass0 (pa_cons (pv 0) (pa_cons (pe_callB (call_max2 rfl) (by rfl) Tm (by decide +kernel) (pa_cons pe_int (pa_cons (pe_op op_fdiv (pv 4) pe_int) pa_nil))) pa_nil)))))
        (pss_one (ps_if (pt_cmpR op_le (pv 6) (pv 4) (nomark _))
          (pss_cons (ps_expr (pe_bm PySem.F.plainAttrs_list PySem.F.slot_list_append PySem.F.type_list_append mt_append (pv 3) (pa_cons (pe_tup (pa_cons (pv 5) (pa_cons (pv 6) pa_nil))) pa_nil)))
          (pss_one (ps_set (i := 4) sc_counts.nd rfl (Or.inl rfl) (pe_op op_sub (pv 4) (pv 6)))))
          pss_nil))))
      (pss_one (ps_ret (pe_callTy call_tuple_of (by rfl) T.tuple (by decide +kernel) (pa_cons (pv 3) pa_nil)))))), ?_⟩
    obtain ⟨ds, mx, c0, D0, hc0⟩ := D
    refine ⟨_, rfl, _, rfl, p, q, ds, mx, c0, 6, rfl, by decide, by decide, D0, by omega, fun i ds1 H1 i0 i1 O1 D1 => ?_⟩
    obtain ⟨i, rfl⟩ := nat_of i0
    refine ⟨1, i, rfl, rfl, p, q, b + 1, 1 + i, rfl, by omega, ⟨_, mx, _, D1, by omega⟩, by omega, fun t ns H2 O2 D2 ht tp tq hl N => ?_⟩
    refine ⟨(by show 0 ≤ sizeLine; decide), fun r nr => ⟨_, rfl, _, _, _, rfl, ?_⟩⟩
    obtain ⟨rp, rq⟩ := D2.new nr
    have O12 := O1.trans O2
    have S3 := same_new (o := HO.lst []) nr
    have hlm : (ns.map V.str).length = ns.length := List.length_map ..
    refine ⟨_, rfl, t, rfl, ⟨_, SqL.of (S3 _ _ ht)⟩, for_list (K := K) (a := t) (xs := ns.map V.str) (fun i σ H' => ∃ (x5 x6 : Option V) (L : List (Str × Nat)) (items : List V) (left : Nat), σ = [some (.ref p), some (.int (n : Nat)), some (.ref t), some (.ref r), some (.int (left : Nat)), x5, x6] ∧ Off p q H2 H' ∧ Dk H' p q (b + 3 + i) ∧ H' r = some (.lst items) ∧
        DatAll (hide p q (noR r H')) items (L.map cntD) ∧ (L.map (·.2)).sum + left = n ∧ (∀ c ∈ L, (nameB (.str c.1) = true ∧ nmF c.1 = true) ∧ 1 ≤ c.2 ∧ c.2 ≤ 400) ∧ (L.map (·.1)).Sublist (ns.take i) ∧ (1 ≤ i → L ≠ []))
      ⟨none, none, [], [], n, rfl, .of_same S3, (dk_upd D2 rp rq).mono (by omega), upd_same, .nil, by simp, by simp, by simp, by omega⟩ (fun i σ H' _ ⟨_, _, _, _, _, _, O, _⟩ => SqL.of (O _ _ ht tp tq)) ?_ ?_⟩
    · rintro i y σ H3 hi ⟨x5, x6, L, items, left, rfl, O3, D3, hr3, dA, hsum, hL, hsub, hne⟩
      obtain ⟨nm, hnm, rfl⟩ : ∃ nm, ns[i]? = some nm ∧ y = V.str nm := by
        rw [List.getElem?_map] at hi
        cases e : ns[i]? with
        | none =>
          rw [e] at hi
          cases hi
        | some z =>
          rw [e] at hi
          exact ⟨z, rfl, (Option.some.inj hi).symm⟩
      have hil : i < ns.length := (List.getElem?_eq_some_iff.mp hnm).1
      have hmem : nm ∈ ns := List.mem_of_getElem? hnm
      obtain ⟨ds3, mx3, c3, D3', hc3⟩ := D3
      refine ⟨_, rfl, _, rfl, _, _, rfl, rfl, ⟨by decide, by decide⟩, _, _, rfl, p, q, ds3, mx3, c3, _, rfl, ?_, ?_, D3', by omega, fun j ds4 H4 j0 j1 O4 D4 => ?_⟩
      · split <;> omega
      · split <;> omega
      obtain ⟨j, rfl⟩ := nat_of j0
      have D4' : Dk H4 p q (b + 3 + (i + 1)) := ⟨_, mx3, _, D4, by omega⟩
      have O34 := O3.trans O4
      have hr4 := O4 _ _ hr3 rp rq
      have dA4 := dA.same (noR_off (r := r) O4)
      have hsub' : (L.map (·.1)).Sublist (ns.take (i + 1)) := hsub.trans (List.take_sublist_take_left (by omega))
      refine ⟨1, j, rfl, rfl, _, rfl, _, rfl, _, _, rfl, rfl, _, rfl, ?_⟩
      by_cases hle : 1 + j ≤ left
      · refine if_t (decide_eq_true (by omega)) ?_
        refine ⟨_, rfl, .inl ⟨rfl, _, SqL.of hr4⟩, _, rfl, _, rfl, (by show 2 ≤ sizeLine; decide), fun a na => ?_⟩
        have Sa := same_new (o := HO.tup [.str nm, .int ((1 + j : Nat) : Int)]) na
        have ar : a ≠ r := fun e => by
          rw [e, hr4] at na
          cases na
        obtain ⟨ap, aq⟩ := D4'.new na
        have hlen : items.length ≤ 20 := by
          have z := dA.len
          have y := hsub.length_le
          rw [List.length_map] at z y
          rw [List.length_take] at y
          omega
        have el : ((left : Nat) : Int) - ((1 + j : Nat) : Int) = ((left - (1 + j) : Nat) : Int) := by omega
        refine ⟨r, items, .ref a, rfl, rfl, Sa _ _ hr4, by rw [sizeLine_eq]; omega, _, rfl, _, rfl, _, _, rfl, rfl, ?_⟩
        refine ⟨some (.str nm), some (.int ((1 + j : Nat) : Int)), L ++ [(nm, 1 + j)], items ++ [.ref a], left - (1 + j), ?_, ?_, dk_upd (D4'.same Sa) rp rq, upd_same, ?_, ?_, ?_, ?_, fun _ => by simp⟩
        · rw [← el]
          rfl
        · intro b o e h1 h2
          have br : b ≠ r := fun z => by
            rw [z, nr] at e
            cases e
          rw [upd_ne br]
          exact Sa _ _ (O34 b o e h1 h2)
        · rw [noR_upd, List.map_append]
          exact datAll_append (dA4.same (noR_off (Off.of_same Sa))) (.cons (.tup (hide_at (noR_at upd_same ar) ap aq) (.cons (.str _ (nm_len (N.fi _ hmem))) (.cons (.int _) .nil))) .nil)
        · rw [List.map_append, List.sum_append]
          simp
          omega
        · intro c hc
          rcases List.mem_append.mp hc with hc | hc
          · exact hL c hc
          · obtain rfl : c = (nm, 1 + j) := by simpa using hc
            exact ⟨⟨N.nm _ hmem, N.fi _ hmem⟩, by show 1 ≤ 1 + j; omega, by show 1 + j ≤ 400; omega⟩
        · rw [List.map_append, List.take_add_one, hnm]
          exact hsub.append (List.Sublist.refl _)
      · refine if_f (decide_eq_false (by omega)) ?_
        refine ⟨_, _, L, items, left, rfl, O34, D4', hr4, dA4, hsum, hL, hsub', fun _ e => ?_⟩
        have i00 : i = 0 := by
          rcases Nat.eq_zero_or_pos i with z | z
          · exact z
          · exact absurd e (hne z)
        rw [e] at hsum
        have hs0 : left = n := by simpa using hsum
        split at j1 <;> omega
    · rintro σ H3 ⟨x5, x6, L, items, left, rfl, O3, D3, hr3, dA, hsum, hL, hsub, hne⟩
      refine ⟨_, rfl, r, items, rfl, .inl ⟨SqL.of hr3, fun a na => ?_⟩⟩
      have Sa := same_new (o := HO.tup items) na
      have hlen : L.length ≤ 6 := by
        have y := hsub.length_le
        rw [List.length_map, List.length_take] at y
        omega
      have h0 : L ≠ [] := hne (by rw [hlm]; omega)
      have mj := cnts_mass (L := L) fun c hc => ⟨(hL c hc).1.2, (hL c hc).2.2⟩
      refine k _ (.tuple (L.map cntD)) _ ((O12.trans O3).trans (.of_same Sa)) ((D3.same Sa).mono (by rw [hlm]; omega)) (.tup (hide_new D3 na) ((dA.same noR_hide).same (hide_same Sa))) (cnts_ok h0 hlen (fun c hc => ⟨(hL c hc).1.1, (hL c hc).2.1, (hL c hc).2.2⟩) (by omega) (N.asc.sublist (hsub.trans (List.take_sublist _ _)))) (by
        have ec : countsN (.tuple (L.map cntD)) = L.map (·.2) := by
          unfold countsN
          show (L.map cntD).map _ = _
          rw [List.map_map]
          exact List.map_congr_left fun c _ => Int.toNat_natCast _
        rw [ec]
        omega) ⟨?_, ?_, ?_⟩
      · rw [fineB]
        refine fineAll_iff.mpr fun d hd => ?_
        obtain ⟨c, hc, rfl⟩ := List.mem_map.mp hd
        exact (cnt_fine (hL c hc).1.2 (hL c hc).2.2).1
      · simp only [mass]
        omega
      · simp only [PyData.depth]
        omega
end
end K3
set_option maxRecDepth 100000
set_option maxHeartbeats 4000000
namespace K3
open PySem PySem.Spec PyProof.Rows L2
/-! ### values as the makers give them, of six kinds -/
def Six (d : PyData) : Prop := ∀ k : Nat, sixN k d = true
theorem six_of {d : PyData} (h : six1 d = true) (hn : ∀ e ∈ nestedD d, Six e) : Six d := fun k => by
  cases k with
  | zero => rfl
  | succ k =>
    show (six1 d && (nestedD d).all (sixN k)) = true
    rw [h, List.all_eq_true.mpr fun e he => hn e he k]
    rfl
theorem six_leaf {z : Str} {ds : List PyData} (h1 : six1 (.tuple [.str z]) = true) (h2 : nestedD (.tuple [.str z]) = [] ) (h3 : nestW z = false) : Six (.tuple (.str z :: ds)) := by
  refine six_of h1 fun e he => ?_
  obtain ⟨a, b, c, d⟩ := leaf_ne (z := z) (ds := ds) (by show (!nestW z) = true; rw [h3]; rfl)
  have q : nestedD (.tuple (.str z :: ds)) = [] := by
    unfold nestedD
    show (if eqStr "product" (.str z) = true then _ else if eqStr "choice" (.str z) = true then _ else if eqStr "power" (.str z) = true then _ else if eqStr "decorated" (.str z) = true then _ else []) = []
    rw [if_neg (by show ¬ (z == "product") = true; rw [a]; decide), if_neg (by show ¬ (z == "choice") = true; rw [b]; decide), if_neg (by show ¬ (z == "power") = true; rw [c]; decide), if_neg (by show ¬ (z == "decorated") = true; rw [d]; decide)]
  rw [q] at he
  cases he
/-- a tuple put together of fine things -/
theorem tup_fine {s m n : Nat} {ds : List PyData} (h : ∀ d ∈ ds, fineB s d = true) (hm : massAll ds ≤ m) (hn : PyData.depthAll ds ≤ n) : Fine s (m + 1) (n + 1) (.tuple ds) := by
  refine ⟨?_, ?_, ?_⟩
  · rw [fineB]
    exact fineAll_iff.mpr h
  · simp only [mass]
    omega
  · simp only [PyData.depth]
    omega
theorem fine_lit (x : Str) (h : fineB 0 (.str x) = true) (hm : mass (.str x) ≤ 12) : fineB 0 (.str x) = true ∧ mass (.str x) ≤ 12 ∧ (PyData.str x).depth = 0 := ⟨h, hm, by simp [PyData.depth]⟩
theorem fine_i {s : Nat} {i : Int} (h1 : -1000 ≤ i) (h2 : i ≤ 1000) : fineB s (.int i) = true := by
  rw [fineB]
  exact decide_eq_true (Nat.lt_of_lt_of_le (show i.natAbs < 10 ^ 4 by omega) (Nat.pow_le_pow_right (by decide) (by omega)))
theorem lit_fine {z : Str} {ds : List PyData} {m n : Nat} (hz : fineB 0 (.str z) = true ∧ mass (.str z) ≤ 12) (h : fineAll 0 ds = true) (h2 : massAll ds ≤ m) (h3 : PyData.depthAll ds ≤ n) : Fine 0 (m + 13) (n + 1) (.tuple (.str z :: ds)) := by
  refine ⟨?_, ?_, ?_⟩
  · rw [fineB, fineAll, hz.1, h]
    rfl
  · have := hz.2
    simp only [mass, massAll] at this ⊢
    omega
  · simp only [PyData.depth, PyData.depthAll]
    omega
theorem ints_all : ∀ l : List Int, (∀ i ∈ l, -1000 ≤ i ∧ i ≤ 1000) → fineAll 0 (l.map PyData.int) = true ∧ massAll (l.map PyData.int) = l.length ∧ PyData.depthAll (l.map PyData.int) = 0
  | [], _ => ⟨rfl, rfl, rfl⟩
  | i :: S, h => by
    obtain ⟨a, b, c⟩ := ints_all S fun j hj => h j (by simp [hj])
    have e := fine_i (s := 0) (h i (by simp)).1 (h i (by simp)).2
    refine ⟨by rw [List.map_cons, fineAll, e, a]; rfl, ?_, ?_⟩
    · rw [List.map_cons, massAll, b, List.length_cons, mass]
      omega
    · rw [List.map_cons, PyData.depthAll, c]
      simp [PyData.depth]
theorem one_fine {s m n : Nat} {d : PyData} (F : Fine s m n d) : fineAll s [d] = true ∧ massAll [d] ≤ m ∧ PyData.depthAll [d] ≤ n := by
  refine ⟨by rw [fineAll, F.f]; rfl, ?_, ?_⟩
  · have := F.m
    simp only [massAll]
    omega
  · have := F.n
    simp only [PyData.depthAll]
    omega
end K3
set_option maxRecDepth 100000
set_option maxHeartbeats 4000000
namespace K3
open PySem PySem.Spec PyProof.Rows L2
/-! ### a leaf of the law -/
abbrev s_leaf : Stmt := top 94
def spLeaf : Sp := fun vs H Q _ => ∃ (p q : Addr) (b : Nat) (l : Bool), vs = [.ref p, .bl l] ∧ Dk H p q b ∧ b + 100 ≤ 100000000 ∧
  ∀ (v : V) (d : PyData) (H' : Hp), Off p q H H' → Dk H' p q (b + 100) → Dat (hide p q H') v d → Six d → Fine 0 200 5 d → Q v H'
theorem six_subset {ds : List PyData} : Six (.tuple (.str "subset" :: ds)) := six_leaf (by decide +kernel) (by decide +kernel) (by decide +kernel)
theorem six_word {ds : List PyData} : Six (.tuple (.str "word" :: ds)) := six_leaf (by decide +kernel) (by decide +kernel) (by decide +kernel)
theorem six_perm {ds : List PyData} : Six (.tuple (.str "permutation" :: ds)) := six_leaf (by decide +kernel) (by decide +kernel) (by decide +kernel)
theorem six_match {ds : List PyData} : Six (.tuple (.str "matching" :: ds)) := six_leaf (by decide +kernel) (by decide +kernel) (by decide +kernel)
theorem six_cycle {ds : List PyData} : Six (.tuple (.str "cycle" :: ds)) := six_leaf (by decide +kernel) (by decide +kernel) (by decide +kernel)
theorem six_tree {ds : List PyData} : Six (.tuple (.str "tree" :: ds)) := six_leaf (by decide +kernel) (by decide +kernel) (by decide +kernel)
section
variable {P : Program} {w : World} {K : PySem.W.Frag} {mg : Str → Option Value} {base : Heap}
abbrev LN : List Str := ["_law_deck_here", "_law_large", "_law_sort", "_law_n", "_law_few", "_law_p"]
theorem sc_leaf : FnScope LN ["_law_deck_here", "_law_large"] (defScope s_leaf) := ⟨rfl, rfl, rfl, by decide +kernel, rfl, by decide +kernel, by decide +kernel⟩
theorem okl_mleaf {f fD fN fC : Addr} {fd fdD fdN fdC : FuncData} (F : Fun K "_law_leaf" "_law_leaf" s_leaf f fd) (T : Nm mg) (Ts : mg "sorted" = none) (Tm : mg "max" = none)
    (D_draw : DefOk K mg "_law_draw" sDraw ["_law_deck_here", "_law_bound_here"] fD fdD) (D_names : DefOk K mg "_law_names" s_names ["_law_deck_here", "_law_many"] fN fdN)
    (D_counts : DefOk K mg "_law_counts" s_counts ["_law_deck_here", "_law_total"] fC fdC) : FnOk P w K mg base CX0 4 f fd ["_law_deck_here", "_law_large"] spLeaf := by
  have G_draw : FnOk P w K mg base CX0 1 fD fdD ["_law_deck_here", "_law_bound_here"] spDraw := ok_draw D_draw.F
  have G_counts : FnOk P w K mg base CX0 3 fC fdC ["_law_deck_here", "_law_total"] spCnts := okl_counts D_counts.F T Ts Tm D_draw D_names
  refine F.ok sc_leaf (fun vs H Q E h => ?_) (fun cdv A outer s H vs Q E hr h => ?_)
  · obtain ⟨p, q, b, l, rfl, _⟩ := h
    rfl
  · obtain ⟨p, q, b, l, rfl, D, hb, k⟩ := h
    have hr1 : Room 1 _ := hr.mono (by decide)
    have hr3 : Room 3 _ := hr.mono (by decide)
    refine ⟨_, (C8.pss_cut (ps_par (i := 2) (j := 3) rfl sc_leaf.nd rfl rfl (by decide) rfl rfl (pa_cons (pe_call G_draw hr1 rfl D_draw.g D_draw.F.kp D_draw.b .nil pass0 (pa_cons (pv 0) (pa_cons pe_int pa_nil))) (pa_cons (pe_call G_draw hr1 rfl D_draw.g D_draw.F.kp D_draw.b .nil pass0 (pa_cons (pv 0) (pa_cons (pe_ix ix_list (pe_lst (pa_cons pe_int (pa_cons pe_int pa_nil))) (pe_callTy call_int1 (by rfl) T.int (by decide +kernel) (pa_cons (pv 1) pa_nil)) (fun _ _ => rfl)) pa_nil))) pa_nil)) (by rfl))
      (pss_cons (ps_if (pt_cmpR op_eq (pv 2) pe_int (nomark _))
        (pss_one (ps_ret (pe_tup (pa_cons pe_str (pa_cons (pv 3) (pa_cons (pe_call G_draw hr1 rfl D_draw.g D_draw.F.kp D_draw.b .nil pass0 (pa_cons (pv 0) (pa_cons (pe_op op_addN (pv 3) pe_int) pa_nil))) pa_nil))))))
        pss_nil)
      (pss_cons (ps_if (pt_cmpR op_eq (pv 2) pe_int (nomark _))
        (pss_one (ps_ret (pe_tup (pa_cons pe_str (pa_cons (pe_call G_counts hr3 rfl D_counts.g D_counts.F.kp D_counts.b .nil pass0 (pa_cons (pv 0) (pa_cons (pe_callB (call_max2 rfl) (by rfl) Tm (by decide +kernel) (pa_cons pe_int (pa_cons (pv 3) pa_nil))) pa_nil))) pa_nil)))))
        pss_nil)
      (pss_cons (ps_if (pt_cmpR op_eq (pv 2) pe_int (nomark _))
        (pss_cons (ps_set (i := 4) sc_leaf.nd rfl (Or.inl rfl) (pe_op op_mod (pv 3) pe_int))
        (pss_one (ps_ret (pe_tup (pa_cons pe_str (pa_cons (pv 4) (pa_cons (pe_callTy call_tuple_of (by rfl) T.tuple (by decide +kernel) (pa_cons (pe_lc (own := [("_law_p", 5)]) (g := (gName 5)) (te := tVar 5) rfl sc_leaf.nd (pi_range1 rfl T.range (pa_cons (pv 4) pa_nil)) (blkOk_by (N := LN) (sc := defScope s_leaf) (by decide +kernel))
          (fun _ _ _ _ _ => (pg_name (i := 5) sc_leaf.nd rfl (Or.inl rfl))) (fun _ _ _ _ _ => pts_one (pt_cmpR op_eq (pe_call G_draw hr1 rfl D_draw.g D_draw.F.kp D_draw.b .nil pass0 (pa_cons (pv 0) (pa_cons pe_int pa_nil))) pe_int (nomark _))) (fun _ _ _ _ _ => (pv 5))) pa_nil)) pa_nil)))))))
        pss_nil)
      (pss_one (ps_ret (pe_ifExp (pt_cmpR op_eq (pv 2) pe_int (nomark _)) (pe_tup (pa_cons pe_str (pa_cons (pe_op op_fdiv (pv 3) pe_int) pa_nil)))
        (pe_tup (pa_cons (pe_ix ix_list (pe_lst (pa_cons pe_str (pa_cons pe_str pa_nil))) (pe_op op_sub (pv 2) pe_int) (fun _ _ => rfl)) (pa_cons (pe_callB (call_max2 rfl) (by rfl) Tm (by decide +kernel) (pa_cons pe_int (pa_cons (pv 3) pa_nil))) pa_nil)))))))))), ?_⟩
    -- the sort, the number
    refine ⟨fun σ H' => ∃ so n : Nat, σ = [some (.ref p), some (.bl l), some (.int (so : Nat)), some (.int (n : Nat)), none, none] ∧ so < 6 ∧ n ≤ 400 ∧ Off p q H H' ∧ Dk H' p q (b + 2), ?_, ?_⟩
    · obtain ⟨ds, mx, c0, D0, hc0⟩ := D
      refine ⟨_, rfl, p, q, ds, mx, c0, 6, rfl, by decide, by decide, D0, by omega, fun so ds1 H1 so0 so1 O1 D1 => ?_⟩
      obtain ⟨so, rfl⟩ := nat_of so0
      refine ⟨_, rfl, (by show 2 ≤ sizeLine; decide), fun l1 nl1 => ?_⟩
      have S1 := same_new (o := HO.lst [.int 6, .int 401]) nl1
      have e1 : upd H1 l1 (.lst [.int 6, .int 401]) l1 = some (.lst [.int 6, .int 401]) := upd_same
      have D2 : Dk (upd H1 l1 (.lst [.int 6, .int 401])) p q (b + 1) := Dk.same ⟨_, mx, _, D1, by omega⟩ S1
      generalize upd H1 l1 (.lst [.int 6, .int 401]) = H2 at S1 e1 D2 ⊢
      obtain ⟨ds2, mx2, c2, D2', hc2⟩ := D2
      have eB : atI [V.int 6, V.int 401] (if l = true then 1 else 0) = some (.int ((if l = true then 401 else 6 : Nat) : Nat)) := by cases l <;> rfl
      have hB : 0 < (if l = true then 401 else 6 : Nat) ∧ (if l = true then 401 else 6 : Nat) ≤ 401 := by cases l <;> decide
      refine ⟨_, rfl, .inr ⟨_, rfl, l1, _, _, _, rfl, rfl, SqL.of e1, eB, p, q, ds2, mx2, c2, _, rfl, by omega, by omega, D2', by omega, fun nd ds3 H3 n0 n1 O3 D3 => ?_⟩⟩
      obtain ⟨nd, rfl⟩ := nat_of n0
      exact ⟨_, _, rfl, so, nd, rfl, by omega, by omega, (O1.trans (.of_same S1)).trans O3, ⟨_, mx2, _, D3, by omega⟩⟩
    rintro σ H2 ⟨so, n, rfl, hso, hn, O2, D2⟩
    refine ⟨_, rfl, rfl, _, rfl, ?_⟩
    by_cases z0 : so = 0
    · refine if_t (decide_eq_true (by rw [z0]; rfl)) ?_
      obtain ⟨ds, mx, c0, D0, hc0⟩ := D2
      refine ⟨_, rfl, _, rfl, _, rfl, n, 1, rfl, rfl, p, q, ds, mx, c0, _, rfl, by omega, by omega, D0, by omega, fun kk ds3 H3 k0 k1 O3 D3 => ⟨(by show 3 ≤ sizeLine; decide), fun a na => ?_⟩⟩
      obtain ⟨kk, rfl⟩ := nat_of k0
      have D3' : Dk H3 p q (b + 4) := ⟨_, mx, _, D3, by omega⟩
      have f := ints_all [((n : Nat) : Int), ((kk : Nat) : Int)] (by simp; omega)
      exact k _ (.tuple [.str "subset", .int (n : Nat), .int (kk : Nat)]) _ ((O2.trans O3).trans (.of_same (same_new na))) ((D3'.same (same_new na)).mono (by omega)) (.tup (hide_new D3' na) (.cons (.str _ (by decide)) (.cons (.int _) (.cons (.int _) .nil)))) six_subset ((lit_fine (by decide +kernel) f.1 (Nat.le_of_eq f.2.1) (Nat.le_of_eq f.2.2)).mono (by simp) (by decide))
    refine if_f (decide_eq_false fun z => z0 (by have := V.int.inj z; omega)) ?_
    refine ⟨_, rfl, rfl, _, rfl, ?_⟩
    have em : (if ((n : Nat) : Int) > 1 then ((n : Nat) : Int) else 1) = ((max 1 n : Nat) : Int) := by
      split <;> omega
    by_cases z1 : so = 1
    · refine if_t (decide_eq_true (by rw [z1]; rfl)) ?_
      refine ⟨_, rfl, _, rfl, _, _, rfl, p, q, b + 2, max 1 n, congrArg (fun z => [V.ref p, V.int z]) em, by omega, by omega, D2, by omega, fun v d H3 O3 D3 dd cb csum fi => ⟨(by show 2 ≤ sizeLine; decide), fun a na => ?_⟩⟩
      have f := one_fine fi
      exact k _ (.tuple [.str "word", d]) _ ((O2.trans O3).trans (.of_same (same_new na))) ((D3.same (same_new na)).mono (by omega)) (.tup (hide_new D3 na) (.cons (.str _ (by decide)) (.cons (dd.same (hide_same (same_new na))) .nil))) six_word ((lit_fine (by decide +kernel) f.1 f.2.1 f.2.2).mono (by decide) (by decide))
    refine if_f (decide_eq_false fun z => z1 (by have := V.int.inj z; omega)) ?_
    refine ⟨_, rfl, rfl, _, rfl, ?_⟩
    by_cases z2 : so = 2
    · refine if_t (decide_eq_true (by rw [z2]; rfl)) ?_
      refine ⟨_, rfl, _, _, rfl, rfl, (by show (0 : Int) < 61; decide), ?_⟩
      obtain ⟨n2, hn2⟩ : ∃ n2 : Nat, n2 = n % 61 := ⟨_, rfl⟩
      have hn3 : n2 ≤ 60 := by omega
      have e61 : ((n : Nat) : Int) % 61 = ((n2 : Nat) : Int) := by omega
      show gName 4 (V.int (((n : Nat) : Int) % 61)) _ _ _
      rw [e61]
      refine ⟨_, rfl, _, rfl, n2, rfl, by omega, by omega, fun L nL => ?_⟩
      obtain ⟨Lp, Lq⟩ := D2.new nL
      refine lc_range (n := n2) (fun i Hx => ∃ acc : List Nat, Off p q H2 Hx ∧ Dk Hx p q (b + 2 + i) ∧ Hx L = some (.lst (acc.map fun i => V.int (i : Nat))) ∧ (∀ x ∈ acc, x < i) ∧ acc.length ≤ i)
        ⟨[], .of_same (same_new nL), (dk_upd D2 Lp Lq).mono (by omega), upd_same, by simp, by simp⟩ ?_ ?_
      · rintro i Hx hi ⟨acc, O6, D6, hL, hac, hla⟩
        rw [Int.zero_add]
        obtain ⟨ds6, mx6, c6, D6', hc6⟩ := D6
        refine ⟨rfl, _, rfl, p, q, ds6, mx6, c6, 2, rfl, by decide, by decide, D6', by omega, fun tg ds7 H7 g0 g1 O7 D7 => ?_⟩
        have D7' : Dk H7 p q (b + 2 + (i + 1)) := ⟨_, mx6, _, D7, by omega⟩
        have hL7 := O7 _ _ hL Lp Lq
        refine ⟨rfl, _, rfl, ?_⟩
        by_cases hg : tg = 0
        · refine if_t (decide_eq_true (by rw [hg])) ⟨_, rfl, _, hL7, ?_, acc ++ [i], ?_, dk_upd D7' Lp Lq, ?_, ?_, ?_⟩
          · rw [List.length_map, sizeLine_eq]
            omega
          · intro b' o e h1 h2
            have br : b' ≠ L := fun z => by
              rw [z, nL] at e
              cases e
            rw [upd_ne br]
            exact (O6.trans O7) b' o e h1 h2
          · rw [upd_same, List.map_append]
            rfl
          · intro x hx
            rcases List.mem_append.mp hx with z | z
            · have := hac x z
              omega
            · obtain rfl : x = i := by simpa using z
              omega
          · rw [List.length_append, List.length_singleton]
            omega
        · exact if_f (decide_eq_false fun z => hg (V.int.inj z)) ⟨acc, O6.trans O7, D7', hL7, fun x hx => by have := hac x hx; omega, by omega⟩
      · rintro Hx ⟨acc, O6, D6, hL, hac, hla⟩
        refine ⟨L, _, rfl, .inl ⟨SqL.of hL, fun a2 n2' => ⟨(by show 3 ≤ sizeLine; decide), fun a3 n3 => ?_⟩⟩⟩
        have S7 := same_new (o := HO.tup (acc.map fun i => V.int (i : Nat))) n2'
        have D7 := D6.same S7
        have S8 := same_new (o := HO.tup [.str "permutation", .int (n2 : Nat), .ref a2]) n3
        have dI : ∀ (G : Hp) (l : List Nat), DatAll G (l.map fun i => V.int (i : Nat)) ((l.map fun i : Nat => (i : Int)).map PyData.int) := fun G l => by
          induction l with
          | nil => exact .nil
          | cons x l ih => exact .cons (.int _) ih
        have mI := ints_all (acc.map fun i : Nat => (i : Int)) fun x hx => by
          obtain ⟨y, hy, rfl⟩ := List.mem_map.mp hx
          have := hac y hy
          omega
        have ei := fine_i (s := 0) (i := ((n2 : Nat) : Int)) (by omega) (by omega)
        refine k _ (.tuple [.str "permutation", .int (n2 : Nat), .tuple ((acc.map fun i : Nat => (i : Int)).map PyData.int)]) _ (((O2.trans O6).trans (.of_same S7)).trans (.of_same S8)) ((D7.same S8).mono (by omega)) (.tup (hide_new D7 n3) (.cons (.str _ (by decide)) (.cons (.int _) (.cons (.tup (hide_same S8 _ _ (hide_new D6 n2')) (dI _ _)) .nil)))) six_perm ((lit_fine (m := 62) (n := 1) (by decide +kernel) ?_ ?_ ?_).mono (by decide) (by decide))
        · rw [fineAll, fineAll, fineAll, ei, fineB, mI.1]
          rfl
        · have m2 := mI.2.1
          rw [List.length_map] at m2
          simp only [mass, massAll]
          omega
        · have m3 := mI.2.2
          simp only [PyData.depth, PyData.depthAll]
          omega
    refine if_f (decide_eq_false fun z => z2 (by have := V.int.inj z; omega)) ?_
    refine ⟨_, rfl, rfl, _, rfl, ?_⟩
    by_cases z3 : so = 3
    · refine if_t (decide_eq_true (by rw [z3]; rfl)) ?_
      refine ⟨_, rfl, _, _, rfl, rfl, ⟨by decide, by decide⟩, (by show 2 ≤ sizeLine; decide), fun a na => ?_⟩
      have f := ints_all [((n / 2 : Nat) : Int)] (by simp; omega)
      exact k _ (.tuple [.str "matching", .int ((n / 2 : Nat) : Int)]) _ (O2.trans (.of_same (same_new na))) ((D2.same (same_new na)).mono (by omega)) (.tup (hide_new D2 na) (.cons (.str _ (by decide)) (.cons (.int ((n / 2 : Nat) : Int)) .nil))) six_match ((lit_fine (by decide +kernel) f.1 (Nat.le_of_eq f.2.1) (Nat.le_of_eq f.2.2)).mono (by simp) (by decide))
    refine if_f (decide_eq_false fun z => z3 (by have := V.int.inj z; omega)) ?_
    refine ⟨(by show 2 ≤ sizeLine; decide), fun l nl => ?_⟩
    have Sl := same_new (o := HO.lst [.str "cycle", .str "tree"]) nl
    have el : upd H2 l (.lst [.str "cycle", .str "tree"]) l = some (.lst [.str "cycle", .str "tree"]) := upd_same
    have D5 := D2.same Sl
    have O5 := O2.trans (.of_same Sl)
    generalize upd H2 l (.lst [.str "cycle", .str "tree"]) = H5 at Sl el D5 O5 ⊢
    have z45 : so = 4 ∨ so = 5 := by omega
    have ec : atI [V.str "cycle", V.str "tree"] (((so : Nat) : Int) - 4) = some (.str (if so = 4 then "cycle" else "tree")) := by
      rcases z45 with rfl | rfl <;> rfl
    have f := ints_all [((max 1 n : Nat) : Int)] (by simp; omega)
    refine ⟨_, rfl, _, _, rfl, rfl, l, _, _, _, rfl, rfl, SqL.of el, ec, _, rfl, _, _, rfl, (by show 2 ≤ sizeLine; decide), fun a na => ?_⟩
    refine k _ (.tuple [.str (if so = 4 then "cycle" else "tree"), .int ((max 1 n : Nat) : Int)]) _ (O5.trans (.of_same (same_new na))) ((D5.same (same_new na)).mono (by omega)) (.tup (hide_new D5 na) (.cons (.str _ ?_) (.cons ?_ .nil))) ?_ ((lit_fine ?_ f.1 (Nat.le_of_eq f.2.1) (Nat.le_of_eq f.2.2)).mono (by simp) (by decide))
    · rcases z45 with rfl | rfl <;> decide
    · rw [em]
      exact .int _
    · rcases z45 with rfl | rfl
      · exact six_cycle
      · exact six_tree
    · rcases z45 with rfl | rfl <;> decide +kernel
end
end K3
set_option maxRecDepth 100000
set_option maxHeartbeats 8000000
namespace K3
open PySem PySem.Spec PyProof.Rows L2
/-! ### the law's space -/
abbrev s_space : Stmt := top 100
def ck : Nat → Nat
  | 0 => 102
  | k + 1 => 3 * ck k + 20
def mk : Nat → Nat
  | 0 => 200
  | k + 1 => 3 * mk k + 60
theorem mk_mono (k : Nat) : mk k ≤ mk (k + 1) := by
  show mk k ≤ 3 * mk k + 60
  omega
theorem ck_mono (k : Nat) : ck k ≤ ck (k + 1) := by
  show ck k ≤ 3 * ck k + 20
  omega
theorem ck_ge : ∀ k : Nat, 102 ≤ ck k
  | 0 => Nat.le_refl _
  | k + 1 => Nat.le_trans (ck_ge k) (ck_mono k)
theorem mk_ge : ∀ k : Nat, 200 ≤ mk k
  | 0 => Nat.le_refl _
  | k + 1 => Nat.le_trans (mk_ge k) (mk_mono k)
def spSpc (k : Nat) : Sp := fun vs H Q _ => ∃ (p q : Addr) (b : Nat), vs = [.ref p, .int (k : Nat)] ∧ k ≤ 3 ∧ Dk H p q b ∧ b + ck k ≤ 100000000 ∧
  ∀ (v : V) (d : PyData) (H' : Hp), Off p q H H' → Dk H' p q (b + ck k) → Dat (hide p q H') v d → Six d → Fine 0 (mk k) (5 + 2 * k) d → Q v H'
theorem less (m : Nat) (p : Addr) : [V.ref p, V.int (((m + 1 : Nat) : Int) - 1)] = [V.ref p, V.int (m : Nat)] := by
  rw [show ((m + 1 : Nat) : Int) - 1 = (m : Int) by omega]
mutual
/-- what the makers give holds no list -/
theorem dat_no {H : Hp} {L : Addr} {ys : List V} (hL : H L = some (.lst ys)) : ∀ {v : V} {d : PyData}, fineB 0 d = true → Dat H v d → Dat (noR L H) v d
  | _, _, _, .non => .non
  | _, _, _, .bl b => .bl b
  | _, _, _, .int i => .int i
  | _, _, _, .str x h => .str x h
  | _, _, h, .lst (a := a) ha hx => by
    rw [fineB, Bool.and_eq_true] at h
    exact absurd (of_decide_eq_true h.1) (by decide)
  | _, _, h, .tup (a := a) ha hx => by
    rw [fineB] at h
    refine .tup (noR_at ha fun e => ?_) (dat_nos hL h hx)
    rw [e, hL] at ha
    cases ha
  | _, _, _, .d0 (a := a) ha => by
    refine .d0 (noR_at ha fun e => ?_)
    rw [e, hL] at ha
    cases ha
theorem dat_nos {H : Hp} {L : Addr} {ys : List V} (hL : H L = some (.lst ys)) : ∀ {vs : List V} {ds : List PyData}, fineAll 0 ds = true → DatAll H vs ds → DatAll (noR L H) vs ds
  | _, _, _, .nil => .nil
  | _, _, h, .cons t u => by
    rw [fineAll, Bool.and_eq_true] at h
    exact .cons (dat_no hL h.1 t) (dat_nos hL h.2 u)
end
section
variable {P : Program} {w : World} {K : PySem.W.Frag} {mg : Str → Option Value} {base : Heap}
theorem sc_space : FnScope ["_law_deck_here", "_law_depth", "_law_sort", "_law_many", "_law_inner", "_law_k", "_law_names_here", "_law_name"] ["_law_deck_here", "_law_depth"] (defScope s_space) := ⟨rfl, rfl, rfl, by decide +kernel, rfl, by decide +kernel, by decide +kernel⟩
theorem sm_body {f fD fN fL fP : Addr} {fd fdD fdN fdL fdP : FuncData} {sp : Sp} (n : Nat) (F : Fun K "_law_nested_space" "_law_nested_space" s_space f fd) (bs : L2.Binds K fd ["_law_deck_here", "_law_depth"] []) (g : mg "_law_nested_space" = some (.ref f)) (G : FnOk P w K mg base CX0 (4 + n) f fd ["_law_deck_here", "_law_depth"] sp) (T : Nm mg) (Ts : mg "sorted" = none)
    (D_draw : DefOk K mg "_law_draw" sDraw ["_law_deck_here", "_law_bound_here"] fD fdD) (D_names : DefOk K mg "_law_names" s_names ["_law_deck_here", "_law_many"] fN fdN) (D_pick : DefOk K mg "_law_pick" sPick ["_law_deck_here", "_law_items"] fP fdP)
    (D_leaf : DefOk K mg "_law_leaf" s_leaf ["_law_deck_here", "_law_large"] fL fdL) (G_leaf : FnOk P w K mg base CX0 4 fL fdL ["_law_deck_here", "_law_large"] spLeaf)
    (hn : ∀ m, n = m + 1 → ∀ vs H Q E, spSpc m vs H Q E → sp vs H Q E) : FnOk P w K mg base CX0 (5 + n) f fd ["_law_deck_here", "_law_depth"] (spSpc n) := by
  have G_draw : FnOk P w K mg base CX0 1 fD fdD ["_law_deck_here", "_law_bound_here"] spDraw := ok_draw D_draw.F
  have G_pick : FnOk P w K mg base CX0 2 fP fdP ["_law_deck_here", "_law_items"] spPick := ok_pick D_pick.F T D_draw.F D_draw.b D_draw.g
  have G_names : FnOk P w K mg base CX0 2 fN fdN ["_law_deck_here", "_law_many"] spNms := okl_names D_names.F T Ts D_draw
  rw [show 5 + n = (4 + n) + 1 by omega]
  refine F.ok sc_space (fun vs H Q E h => ?_) (fun cdv A outer s H vs Q E hr h => ?_)
  · obtain ⟨p, q, b, rfl, _⟩ := h
    rfl
  · obtain ⟨p, q, b, rfl, hk3, D, hb, k⟩ := h
    have hr1 : Room 1 _ := hr.mono (by omega)
    have hr2 : Room 2 _ := hr.mono (by omega)
    have hr4 : Room 4 _ := hr.mono (by omega)
    refine ⟨_, (pss_cons (ps_set (i := 2) sc_space.nd rfl (Or.inl rfl) (pe_call G_draw hr1 rfl D_draw.g D_draw.F.kp D_draw.b .nil pass0 (pa_cons (pv 0) (pa_cons pe_int pa_nil))))
      (pss_cons (ps_if (PW.pt (pw_or (pt_cmpR op_eq (pv 1) pe_int (nomark _)) (pw_or1 (pt_cmpR op_eq (pv 2) pe_int (nomark _)))))
        (pss_one (ps_ret (pe_call G_leaf hr4 rfl D_leaf.g D_leaf.F.kp D_leaf.b .nil pass0 (pa_cons (pv 0) (pa_cons (pe_cmpR op_eq (pe_call G_draw hr1 rfl D_draw.g D_draw.F.kp D_draw.b .nil pass0 (pa_cons (pv 0) (pa_cons pe_int pa_nil))) pe_int (nomark _)) pa_nil)))))
        pss_nil)
      (pss_cons (ps_if (pt_cmpR op_eq (pv 2) pe_int (nomark _))
        (pss_one (ps_ret (pe_tup (pa_cons pe_str (pa_cons (pe_call G_pick hr2 rfl D_pick.g D_pick.F.kp D_pick.b .nil pass0 (pa_cons (pv 0) (pa_cons (pe_lst (pa_cons pe_int (pa_cons pe_int (pa_cons pe_int (pa_cons pe_int (pa_cons pe_int (pa_cons pe_int pa_nil))))))) pa_nil))) (pa_cons (pe_call G hr rfl g F.kp bs .nil pass0 (pa_cons (pv 0) (pa_cons (pe_op op_sub (pv 1) pe_int) pa_nil))) pa_nil))))))
        pss_nil)
      (pss_cons (ps_set (i := 3) sc_space.nd rfl (Or.inl rfl) (pe_op op_addN pe_int (pe_call G_draw hr1 rfl D_draw.g D_draw.F.kp D_draw.b .nil pass0 (pa_cons (pv 0) (pa_cons pe_int pa_nil)))))
      (pss_cons (ps_set (i := 4) sc_space.nd rfl (Or.inl rfl) (pe_callTy call_tuple_of (by rfl) T.tuple (by decide +kernel) (pa_cons (pe_lc (own := [("_law_k", 5)]) (g := (gName 5)) (tt := tYes) (te := tCall sp [] E0 (tCons (tVar 0) (tCons (tOp (rI0 fun i j => .int (i - j)) (tVar 1) (tC (.int 1))) tNil))) rfl sc_space.nd (pi_range1 rfl T.range (pa_cons (pv 3) pa_nil)) (blkOk_by (N := ["_law_deck_here", "_law_depth", "_law_sort", "_law_many", "_law_inner", "_law_k", "_law_names_here", "_law_name"]) (sc := defScope s_space) (by decide +kernel))
          (fun _ _ _ _ _ => (pg_name (i := 5) sc_space.nd rfl (Or.inl rfl))) (fun _ _ _ _ _ => pts_nil) (fun _ _ _ _ _ => (pe_call G hr rfl g F.kp bs .nil pass0 (pa_cons (pv 0) (pa_cons (pe_op op_sub (pv 1) pe_int) pa_nil))))) pa_nil)))
      (pss_cons (ps_if (pt_cmpR op_eq (pv 2) pe_int (nomark _))
        (pss_cons (ps_set (i := 6) sc_space.nd rfl (Or.inl rfl) (pe_call G_names hr2 rfl D_names.g D_names.F.kp D_names.b .nil pass0 (pa_cons (pv 0) (pa_cons (pv 3) pa_nil))))
        (pss_one (ps_ret (pe_tup (pa_cons pe_str (pa_cons (pe_callTy call_tuple_of (by rfl) T.tuple (by decide +kernel) (pa_cons (pe_lc (own := [("_law_name", 7)]) (g := (gName 7)) (tt := tYes) (te := tTup (tCons (tVar 7) (tCons (tOp (rI0 fun i j => .int (i + j)) (tC (.int 1)) (tCall spDraw [] E0 (tCons (tVar 0) (tCons (tC (.int 3)) tNil)))) tNil))) rfl sc_space.nd (pi_list (pv 6)) (blkOk_by (N := ["_law_deck_here", "_law_depth", "_law_sort", "_law_many", "_law_inner", "_law_k", "_law_names_here", "_law_name"]) (sc := defScope s_space) (by decide +kernel))
          (fun _ _ _ _ _ => (pg_name (i := 7) sc_space.nd rfl (Or.inl rfl))) (fun _ _ _ _ _ => pts_nil) (fun _ _ _ _ _ => (pe_tup (pa_cons (pv 7) (pa_cons (pe_op op_add pe_int (pe_call G_draw hr1 rfl D_draw.g D_draw.F.kp D_draw.b .nil pass0 (pa_cons (pv 0) (pa_cons pe_int pa_nil)))) pa_nil))))) pa_nil)) (pa_cons (pv 4) pa_nil)))))))
        pss_nil)
      (pss_one (ps_ret (pe_tup (pa_cons (pe_ix ix_list (pe_lst (pa_cons pe_str (pa_cons pe_str pa_nil))) (pe_op op_mod (pv 2) pe_int) (fun _ _ => rfl)) (pa_cons (pv 4) pa_nil))))))))))), ?_⟩
    obtain ⟨ds, mx, c0, D0, hc0⟩ := D
    have c101 := ck_ge n
    refine ⟨_, rfl, p, q, ds, mx, c0, 6, rfl, by decide, by decide, D0, by omega, fun so ds1 H1 so0 so1 O1 D1 => ?_⟩
    obtain ⟨so, rfl⟩ := nat_of so0
    have D1' : Dk H1 p q (b + 1) := ⟨_, mx, _, D1, by omega⟩
    have leafk : ∀ (v : V) (d : PyData) (H' : Hp), Off p q H1 H' → Dk H' p q (b + 2 + 100) → Dat (hide p q H') v d → Six d → Fine 0 200 5 d → Q v H' := fun v d H' O' D' dd lb fi =>
      k v d H' (O1.trans O') (D'.mono (by omega)) dd lb (fi.mono (mk_ge n) (by omega))
    refine ⟨_, rfl, rfl, _, rfl, ?_⟩
    cases n with
    | zero => exact if_t rfl (if_t rfl ⟨_, rfl, _, rfl, p, q, ds1, mx, c0 + 1, 3, rfl, by decide, by decide, D1, by omega, fun e ds2 H2 e0 e1 O2 D2 => ⟨rfl, p, q, b + 2, _, rfl, ⟨_, mx, _, D2, by omega⟩, by omega, fun v d H' O' D' dd s f => leafk v d H' (O2.trans O') D' dd s f⟩⟩)
    | succ m =>
      have ckm : ck (m + 1) = 3 * ck m + 20 := rfl
      have mkm : mk (m + 1) = 3 * mk m + 60 := rfl
      have c101m := ck_ge m
      have m29 := mk_ge m
      refine if_f (decide_eq_false fun z => by have := V.int.inj z; omega) ⟨_, rfl, rfl, _, rfl, ?_⟩
      by_cases hs : so = 0
      · exact if_t (decide_eq_true (by rw [hs]; rfl)) ⟨_, rfl, _, rfl, p, q, ds1, mx, c0 + 1, 3, rfl, by decide, by decide, D1, by omega, fun e ds2 H2 e0 e1 O2 D2 => ⟨rfl, p, q, b + 2, _, rfl, ⟨_, mx, _, D2, by omega⟩, by omega, fun v d H' O' D' dd s f => leafk v d H' (O2.trans O') D' dd s f⟩⟩
      refine if_f (decide_eq_false fun z => hs (by have := V.int.inj z; omega)) ⟨_, rfl, rfl, _, rfl, ?_⟩
      by_cases h3 : so = 1
      · refine if_t (decide_eq_true (by rw [h3]; rfl)) ⟨_, rfl, (by show 6 ≤ sizeLine; decide), fun l nl => ?_⟩
        have S1 := same_new (o := HO.lst [.int 0, .int 1, .int 2, .int 3, .int 7, .int 40]) nl
        obtain ⟨lp, lq⟩ := D1'.new nl
        have el : upd H1 l (.lst [.int 0, .int 1, .int 2, .int 3, .int 7, .int 40]) l = some (.lst [.int 0, .int 1, .int 2, .int 3, .int 7, .int 40]) := upd_same
        have Dl := D1'.same S1
        generalize upd H1 l (.lst [.int 0, .int 1, .int 2, .int 3, .int 7, .int 40]) = H1' at S1 el Dl ⊢
        refine pick_of (E := E0) Dl el lp lq (by decide) (by decide) (by omega) fun jj x H2 hx O2 D2' => ?_
        obtain ⟨c, rfl, hc⟩ : ∃ c : Nat, x = V.int (c : Nat) ∧ c ≤ 40 := by
          match jj, hx with
          | 0, hx => exact ⟨0, (Option.some.inj hx).symm, by decide⟩
          | 1, hx => exact ⟨1, (Option.some.inj hx).symm, by decide⟩
          | 2, hx => exact ⟨2, (Option.some.inj hx).symm, by decide⟩
          | 3, hx => exact ⟨3, (Option.some.inj hx).symm, by decide⟩
          | 4, hx => exact ⟨7, (Option.some.inj hx).symm, by decide⟩
          | 5, hx => exact ⟨40, (Option.some.inj hx).symm, by decide⟩
          | jj + 6, hx => simp at hx
        have O12 := (O1.trans (.of_same S1)).trans O2
        refine ⟨_, rfl, _, rfl, _, _, rfl, rfl, hn m rfl _ _ _ _ ⟨p, q, b + 2, less m p, by omega, D2', by omega, fun v d H3 O3 D3 dd gd fi => ⟨(by show 3 ≤ sizeLine; decide), fun a na => ?_⟩⟩⟩
        have Sa := same_new (o := HO.tup [V.str "power", V.int (c : Int), v]) na
        have fm := fi.m
        have fn := fi.n
        refine k _ (.tuple [.str "power", .int (c : Nat), d]) _ ((O12.trans O3).trans (.of_same Sa)) ((D3.same Sa).mono (by omega)) (.tup (hide_new D3 na) (.cons (.str _ (by decide)) (.cons (.int _) (.cons (dd.same (hide_same Sa)) .nil)))) (six_of (by rfl) fun e he => ?_) ?_
        · obtain rfl : e = d := List.mem_singleton.mp (show e ∈ [d] from he)
          exact gd
        · have ei := fine_i (s := 0) (i := ((c : Nat) : Int)) (by omega) (by omega)
          refine (lit_fine (z := "power") (ds := [.int (c : Nat), d]) (m := 1 + mk m) (n := 5 + 2 * m) (by decide +kernel) ?_ ?_ ?_).mono (by omega) (by omega)
          · rw [fineAll, fineAll, fineAll, ei, fi.f]
            rfl
          · simp only [mass, massAll]
            omega
          · simp only [PyData.depth, PyData.depthAll]
            omega
      refine if_f (decide_eq_false fun z => h3 (by have := V.int.inj z; omega)) ?_
      refine ⟨_, rfl, p, q, ds1, mx, c0 + 1, 3, rfl, by decide, by decide, D1, by omega, fun j ds2 H2 j0 j1 O2 D2 => ?_⟩
      obtain ⟨j, rfl⟩ := nat_of j0
      have D2' : Dk H2 p q (b + 2) := ⟨_, mx, _, D2, by omega⟩
      refine ⟨1, j, rfl, rfl, ?_⟩
      generalize hJ : 1 + j = Jn
      refine ⟨_, rfl, (Jn : Int), rfl, by omega, by omega, fun L nL => ?_⟩
      obtain ⟨Lp, Lq⟩ := D2'.new nL
      refine lc_range (n := Jn) (fun i Hx => ∃ (ws : List V) (es : List PyData), Off p q H2 Hx ∧ Dk Hx p q (b + 2 + i * ck m) ∧ Hx L = some (.lst ws) ∧ DatAll (hide p q (noR L Hx)) ws es ∧ es.length = i ∧ ∀ e ∈ es, Six e ∧ Fine 0 (mk m) (5 + 2 * m) e)
        ⟨[], [], .of_same (same_new nL), (dk_upd D2' Lp Lq).mono (by omega), upd_same, .nil, rfl, by simp⟩ ?_ ?_
      · rintro i Hx hi ⟨ws, es, O6, D6, hL, dA, le, all⟩
        have ib : (i + 1) * ck m ≤ 3 * ck m := Nat.mul_le_mul_right _ (by omega)
        have ie : (i + 1) * ck m = i * ck m + ck m := Nat.succ_mul ..
        refine ⟨rfl, _, rfl, _, rfl, _, _, rfl, rfl, hn m rfl _ _ _ _ ⟨p, q, b + 2 + i * ck m, less m p, by omega, D6, by omega, fun v d H7 O7 D7 dd gd fi => ?_⟩⟩
        have hL7 := O7 _ _ hL Lp Lq
        have lw := dA.len
        have ddn : Dat (hide p q (noR L H7)) v d := by
          have hLh : hide p q H7 L = some (.lst ws) := hide_at hL7 Lp Lq
          have z := dat_no hLh fi.f dd
          have e : noR L (hide p q H7) = hide p q (noR L H7) := by
            funext x
            show (if x = L then none else (if x = p ∨ x = q then none else H7 x)) = (if x = p ∨ x = q then none else (if x = L then none else H7 x))
            by_cases c1 : x = L
            · rw [if_pos c1, if_pos c1]
              split <;> rfl
            · rw [if_neg c1, if_neg c1]
          rw [e] at z
          exact z
        refine ⟨ws, hL7, ?_, ws ++ [v], es ++ [d], ?_, (dk_upd D7 Lp Lq).mono (by omega), upd_same, ?_, ?_, ?_⟩
        · rw [lw, sizeLine_eq]
          omega
        · intro b' o e h1 h2
          have br : b' ≠ L := fun z => by
            rw [z, nL] at e
            cases e
          rw [upd_ne br]
          exact (O6.trans O7) b' o e h1 h2
        · rw [noR_upd]
          exact datAll_append (dA.same (noR_off O7)) (.cons ddn .nil)
        · rw [List.length_append, le]
          rfl
        · intro e he
          rcases List.mem_append.mp he with z | z
          · exact all e z
          · rw [List.mem_singleton.mp z]
            exact ⟨gd, fi⟩
      · rintro Hx ⟨ws, es, O6, D6, hL, dA, le, all⟩
        have ib : Jn * ck m ≤ 3 * ck m := Nat.mul_le_mul_right _ (by omega)
        have lw := dA.len
        refine ⟨L, ws, rfl, .inl ⟨SqL.of hL, fun t nt => ?_⟩⟩
        have St := same_new (o := HO.tup ws) nt
        have dT : DatAll (hide p q (upd Hx t (.tup ws))) ws es := (dA.same noR_hide).same (hide_same St)
        have ht : upd Hx t (.tup ws) t = some (.tup ws) := upd_same
        obtain ⟨tp, tq⟩ := D6.new nt
        have Dt := D6.same St
        have Ot := ((O1.trans O2).trans O6).trans (.of_same St)
        generalize upd Hx t (.tup ws) = H8 at St dT ht Dt Ot ⊢
        have esL : es.length ≤ 3 := by omega
        have es1 : 1 ≤ es.length := by omega
        have fineE : fineAll 0 es = true ∧ massAll es ≤ 3 * mk m ∧ PyData.depthAll es ≤ 5 + 2 * m := by
          have key : ∀ l : List PyData, (∀ e ∈ l, Six e ∧ Fine 0 (mk m) (5 + 2 * m) e) → fineAll 0 l = true ∧ massAll l ≤ l.length * mk m ∧ PyData.depthAll l ≤ 5 + 2 * m := by
            intro l
            induction l with
            | nil => intro _; exact ⟨rfl, by simp [massAll], by simp [PyData.depthAll]⟩
            | cons e l ih =>
              intro h
              obtain ⟨a1, a2, a3⟩ := ih fun x hx => h x (by simp [hx])
              have F := (h e (by simp)).2
              have f1 := F.f
              have f2 := F.m
              have f3 := F.n
              refine ⟨by rw [fineAll, f1, a1]; rfl, ?_, ?_⟩
              · rw [massAll, List.length_cons, Nat.succ_mul]
                omega
              · rw [PyData.depthAll]
                omega
          obtain ⟨a1, a2, a3⟩ := key es all
          exact ⟨a1, Nat.le_trans a2 (Nat.mul_le_mul_right _ esL), a3⟩
        refine ⟨_, rfl, rfl, _, rfl, ?_⟩
        by_cases h4 : so = 2
        · refine if_t (decide_eq_true (by rw [h4]; rfl)) ?_
          refine ⟨_, rfl, _, rfl, p, q, b + 2 + 3 * ck m, Jn, rfl, by omega, Dt.mono (by omega), by omega, fun tn ns H9 O9 D9 htn tnp tnq hnl N => ?_⟩
          refine ⟨_, rfl, tn, rfl, ⟨_, SqL.of htn⟩, fun L2 nL2 => ?_⟩
          obtain ⟨L2p, L2q⟩ := D9.new nL2
          refine lc_list (K := K) (a := tn) (xs := ns.map V.str) (fun i Hx => ∃ (cs : List (Str × Nat)) (items : List V), Off p q H9 Hx ∧ Dk Hx p q (b + 2 + 3 * ck m + 2 + i) ∧ Hx L2 = some (.lst items) ∧ DatAll (hide p q (noR L2 Hx)) items (cs.map cntD) ∧ cs.map (·.1) = ns.take i ∧ ∀ c ∈ cs, (nameB (.str c.1) = true ∧ nmF c.1 = true) ∧ 1 ≤ c.2 ∧ c.2 ≤ 3)
            ⟨[], [], .of_same (same_new nL2), dk_upd D9 L2p L2q, upd_same, .nil, rfl, by simp⟩ (fun i Hx _ ⟨_, _, O, _⟩ => SqL.of (O _ _ htn tnp tnq)) ?_ ?_
          · rintro i y Hx hi ⟨cs, items, O10, D10, hL2, dA2, ec, hcs⟩
            obtain ⟨nm, hnm, rfl⟩ : ∃ nm, ns[i]? = some nm ∧ y = V.str nm := by
              rw [List.getElem?_map] at hi
              cases e : ns[i]? with
              | none =>
                rw [e] at hi
                cases hi
              | some z =>
                rw [e] at hi
                exact ⟨z, rfl, (Option.some.inj hi).symm⟩
            have hil : i < ns.length := (List.getElem?_eq_some_iff.mp hnm).1
            have hmem : nm ∈ ns := List.mem_of_getElem? hnm
            have l2 := dA2.len
            have lcs : cs.length = i := by
              have z := congrArg List.length ec
              rw [List.length_map, List.length_take] at z
              omega
            rw [List.length_map] at l2
            obtain ⟨ds3, mx3, c3, D3', hc3⟩ := D10
            refine ⟨rfl, _, rfl, _, rfl, p, q, ds3, mx3, c3, 3, rfl, by decide, by decide, D3', by omega, fun r ds4 H11 r0 r1 O11 D11 => ?_⟩
            obtain ⟨r, rfl⟩ := nat_of r0
            have D11' : Dk H11 p q (b + 2 + 3 * ck m + 2 + (i + 1)) := ⟨_, mx3, _, D11, by omega⟩
            have hL11 := O11 _ _ hL2 L2p L2q
            refine ⟨_, _, rfl, rfl, (by show 2 ≤ sizeLine; decide), fun a na => ?_⟩
            have e1r : (1 : Int) + (r : Int) = ((1 + r : Nat) : Int) := by omega
            have en1 : (V.int ((fun i j : Int => i + j) 1 (r : Int))) = V.int ((1 + r : Nat) : Int) := congrArg V.int e1r
            have eup : upd H11 a (HO.tup [V.str nm, V.int ((1 : Int) + (r : Int))]) = upd H11 a (HO.tup [V.str nm, V.int ((1 + r : Nat) : Int)]) := by rw [e1r]
            show ∃ acc, upd H11 a (HO.tup [V.str nm, V.int ((1 : Int) + (r : Int))]) L2 = some (HO.lst acc) ∧ _
            rw [eup]
            have Sa := same_new (o := HO.tup [.str nm, .int ((1 + r : Nat) : Int)]) na
            have ar : a ≠ L2 := fun e => by
              rw [e, hL11] at na
              cases na
            obtain ⟨ap, aq⟩ := D11'.new na
            refine ⟨items, Sa _ _ hL11, by rw [sizeLine_eq]; omega, cs ++ [(nm, 1 + r)], items ++ [.ref a], ?_, dk_upd (D11'.same Sa) L2p L2q, upd_same, ?_, ?_, ?_⟩
            · intro b' o e h1 h2
              have br : b' ≠ L2 := fun z => by
                rw [z, nL2] at e
                cases e
              rw [upd_ne br]
              exact Sa _ _ ((O10.trans O11) b' o e h1 h2)
            · rw [noR_upd, List.map_append]
              exact datAll_append ((dA2.same (noR_off O11)).same (noR_off (Off.of_same Sa))) (.cons (.tup (hide_at (noR_at upd_same ar) ap aq) (.cons (.str _ (nm_len (N.fi _ hmem))) (.cons (.int _) .nil))) .nil)
            · rw [List.map_append, ec, List.take_add_one, hnm]
              rfl
            · intro c hc
              rcases List.mem_append.mp hc with hc | hc
              · exact hcs c hc
              · obtain rfl : c = (nm, 1 + r) := by simpa using hc
                exact ⟨⟨N.nm _ hmem, N.fi _ hmem⟩, by show 1 ≤ 1 + r; omega, by show 1 + r ≤ 3; omega⟩
          · rintro Hx ⟨cs, items, O10, D10, hL2, dA2, ec, hcs⟩
            rw [List.length_map, List.take_length] at ec
            have lcs : cs.length = Jn := by
              have z := congrArg List.length ec
              rw [List.length_map] at z
              omega
            refine ⟨L2, items, rfl, .inl ⟨SqL.of hL2, fun t2 nt2 => ?_⟩⟩
            have S2 := same_new (o := HO.tup items) nt2
            have d2 : DatAll (hide p q (upd Hx t2 (.tup items))) items (cs.map cntD) := (dA2.same noR_hide).same (hide_same S2)
            have h2t : upd Hx t2 (.tup items) t2 = some (.tup items) := upd_same
            obtain ⟨t2p, t2q⟩ := D10.new nt2
            have D12 := D10.same S2
            have O12 := (O9.trans O10).trans (.of_same S2)
            generalize upd Hx t2 (.tup items) = H12 at S2 d2 h2t D12 O12 ⊢
            refine ⟨_, rfl, (by show 3 ≤ sizeLine; decide), fun a na => ?_⟩
            have Sa := same_new (o := HO.tup [V.str "decorated", V.ref t2, V.ref t]) na
            have ht12 := O12 _ _ ht tp tq
            have dT12 := (dT.same (hide_off O12)).same (hide_same (p := p) (q := q) Sa)
            have csum : (cs.map (·.2)).sum ≤ 9 := by
              have z := sum_le (b := 3) (l := cs.map (·.2)) fun x hx => by
                obtain ⟨c, hc, rfl⟩ := List.mem_map.mp hx
                exact (hcs c hc).2.2
              rw [List.length_map] at z
              omega
            have eN : countsN (.tuple (cs.map cntD)) = cs.map (·.2) := by
              unfold countsN
              show (cs.map cntD).map _ = _
              rw [List.map_map]
              exact List.map_congr_left fun c _ => Int.toNat_natCast _
            have h0 : cs ≠ [] := fun z => by
              rw [z] at lcs
              have : (0 : Nat) = Jn := lcs
              omega
            have cb : countsB (.tuple (cs.map cntD)) = true := cnts_ok h0 (by omega) (fun c hc => ⟨(hcs c hc).1.1, (hcs c hc).2.1, by have := (hcs c hc).2.2; omega⟩) (by omega) (by rw [ec]; exact N.asc)
            have mj := cnts_mass (L := cs) fun c hc => ⟨(hcs c hc).1.2, by have := (hcs c hc).2.2; omega⟩
            refine k _ (.tuple [.str "decorated", .tuple (cs.map cntD), .tuple es]) _ ((Ot.trans O12).trans (.of_same Sa)) ((D12.same Sa).mono (by rw [List.length_map]; omega)) (.tup (hide_new D12 na) (.cons (.str _ (by decide)) (.cons (.tup (hide_same Sa _ _ (hide_at h2t t2p t2q)) (d2.same (hide_same Sa))) (.cons (.tup (hide_same Sa _ _ (hide_at ht12 tp tq)) dT12) .nil)))) ?_ ?_
            · exact six_of (by rfl) fun e he => (all e he).1
            · have fc : fineAll 0 (cs.map cntD) = true := fineAll_iff.mpr fun d hd => by
                obtain ⟨c, hc, rfl⟩ := List.mem_map.mp hd
                exact (cnt_fine (hcs c hc).1.2 (by have := (hcs c hc).2.2; omega)).1
              obtain ⟨g1, g2, g3⟩ := fineE
              refine (lit_fine (z := "decorated") (ds := [.tuple (cs.map cntD), .tuple es]) (m := 3 * mk m + 40) (n := 6 + 2 * m) (by decide +kernel) ?_ ?_ ?_).mono (by omega) (by omega)
              · rw [fineAll, fineAll, fineAll, fineB, fineB, fc, g1]
                rfl
              · simp only [mass, massAll]
                omega
              · simp only [PyData.depth, PyData.depthAll]
                omega
        · refine if_f (decide_eq_false fun z => h4 (by have := V.int.inj z; omega)) ?_
          refine ⟨(by show 2 ≤ sizeLine; decide), fun l nl => ?_⟩
          have Sl := same_new (o := HO.lst [.str "product", .str "choice"]) nl
          have el : upd H8 l (.lst [.str "product", .str "choice"]) l = some (.lst [.str "product", .str "choice"]) := upd_same
          have Dl := Dt.same Sl
          have Ol := Ot.trans (.of_same Sl)
          have htl := Sl _ _ ht
          have dTl := dT.same (hide_same (p := p) (q := q) Sl)
          generalize upd H8 l (.lst [.str "product", .str "choice"]) = H9 at Sl el Dl Ol htl dTl ⊢
          obtain ⟨wd, hwd, ew⟩ : ∃ wd : Str, (wd = "product" ∨ wd = "choice") ∧ atI [V.str "product", V.str "choice"] (((so : Nat) : Int) % 2) = some (.str wd) := by
            have h56 : so = 3 ∨ so = 4 ∨ so = 5 := by omega
            rcases h56 with rfl | rfl | rfl
            · exact ⟨"choice", .inr rfl, rfl⟩
            · exact ⟨"product", .inl rfl, rfl⟩
            · exact ⟨"choice", .inr rfl, rfl⟩
          refine ⟨_, rfl, _, _, rfl, rfl, (show (0 : Int) < 2 by decide), l, _, _, _, rfl, rfl, SqL.of el, ew, _, rfl, (by show 2 ≤ sizeLine; decide), fun a na => ?_⟩
          have Sa := same_new (o := HO.tup [V.str wd, V.ref t]) na
          have wl : wd.length ≤ 1000 := by rcases hwd with rfl | rfl <;> decide
          refine k _ (.tuple [.str wd, .tuple es]) _ (Ol.trans (.of_same Sa)) ((Dl.same Sa).mono (by omega)) (.tup (hide_new Dl na) (.cons (.str _ wl) (.cons (.tup (hide_same Sa _ _ (hide_at htl tp tq)) (dTl.same (hide_same Sa))) .nil))) ?_ ?_
          · have en : nestedD (.tuple [.str wd, .tuple es]) = es := by rcases hwd with rfl | rfl <;> rfl
            refine six_of (by rcases hwd with rfl | rfl <;> rfl) fun e he => ?_
            rw [en] at he
            exact (all e he).1
          · obtain ⟨g1, g2, g3⟩ := fineE
            have lw : fineB 0 (.str wd) = true ∧ mass (.str wd) ≤ 12 := by rcases hwd with rfl | rfl <;> decide +kernel
            refine (lit_fine (z := wd) (ds := [.tuple es]) (m := 3 * mk m + 1) (n := 6 + 2 * m) lw ?_ ?_ ?_).mono (by omega) (by omega)
            · rw [fineAll, fineAll, fineB, g1]
              rfl
            · simp only [mass, massAll]
              omega
            · simp only [PyData.depth, PyData.depthAll]
              omega
theorem okl_space {f fD fN fL fP : Addr} {fd fdD fdN fdL fdP : FuncData} (F : Fun K "_law_nested_space" "_law_nested_space" s_space f fd) (bs : L2.Binds K fd ["_law_deck_here", "_law_depth"] []) (g : mg "_law_nested_space" = some (.ref f)) (T : Nm mg) (Ts : mg "sorted" = none)
    (D_draw : DefOk K mg "_law_draw" sDraw ["_law_deck_here", "_law_bound_here"] fD fdD) (D_names : DefOk K mg "_law_names" s_names ["_law_deck_here", "_law_many"] fN fdN) (D_pick : DefOk K mg "_law_pick" sPick ["_law_deck_here", "_law_items"] fP fdP)
    (D_leaf : DefOk K mg "_law_leaf" s_leaf ["_law_deck_here", "_law_large"] fL fdL) (G_leaf : FnOk P w K mg base CX0 4 fL fdL ["_law_deck_here", "_law_large"] spLeaf) : ∀ n : Nat, FnOk P w K mg base CX0 (5 + n) f fd ["_law_deck_here", "_law_depth"] (spSpc n)
  | 0 => sm_body (sp := fun _ _ _ _ => False) 0 F bs g fn_none T Ts D_draw D_names D_pick D_leaf G_leaf fun m e => by cases e
  | n + 1 => by
    have G := okl_space F bs g T Ts D_draw D_names D_pick D_leaf G_leaf n
    rw [show 5 + n = 4 + (n + 1) by omega] at G
    refine sm_body (n + 1) F bs g G T Ts D_draw D_names D_pick D_leaf G_leaf fun m e vs H Q E h => ?_
    obtain rfl : n = m := Nat.succ.inj e
    exact h
end
end K3
set_option maxRecDepth 100000
set_option maxHeartbeats 4000000
namespace K3
open PySem PySem.Spec PyProof.Rows L2
/-! ### the law's deep spaces -/
abbrev s_deep : Stmt := top 95
def deepL (d : PyData) : List PyData := [.tuple [.str "product", .tuple [d]], .tuple [.str "choice", .tuple [d]], .tuple [.str "power", .int 1, d]]
def deepD : Nat → PyData
  | 0 => .tuple [.str "cycle", .int 3]
  | k + 1 => (deepL (deepD k)).getD ((k + 1) % 3) .none
def spDeep : Sp := fun vs H Q _ => ∃ n : Nat, vs = [.int (n : Nat)] ∧ 1 ≤ n ∧ n ≤ 10 ∧ ∀ (v : V) (H' : Hp), Same H H' → Dat H' v (deepD (n - 1)) → Q v H'
section
variable {P : Program} {w : World} {K : PySem.W.Frag} {mg : Str → Option Value} {base : Heap}
theorem sc_deep : FnScope ["_law_depth", "_law_area", "_law_k"] ["_law_depth"] (defScope s_deep) := ⟨rfl, rfl, rfl, by decide +kernel, rfl, by decide +kernel, by decide +kernel⟩
theorem okl_deep {f : Addr} {fd : FuncData} (F : Fun K "_law_deep" "_law_deep" s_deep f fd) (T : Nm mg) : FnOk P w K mg base CX0 1 f fd ["_law_depth"] spDeep := by
  refine F.ok sc_deep (fun vs H Q E h => ?_) (fun cdv A outer s H vs Q E hr h => ?_)
  · obtain ⟨n, rfl, _⟩ := h
    rfl
  · obtain ⟨n, rfl, h1, h10, k⟩ := h
    refine ⟨_, (pss_cons (ps_set (i := 1) sc_deep.nd rfl (Or.inl rfl) (pe_tup (pa_cons pe_str (pa_cons pe_int pa_nil))))
      (pss_cons (ps_for PassesOwn.never rfl (pi_range2 rfl T.range (pa_cons pe_int (pa_cons (pv 0) pa_nil))) (pg_name (i := 2) sc_deep.nd rfl (Or.inl rfl))
        (pss_one (ps_set (i := 1) sc_deep.nd rfl (Or.inl rfl) (pe_ix ix_list (pe_lst (pa_cons (pe_tup (pa_cons pe_str (pa_cons (pe_tup (pa_cons (pv 1) pa_nil)) pa_nil))) (pa_cons (pe_tup (pa_cons pe_str (pa_cons (pe_tup (pa_cons (pv 1) pa_nil)) pa_nil))) (pa_cons (pe_tup (pa_cons pe_str (pa_cons pe_int (pa_cons (pv 1) pa_nil)))) pa_nil)))) (pe_op op_mod (pv 2) pe_int) (fun _ _ => rfl)))))
      (pss_one (ps_ret (pv 1))))), ?_⟩
    refine ⟨(by show 2 ≤ sizeLine; decide), fun a0 n0 => ?_⟩
    have S0 := same_new (o := HO.tup [.str "cycle", .int 3]) n0
    have d0 : Dat (upd H a0 (.tup [.str "cycle", .int 3])) (.ref a0) (deepD 0) := .tup upd_same (.cons (.str _ (by decide)) (.cons (.int _) .nil))
    generalize upd H a0 (.tup [.str "cycle", .int 3]) = H0 at S0 d0 ⊢
    refine ⟨_, rfl, 1, (n : Int), rfl, ⟨by omega, by omega, by omega, by omega⟩, for_range (lo := 1) (n := ((n : Int) - 1).toNat) (fun i σ Hx => ∃ (v : V) (x2 : Option V), σ = [some (.int (n : Nat)), some v, x2] ∧ Same H0 Hx ∧ Dat Hx v (deepD i))
      ⟨_, none, rfl, Same.refl _, d0⟩ ?_ ?_⟩
    · rintro i σ Hx hi ⟨v, x2, rfl, S1, dv⟩
      have e1 : (1 : Int) + (i : Int) = ((i + 1 : Nat) : Int) := by omega
      rw [e1]
      refine ⟨_, rfl, (by show 1 ≤ sizeLine; decide), fun a1 n1 => ⟨(by show 2 ≤ sizeLine; decide), fun a2 n2 => ?_⟩⟩
      have S2 := (same_new (o := HO.tup [v]) n1).trans (same_new (o := HO.tup [.str "product", .ref a1]) n2)
      have dA : Dat (upd (upd Hx a1 (.tup [v])) a2 (.tup [.str "product", .ref a1])) (.ref a2) (.tuple [.str "product", .tuple [deepD i]]) :=
        .tup upd_same (.cons (.str _ (by decide)) (.cons ((Dat.tup upd_same (.cons (dv.same (same_new n1)) .nil) : Dat (upd Hx a1 (.tup [v])) (.ref a1) (.tuple [deepD i])).same (same_new n2)) .nil))
      generalize upd (upd Hx a1 (.tup [v])) a2 (.tup [.str "product", .ref a1]) = H2 at S2 dA ⊢
      have dv2 := dv.same S2
      refine ⟨_, rfl, (by show 1 ≤ sizeLine; decide), fun a3 n3 => ⟨(by show 2 ≤ sizeLine; decide), fun a4 n4 => ?_⟩⟩
      have S4 := (same_new (o := HO.tup [v]) n3).trans (same_new (o := HO.tup [.str "choice", .ref a3]) n4)
      have dB : Dat (upd (upd H2 a3 (.tup [v])) a4 (.tup [.str "choice", .ref a3])) (.ref a4) (.tuple [.str "choice", .tuple [deepD i]]) :=
        .tup upd_same (.cons (.str _ (by decide)) (.cons ((Dat.tup upd_same (.cons (dv2.same (same_new n3)) .nil) : Dat (upd H2 a3 (.tup [v])) (.ref a3) (.tuple [deepD i])).same (same_new n4)) .nil))
      generalize upd (upd H2 a3 (.tup [v])) a4 (.tup [.str "choice", .ref a3]) = H4 at S4 dB ⊢
      have dv4 := dv2.same S4
      refine ⟨_, rfl, (by show 3 ≤ sizeLine; decide), fun a5 n5 => ?_⟩
      have S5 := same_new (o := HO.tup [.str "power", .int 1, v]) n5
      have dC : Dat (upd H4 a5 (.tup [.str "power", .int 1, v])) (.ref a5) (.tuple [.str "power", .int 1, deepD i]) :=
        .tup upd_same (.cons (.str _ (by decide)) (.cons (.int _) (.cons (dv4.same S5) .nil)))
      generalize upd H4 a5 (.tup [.str "power", .int 1, v]) = H5 at S5 dC ⊢
      refine ⟨(by show 3 ≤ sizeLine; decide), fun l nl => ?_⟩
      have S6 := same_new (o := HO.lst [.ref a2, .ref a4, .ref a5]) nl
      have el : upd H5 l (.lst [.ref a2, .ref a4, .ref a5]) l = some (.lst [.ref a2, .ref a4, .ref a5]) := upd_same
      generalize upd H5 l (.lst [.ref a2, .ref a4, .ref a5]) = H6 at S6 el ⊢
      obtain ⟨u, hu, du⟩ : ∃ u : V, atI [V.ref a2, .ref a4, .ref a5] (((i + 1 : Nat) : Int) % 3) = some u ∧ Dat H6 u (deepD (i + 1)) := by
        have h3 : (i + 1) % 3 = 0 ∨ (i + 1) % 3 = 1 ∨ (i + 1) % 3 = 2 := by omega
        show ∃ u : V, _ ∧ Dat H6 u ((deepL (deepD i)).getD ((i + 1) % 3) .none)
        have ez : (((i + 1 : Nat) : Int) % 3) = (((i + 1) % 3 : Nat) : Int) := by omega
        rw [ez]
        rcases h3 with e | e | e
        · rw [e]
          exact ⟨_, rfl, ((dA.same S4).same S5).same S6⟩
        · rw [e]
          exact ⟨_, rfl, (dB.same S5).same S6⟩
        · rw [e]
          exact ⟨_, rfl, dC.same S6⟩
      exact ⟨_, rfl, _, _, rfl, rfl, (show (0 : Int) < 3 by decide), l, _, _, _, rfl, rfl, SqL.of el, hu, u, _, rfl, (((S1.trans S2).trans S4).trans S5).trans S6, du⟩
    · rintro σ Hx ⟨v, x2, rfl, S1, dv⟩
      refine ⟨_, rfl, k _ _ (S0.trans S1) ?_⟩
      rw [show n - 1 = ((n : Int) - 1).toNat by omega]
      exact dv
end
end K3
set_option maxRecDepth 100000
set_option maxHeartbeats 4000000
namespace K3
open PySem PySem.Spec PyProof.Rows L2
/-! ### the law's wide spaces -/
abbrev s_wide : Stmt := top 96
def cyc1 : PyData := .tuple [.str "cycle", .int 1]
def tree2 : PyData := .tuple [.str "tree", .int 2]
def sixD : PyData := .tuple [.str "product", .tuple (List.replicate 6 cyc1)]
def wideD (more : Nat) : PyData := .tuple [.str "product", .tuple (List.replicate 5 sixD ++ [.tuple [.str "choice", .tuple (List.replicate more tree2)]])]
theorem dat_rep {H : Hp} {v : V} {d : PyData} (h : Dat H v d) : ∀ n : Nat, DatAll H (List.replicate n [v]).flatten (List.replicate n d)
  | 0 => .nil
  | n + 1 => by
    rw [List.replicate_succ, List.replicate_succ, List.flatten_cons]
    exact .cons h (dat_rep h n)
def spWide : Sp := fun vs H Q _ => ∃ n : Nat, vs = [.int (n : Nat)] ∧ 2 ≤ n ∧ n ≤ 10 ∧ ∀ (v : V) (H' : Hp), Same H H' → Dat H' v (wideD n) → Q v H'
section
variable {P : Program} {w : World} {K : PySem.W.Frag} {mg : Str → Option Value} {base : Heap}
theorem sc_wide : FnScope ["_law_more", "_law_six"] ["_law_more"] (defScope s_wide) := ⟨rfl, rfl, rfl, by decide +kernel, rfl, by decide +kernel, by decide +kernel⟩
theorem okl_wide {f : Addr} {fd : FuncData} (F : Fun K "_law_wide" "_law_wide" s_wide f fd) : FnOk P w K mg base CX0 1 f fd ["_law_more"] spWide := by
  refine F.ok sc_wide (fun vs H Q E h => ?_) (fun cdv A outer s H vs Q E hr h => ?_)
  · obtain ⟨n, rfl, _⟩ := h
    rfl
  · obtain ⟨n, rfl, h1, h10, k⟩ := h
    refine ⟨_, (pss_cons (ps_set (i := 1) sc_wide.nd rfl (Or.inl rfl) (pe_tup (pa_cons pe_str (pa_cons (pe_op op_repT (pe_tup (pa_cons (pe_tup (pa_cons pe_str (pa_cons pe_int pa_nil))) pa_nil)) pe_int) pa_nil))))
      (pss_one (ps_ret (pe_tup (pa_cons pe_str (pa_cons (pe_op op_catT (pe_op op_repT (pe_tup (pa_cons (pv 1) pa_nil)) pe_int) (pe_tup (pa_cons (pe_tup (pa_cons pe_str (pa_cons (pe_op op_repT (pe_tup (pa_cons (pe_tup (pa_cons pe_str (pa_cons pe_int pa_nil))) pa_nil)) (pv 0)) pa_nil))) pa_nil))) pa_nil)))))), ?_⟩
    refine ⟨(by show 2 ≤ sizeLine; decide), fun a0 n0 => ?_⟩
    have S0 := same_new (o := HO.tup [.str "cycle", .int 1]) n0
    have d0 : Dat (upd H a0 (.tup [.str "cycle", .int 1])) (.ref a0) cyc1 := .tup upd_same (.cons (.str _ (by decide)) (.cons (.int _) .nil))
    generalize upd H a0 (.tup [.str "cycle", .int 1]) = H0 at S0 d0 ⊢
    refine ⟨(by show 1 ≤ sizeLine; decide), fun a1 n1 => ?_⟩
    have S1 := same_new (o := HO.tup [V.ref a0]) n1
    have e1 : upd H0 a1 (.tup [.ref a0]) a1 = some (.tup [.ref a0]) := upd_same
    have d1 := d0.same S1
    generalize upd H0 a1 (.tup [.ref a0]) = H1 at S1 e1 d1 ⊢
    refine ⟨a1, 6, [V.ref a0], rfl, rfl, SqT.of e1, by simp, by omega, by omega, by show 1 ≤ 1000; decide, fun a2 n2 => ?_⟩
    have S2 := same_new (o := HO.tup (List.replicate (6 : Int).toNat [V.ref a0]).flatten) n2
    have e2 : upd H1 a2 (.tup (List.replicate (6 : Int).toNat [V.ref a0]).flatten) a2 = some (.tup (List.replicate (6 : Int).toNat [V.ref a0]).flatten) := upd_same
    have x2 := (dat_rep d1 6).same S2
    generalize upd H1 a2 (.tup (List.replicate (6 : Int).toNat [V.ref a0]).flatten) = H2 at S2 e2 x2 ⊢
    have d2 : Dat H2 (.ref a2) (.tuple (List.replicate 6 cyc1)) := .tup e2 x2
    refine ⟨(by show 2 ≤ sizeLine; decide), fun a3 n3 => ?_⟩
    have S3 := same_new (o := HO.tup [.str "product", .ref a2]) n3
    have d3 : Dat (upd H2 a3 (.tup [.str "product", .ref a2])) (.ref a3) sixD := .tup upd_same (.cons (.str _ (by decide)) (.cons (d2.same S3) .nil))
    generalize upd H2 a3 (.tup [.str "product", .ref a2]) = H3 at S3 d3 ⊢
    refine ⟨_, rfl, (by show 1 ≤ sizeLine; decide), fun a4 n4 => ?_⟩
    have S4 := same_new (o := HO.tup [V.ref a3]) n4
    have e4 : upd H3 a4 (.tup [.ref a3]) a4 = some (.tup [.ref a3]) := upd_same
    have d4 := d3.same S4
    generalize upd H3 a4 (.tup [.ref a3]) = H4 at S4 e4 d4 ⊢
    refine ⟨a4, 5, [V.ref a3], rfl, rfl, SqT.of e4, by simp, by omega, by omega, by show 1 ≤ 1000; decide, fun a5 n5 => ?_⟩
    have S5 := same_new (o := HO.tup (List.replicate (5 : Int).toNat [V.ref a3]).flatten) n5
    have e5 : upd H4 a5 (.tup (List.replicate (5 : Int).toNat [V.ref a3]).flatten) a5 = some (.tup (List.replicate (5 : Int).toNat [V.ref a3]).flatten) := upd_same
    have d5 := (dat_rep d4 5).same S5
    generalize upd H4 a5 (.tup (List.replicate (5 : Int).toNat [V.ref a3]).flatten) = H5 at S5 e5 d5 ⊢
    have d5 : DatAll H5 (List.replicate (5 : Int).toNat [V.ref a3]).flatten (List.replicate 5 sixD) := d5
    generalize (List.replicate (5 : Int).toNat [V.ref a3]).flatten = xs at e5 d5
    refine ⟨(by show 2 ≤ sizeLine; decide), fun a6 n6 => ?_⟩
    have S6 := same_new (o := HO.tup [.str "tree", .int 2]) n6
    have d6 : Dat (upd H5 a6 (.tup [.str "tree", .int 2])) (.ref a6) tree2 := .tup upd_same (.cons (.str _ (by decide)) (.cons (.int _) .nil))
    have e56 := S6 _ _ e5
    have d56 := d5.same S6
    generalize upd H5 a6 (.tup [.str "tree", .int 2]) = H6 at S6 d6 e56 d56 ⊢
    refine ⟨(by show 1 ≤ sizeLine; decide), fun a7 n7 => ?_⟩
    have S7 := same_new (o := HO.tup [V.ref a6]) n7
    have e7 : upd H6 a7 (.tup [.ref a6]) a7 = some (.tup [.ref a6]) := upd_same
    have d7 := d6.same S7
    have e57 := S7 _ _ e56
    have d57 := d56.same S7
    generalize upd H6 a7 (.tup [.ref a6]) = H7 at S7 e7 d7 e57 d57 ⊢
    refine ⟨_, rfl, ?_⟩
    refine ⟨a7, (n : Nat), [V.ref a6], rfl, rfl, SqT.of e7, by simp, by omega, by omega, by show 1 ≤ 1000; decide, fun a8 n8 => ?_⟩
    have S8 := same_new (o := HO.tup (List.replicate ((n : Nat) : Int).toNat [V.ref a6]).flatten) n8
    have e8 : upd H7 a8 (.tup (List.replicate ((n : Nat) : Int).toNat [V.ref a6]).flatten) a8 = some (.tup (List.replicate ((n : Nat) : Int).toNat [V.ref a6]).flatten) := upd_same
    have x8 := (dat_rep d7 n).same S8
    generalize upd H7 a8 (.tup (List.replicate ((n : Nat) : Int).toNat [V.ref a6]).flatten) = H8 at S8 e8 x8 ⊢
    have d8 : Dat H8 (.ref a8) (.tuple (List.replicate n tree2)) := .tup e8 x8
    refine ⟨(by show 2 ≤ sizeLine; decide), fun a9 n9 => ?_⟩
    have S9 := same_new (o := HO.tup [.str "choice", .ref a8]) n9
    have d9 : Dat (upd H8 a9 (.tup [.str "choice", .ref a8])) (.ref a9) (.tuple [.str "choice", .tuple (List.replicate n tree2)]) := .tup upd_same (.cons (.str _ (by decide)) (.cons (d8.same S9) .nil))
    have e59 := S9 _ _ (S8 _ _ e57)
    have d59 := (d57.same S8).same S9
    generalize upd H8 a9 (.tup [.str "choice", .ref a8]) = H9 at S9 d9 e59 d59 ⊢
    refine ⟨(by show 1 ≤ sizeLine; decide), fun b0 m0 => ?_⟩
    have T0 := same_new (o := HO.tup [V.ref a9]) m0
    have e0 : upd H9 b0 (.tup [.ref a9]) b0 = some (.tup [.ref a9]) := upd_same
    have g9 := d9.same T0
    have e5a := T0 _ _ e59
    have d5a := d59.same T0
    generalize upd H9 b0 (.tup [.ref a9]) = G0 at T0 e0 g9 e5a d5a ⊢
    have lx : xs.length = 5 := by
      have z := d5.len
      rw [List.length_replicate] at z
      exact z
    have hx : xs ≠ [] := fun z => by
      rw [z] at lx
      cases lx
    have fin : ∀ (b1 : Addr) (G1 : Hp), Same G0 G1 → G1 b1 = some (.tup (xs ++ [.ref a9])) → ∀ b2, G1 b2 = none → Q (.ref b2) (upd G1 b2 (.tup [.str "product", .ref b1])) := fun b1 G1 T1 e1 b2 n2 =>
      k _ _ (((((((((((S0.trans S1).trans S2).trans S3).trans S4).trans S5).trans S6).trans S7).trans S8).trans S9).trans T0).trans (T1.trans (same_new n2))) (.tup upd_same (.cons (.str _ (by decide)) (.cons ((Dat.tup e1 (datAll_append (d5a.same T1) (.cons (g9.same T1) .nil))).same (same_new n2)) .nil)))
    exact ⟨a5, b0, xs, [.ref a9], rfl, rfl, SqT.of e5a, SqT.of e0, hx, (by rw [lx, sizeLine_eq]; show 5 + 1 ≤ _; omega), (fun z => by cases z), fun _ b1 m1 => ⟨(by show 2 ≤ sizeLine; decide), fun b2 n2 => fin b1 _ (same_new m1) upd_same b2 n2⟩⟩
end
end K3
set_option maxRecDepth 100000
set_option maxHeartbeats 4000000
namespace K3
open PySem PySem.Spec PyProof.Rows L2
/-! ### the law's vast space -/
abbrev s_vast : Stmt := top 97
def oneD : PyData := .tuple [.str "subset", .int 100, .int 1]
def vastD : PyData := .tuple [.str "product", .tuple [.tuple [.str "power", .int 3, .tuple [.str "tree", .int 400]], .tuple [.str "power", .int 400, oneD], .tuple [.str "power", .int 46, oneD], .tuple [.str "subset", .int 10, .int 1]]]
def vastN : Nat := 10 * 100 ^ 446 * 400 ^ 1194
theorem vast_le : vastN ≤ 10 ^ 4000 := by decide +kernel
theorem powS (c d i : Nat) : c * d ^ (i + 1) = c * d ^ i * d := by rw [Nat.pow_succ, Nat.mul_assoc]
def spVast : Sp := fun vs H Q _ => vs = [] ∧ ∀ (a : Addr) (v : V) (H' : Hp), Same H H' → H' a = some (.tup [v, .int (vastN : Nat)]) → Dat H' v vastD → Q (.ref a) H'
section
variable {P : Program} {w : World} {K : PySem.W.Frag} {mg : Str → Option Value} {base : Heap}
theorem sc_vast : FnScope ["_law_one", "_law_size", "_law_area", "_law_turn"] [] (defScope s_vast) := ⟨rfl, rfl, rfl, by decide +kernel, rfl, by decide +kernel, by decide +kernel⟩
theorem okl_vast {f : Addr} {fd : FuncData} (F : Fun K "_law_vast" "_law_vast" s_vast f fd) (T : Nm mg) : FnOk P w K mg base CX0 1 f fd [] spVast := by
  refine F.ok sc_vast (fun vs H Q E h => ?_) (fun cdv A outer s H vs Q E hr h => ?_)
  · obtain ⟨rfl, _⟩ := h
    rfl
  · obtain ⟨rfl, k⟩ := h
    refine ⟨_, (pss_cons (ps_asg (pe_tup (pa_cons (pe_tup (pa_cons pe_str (pa_cons pe_int (pa_cons pe_int pa_nil)))) (pa_cons pe_int pa_nil))) (pg_tup rfl (pgs_cons (pg_name (i := 0) sc_vast.nd rfl (Or.inl rfl)) (pgs_cons (pg_name (i := 1) sc_vast.nd rfl (Or.inl rfl)) pgs_nil))))
      (pss_cons (ps_set (i := 2) sc_vast.nd rfl (Or.inl rfl) (pe_tup (pa_cons pe_str (pa_cons (pe_tup (pa_cons (pe_tup (pa_cons pe_str (pa_cons pe_int (pa_cons (pe_tup (pa_cons pe_str (pa_cons pe_int pa_nil))) pa_nil)))) (pa_cons (pe_tup (pa_cons pe_str (pa_cons pe_int (pa_cons (pv 0) pa_nil)))) (pa_cons (pe_tup (pa_cons pe_str (pa_cons pe_int (pa_cons (pv 0) pa_nil)))) (pa_cons (pe_tup (pa_cons pe_str (pa_cons pe_int (pa_cons pe_int pa_nil)))) pa_nil))))) pa_nil))))
      (pss_cons (ps_for PassesOwn.never rfl (pi_range1 rfl T.range (pa_cons pe_int pa_nil)) (pg_name (i := 3) sc_vast.nd rfl (Or.inl rfl))
        (pss_one (ps_set (i := 1) sc_vast.nd rfl (Or.inl rfl) (pe_op op_mulW (pv 1) pe_int))))
      (pss_cons (ps_for PassesOwn.never rfl (pi_range1 rfl T.range (pa_cons pe_int pa_nil)) (pg_name (i := 3) sc_vast.nd rfl (Or.inl rfl))
        (pss_one (ps_set (i := 1) sc_vast.nd rfl (Or.inl rfl) (pe_op op_mulW (pv 1) pe_int))))
      (pss_one (ps_ret (pe_tup (pa_cons (pv 2) (pa_cons (pv 1) pa_nil))))))))), ?_⟩
    refine ⟨(by show 3 ≤ sizeLine; decide), fun a0 n0 => ?_⟩
    have S0 := same_new (o := HO.tup [.str "subset", .int 100, .int 1]) n0
    have d0 : Dat (upd H a0 (.tup [.str "subset", .int 100, .int 1])) (.ref a0) oneD := .tup upd_same (.cons (.str _ (by decide)) (.cons (.int _) (.cons (.int _) .nil)))
    generalize upd H a0 (.tup [.str "subset", .int 100, .int 1]) = H0 at S0 d0 ⊢
    refine ⟨(by show 2 ≤ sizeLine; decide), fun c0 m0 => ?_⟩
    have Sc := same_new (o := HO.tup [.ref a0, .int 10]) m0
    have ec : upd H0 c0 (.tup [.ref a0, .int 10]) c0 = some (.tup [.ref a0, .int 10]) := upd_same
    have d0 := d0.same Sc
    have S0 := S0.trans Sc
    generalize upd H0 c0 (.tup [.ref a0, .int 10]) = H0 at S0 Sc ec d0 ⊢
    refine ⟨c0, _, rfl, SqT.of ec, rfl, _, _, rfl, _, _, rfl, rfl, ?_⟩
    refine ⟨(by show 2 ≤ sizeLine; decide), fun a1 n1 => ?_⟩
    have S1 := same_new (o := HO.tup [.str "tree", .int 400]) n1
    have d1 : Dat (upd H0 a1 (.tup [.str "tree", .int 400])) (.ref a1) (.tuple [.str "tree", .int 400]) := .tup upd_same (.cons (.str _ (by decide)) (.cons (.int _) .nil))
    generalize upd H0 a1 (.tup [.str "tree", .int 400]) = H1 at S1 d1 ⊢
    refine ⟨(by show 3 ≤ sizeLine; decide), fun a2 n2 => ?_⟩
    have S2 := same_new (o := HO.tup [.str "power", .int 3, .ref a1]) n2
    have d2 : Dat (upd H1 a2 (.tup [.str "power", .int 3, .ref a1])) (.ref a2) (.tuple [.str "power", .int 3, .tuple [.str "tree", .int 400]]) := .tup upd_same (.cons (.str _ (by decide)) (.cons (.int _) (.cons (d1.same S2) .nil)))
    generalize upd H1 a2 (.tup [.str "power", .int 3, .ref a1]) = H2 at S2 d2 ⊢
    have o2 := ((d0.same S1).same S2)
    refine ⟨_, rfl, (by show 3 ≤ sizeLine; decide), fun a3 n3 => ?_⟩
    have S3 := same_new (o := HO.tup [.str "power", .int 400, .ref a0]) n3
    have d3 : Dat (upd H2 a3 (.tup [.str "power", .int 400, .ref a0])) (.ref a3) (.tuple [.str "power", .int 400, oneD]) := .tup upd_same (.cons (.str _ (by decide)) (.cons (.int _) (.cons (o2.same S3) .nil)))
    generalize upd H2 a3 (.tup [.str "power", .int 400, .ref a0]) = H3 at S3 d3 ⊢
    refine ⟨_, rfl, (by show 3 ≤ sizeLine; decide), fun a4 n4 => ?_⟩
    have S4 := same_new (o := HO.tup [.str "power", .int 46, .ref a0]) n4
    have d4 : Dat (upd H3 a4 (.tup [.str "power", .int 46, .ref a0])) (.ref a4) (.tuple [.str "power", .int 46, oneD]) := .tup upd_same (.cons (.str _ (by decide)) (.cons (.int _) (.cons ((o2.same S3).same S4) .nil)))
    generalize upd H3 a4 (.tup [.str "power", .int 46, .ref a0]) = H4 at S4 d4 ⊢
    refine ⟨(by show 3 ≤ sizeLine; decide), fun a5 n5 => ?_⟩
    have S5 := same_new (o := HO.tup [.str "subset", .int 10, .int 1]) n5
    have d5 : Dat (upd H4 a5 (.tup [.str "subset", .int 10, .int 1])) (.ref a5) (.tuple [.str "subset", .int 10, .int 1]) := .tup upd_same (.cons (.str _ (by decide)) (.cons (.int _) (.cons (.int _) .nil)))
    generalize upd H4 a5 (.tup [.str "subset", .int 10, .int 1]) = H5 at S5 d5 ⊢
    refine ⟨(by show 4 ≤ sizeLine; decide), fun a6 n6 => ?_⟩
    have S6 := same_new (o := HO.tup [.ref a2, .ref a3, .ref a4, .ref a5]) n6
    have d6 : Dat (upd H5 a6 (.tup [.ref a2, .ref a3, .ref a4, .ref a5])) (.ref a6) (.tuple [.tuple [.str "power", .int 3, .tuple [.str "tree", .int 400]], .tuple [.str "power", .int 400, oneD], .tuple [.str "power", .int 46, oneD], .tuple [.str "subset", .int 10, .int 1]]) :=
      .tup upd_same (.cons ((((d2.same S3).same S4).same S5).same S6) (.cons (((d3.same S4).same S5).same S6) (.cons ((d4.same S5).same S6) (.cons (d5.same S6) .nil))))
    generalize upd H5 a6 (.tup [.ref a2, .ref a3, .ref a4, .ref a5]) = H6 at S6 d6 ⊢
    refine ⟨(by show 2 ≤ sizeLine; decide), fun a7 n7 => ?_⟩
    have S7 := same_new (o := HO.tup [.str "product", .ref a6]) n7
    have d7 : Dat (upd H6 a7 (.tup [.str "product", .ref a6])) (.ref a7) vastD := .tup upd_same (.cons (.str _ (by decide)) (.cons (d6.same S7) .nil))
    generalize upd H6 a7 (.tup [.str "product", .ref a6]) = H7 at S7 d7 ⊢
    have SS := ((((((S0.trans S1).trans S2).trans S3).trans S4).trans S5).trans S6).trans S7
    refine ⟨446, rfl, by decide, by decide, for_range (n := 446) (fun i σ Hx => ∃ x3 : Option V, σ = [some (.ref a0), some (.int ((10 * 100 ^ i : Nat) : Int)), some (.ref a7), x3] ∧ Hx = H7) ⟨none, rfl, rfl⟩ ?_ ?_⟩
    · rintro i σ Hx hi ⟨x3, rfl, rfl⟩
      have b0 : 10 * 100 ^ i ≤ 10 ^ 4000 := Nat.le_trans (Nat.mul_le_mul_left _ (Nat.pow_le_pow_right (by decide) (show i ≤ 446 by omega))) (by decide +kernel)
      have b1 : 10 * 100 ^ i < 2 ^ 13300 := Nat.lt_of_le_of_lt b0 bigN_bits
      refine ⟨_, rfl, _, _, rfl, rfl, wide_mul (a := 13300) (b := 200) (by rw [Int.natAbs_natCast]; exact b1) (by decide) (by decide) (by decide) (by decide), some (.int (0 + (i : Int))), ?_, rfl⟩
      show [some (V.ref a0), some (V.int (((10 * 100 ^ i : Nat) : Int) * 100)), some (V.ref a7), some (V.int (0 + (i : Int)))] = _
      rw [powS 10 100 i, Int.natCast_mul (10 * 100 ^ i) 100]
      rfl
    · rintro σ Hx ⟨x3, rfl, rfl⟩
      refine ⟨1194, rfl, by decide, by decide, for_range (n := 1194) (fun i σ Hy => ∃ x3 : Option V, σ = [some (.ref a0), some (.int ((10 * 100 ^ 446 * 400 ^ i : Nat) : Int)), some (.ref a7), x3] ∧ Hy = Hx) ⟨x3, by rw [Nat.pow_zero, Nat.mul_one], rfl⟩ ?_ ?_⟩
      · rintro i σ Hy hi ⟨x3, rfl, rfl⟩
        have b0 : 10 * 100 ^ 446 * 400 ^ i ≤ 10 ^ 4000 := Nat.le_trans (Nat.mul_le_mul_left _ (Nat.pow_le_pow_right (by decide) (show i ≤ 1194 by omega))) vast_le
        have b1 : 10 * 100 ^ 446 * 400 ^ i < 2 ^ 13300 := Nat.lt_of_le_of_lt b0 bigN_bits
        refine ⟨_, rfl, _, _, rfl, rfl, wide_mul (a := 13300) (b := 200) (by rw [Int.natAbs_natCast]; exact b1) (by decide) (by decide) (by decide) (by decide), some (.int (0 + (i : Int))), ?_, rfl⟩
        show [some (V.ref a0), some (V.int (((10 * 100 ^ 446 * 400 ^ i : Nat) : Int) * 400)), some (V.ref a7), some (V.int (0 + (i : Int)))] = _
        rw [powS (10 * 100 ^ 446) 400 i, Int.natCast_mul (10 * 100 ^ 446 * 400 ^ i) 400]
        rfl
      · rintro σ Hy ⟨x3, rfl, rfl⟩
        refine ⟨_, rfl, _, rfl, (by show 2 ≤ sizeLine; decide), fun a8 n8 => ?_⟩
        exact k a8 _ _ (SS.trans (same_new n8)) upd_same (d7.same (same_new n8))
end
end K3
set_option maxRecDepth 100000
set_option maxHeartbeats 4000000
namespace K3
open PySem PySem.Spec PyProof.Rows L2
/-! ### the law's valid spaces and their sizes -/
def cyc (n : Nat) : PyData := .tuple [.str "cycle", .int (n : Nat)]
def zeroD : PyData := .tuple [.str "permutation", .int 1, .tuple [.int 0]]
def treeD : PyData := .tuple [.str "tree", .int 400]
def hundD : PyData := .tuple [.str "power", .int 400, .tuple [.str "subset", .int 100, .int 1]]
def powD (n : Int) (d : PyData) : PyData := .tuple [.str "power", .int n, d]
def proD (l : List PyData) : PyData := .tuple [.str "product", .tuple l]
def choD (l : List PyData) : PyData := .tuple [.str "choice", .tuple l]
def ab (l : List (Str × Int)) : PyData := .tuple (l.map fun c => .tuple [.str c.1, .int c.2])
def belowD : PyData := proD [powD 399 (.tuple [.str "subset", .int 100, .int 1]), .tuple [.str "subset", .int 99, .int 1]]
def largeN : Nat := 100 ^ 400
def validL : List (PyData × Nat) := [(deepD 5, 2), (wideD 3, 3), (powD 400 (proD (List.replicate 5 (cyc 2))), 1),
  (.tuple [.str "decorated", ab [("a", 400)], .tuple [proD (List.replicate 5 (cyc 1))]], 1), (powD 0 treeD, 1),
  (proD [powD 2 treeD, powD 3 treeD, zeroD], 0), (choD [zeroD, zeroD], 0),
  (proD (List.replicate 4 hundD ++ [belowD]), largeN * largeN * largeN * largeN * (largeN / 100) * 99),
  (powD 0 zeroD, 1), (powD 3 zeroD, 0), (choD (List.replicate 6 (cyc 4)), 36),
  (vastD, vastN), (choD [vastD, cyc 4], vastN + 6), (powD 2 (wideD 2), 4),
  (.tuple [.str "decorated", ab [("a", 1), ("b", 2)], .tuple [cyc 3, cyc 4]], 216)]
theorem valid_six : validL.all (fun c => sixN 6 c.1) = true := by decide +kernel
theorem valid_fine : validL.all (fun c => fineB 0 c.1 && (decide (mass c.1 ≤ 96000) && decide (c.1.depth ≤ 60))) = true := by decide +kernel
theorem valid_ok : ∀ c ∈ validL, Ok c.1 := fun c hc => by
  have a := List.all_eq_true.mp valid_fine c hc
  simp only [Bool.and_eq_true, decide_eq_true_eq] at a
  exact fine_ok (s := 0) (by decide) a.1 a.2.1 a.2.2 (List.all_eq_true.mp valid_six c hc)
end K3
set_option maxRecDepth 100000
set_option maxHeartbeats 4000000
namespace K3
open PySem PySem.Spec PyProof.Rows L2
/-! ### their sizes, by the document -/
theorem valid_size : validL.all (fun c => wfT 6 c.1 && ((msN 6 c.1).map (·.2) == some c.2)) = true := by decide +kernel
def invalidL : List PyData := [deepD 6, wideD 4, powD 400 (proD (List.replicate 6 (cyc 2))), powD 4 treeD,
  proD (List.replicate 5 hundD), choD [powD 4 treeD, cyc 1], powD 401 treeD,
  .tuple [.str "decorated", ab [("a", 400)], .tuple [proD (List.replicate 6 (cyc 1))]], powD (-1) (cyc 1),
  proD [], choD [], proD (List.replicate 7 (cyc 1)), choD (List.replicate 7 (cyc 1)),
  .tuple [.str "product", .list [cyc 1]], .tuple [.str "product", cyc 1], proD [cyc 1, .none],
  .tuple [.str "power", .bool true, cyc 1], .tuple [.str "power", .int 2], powD 2 (cyc 0), .tuple [.str "product"], .tuple [.str "choice"],
  choD [vastD, vastD], powD 2 (wideD 3), powD 0 (powD 4 treeD),
  proD [zeroD, powD 4 treeD], .tuple [.str "decorated", ab [("a", 1), ("b", 4)], .tuple [zeroD, powD 4 treeD]],
  .tuple [.str "decorated", ab [("a", 200), ("b", 200)], .tuple [.tuple [.str "subset", .int 69, .int 34], cyc 1]],
  proD [powD 400 (proD (List.replicate 5 (cyc 2))), cyc 1],
  powD 400 (powD 400 (powD 400 (powD 400 treeD))),
  powD 0 (powD 400 hundD), .tuple [.str "product", .tuple [cyc 1], .int 2], .tuple [.str "choice", .str "cycle"],
  .tuple [.str "decorated", ab [("a", 1)], .tuple []], .tuple [.str "decorated", ab [("a", 1)], .tuple [cyc 1, cyc 1]], .tuple [.str "decorated"],
  .tuple [.str "decorated", ab [("a", 0)], .tuple [cyc 1]], .tuple [.str "decorated", .tuple [], .tuple []], .tuple [.str "decorated", ab [("a", 1)]]]
theorem invalid_six : invalidL.all (fun d => sixN 6 d) = true := by decide +kernel
theorem invalid_fine : invalidL.all (fun d => fineB 1 d && (decide (mass d ≤ 96000) && decide (d.depth ≤ 60))) = true := by decide +kernel
theorem invalid_ok : ∀ d ∈ invalidL, Ok d := fun d hd => by
  have a := List.all_eq_true.mp invalid_fine d hd
  simp only [Bool.and_eq_true, decide_eq_true_eq] at a
  exact fine_ok (s := 1) (by decide) a.1 a.2.1 a.2.2 (List.all_eq_true.mp invalid_six d hd)
theorem invalid_not : invalidL.all (fun d => !spaceB d) = true := by decide +kernel
theorem valid_yes : validL.all (fun c => spaceB c.1) = true := by decide +kernel
end K3
set_option maxRecDepth 100000
set_option maxHeartbeats 4000000
namespace K3
open PySem PySem.Spec PyProof.Rows L2
/-! ### displays of data: a reading that makes the datum d from variables whose data are known -/
def EnvOk (G : List (Nat × PyData)) (σ : L2.St) (H : Hp) : Prop := ∀ p ∈ G, ∃ v, σ[p.1]? = some (some v) ∧ Dat H v p.2
theorem EnvOk.same {G : List (Nat × PyData)} {σ : L2.St} {H H' : Hp} (E : EnvOk G σ H) (S : Same H H') : EnvOk G σ H' := fun p hp => by
  obtain ⟨v, a, b⟩ := E p hp
  exact ⟨v, a, b.same S⟩
def Mk (G : List (Nat × PyData)) (t : TE) (d : PyData) : Prop := ∀ (σ : L2.St) (H : Hp) (Q : VK), EnvOk G σ H → (∀ (v : V) (H' : Hp), Same H H' → Dat H' v d → Q v H') → t σ H Q
def Mks (G : List (Nat × PyData)) (t : TA) (ds : List PyData) : Prop := ∀ (σ : L2.St) (H : Hp) (Q : List V → Hp → Prop), EnvOk G σ H → (∀ (vs : List V) (H' : Hp), Same H H' → DatAll H' vs ds → Q vs H') → t σ H Q
theorem mk_str {G : List (Nat × PyData)} {x : Str} (h : x.length ≤ 1000) : Mk G (tC (.str x)) (.str x) := fun _ H Q _ q => q _ H (Same.refl _) (.str x h)
theorem mk_int {G : List (Nat × PyData)} {i : Int} : Mk G (tC (.int i)) (.int i) := fun _ H Q _ q => q _ H (Same.refl _) (.int i)
theorem mk_bl {G : List (Nat × PyData)} {b : Bool} : Mk G (tC (.bl b)) (.bool b) := fun _ H Q _ q => q _ H (Same.refl _) (.bl b)
theorem mk_non {G : List (Nat × PyData)} : Mk G (tC .non) .none := fun _ H Q _ q => q _ H (Same.refl _) .non
theorem mk_var {G : List (Nat × PyData)} {i : Nat} {d : PyData} (h : (i, d) ∈ G) : Mk G (tVar i) d := fun σ H Q E q => by
  obtain ⟨v, a, b⟩ := E _ h
  exact ⟨v, a, q v H (Same.refl _) b⟩
theorem mks_nil {G : List (Nat × PyData)} : Mks G tNil [] := fun _ H Q _ q => q [] H (Same.refl _) .nil
theorem mks_cons {G : List (Nat × PyData)} {t : TE} {u : TA} {d : PyData} {ds : List PyData} (h : Mk G t d) (hs : Mks G u ds) : Mks G (tCons t u) (d :: ds) := fun σ H Q E q =>
  h σ H _ E fun v H1 S1 d1 => hs σ H1 _ (E.same S1) fun vs H2 S2 d2 => q _ H2 (S1.trans S2) (.cons (d1.same S2) d2)
theorem mk_tup {G : List (Nat × PyData)} {u : TA} {ds : List PyData} (hs : Mks G u ds) (hl : ds.length ≤ 1000) : Mk G (tTup u) (.tuple ds) := fun σ H Q E q =>
  hs σ H _ E fun vs H1 S1 d1 => ⟨by rw [d1.len, sizeLine_eq]; omega, fun p np => q _ _ (S1.trans (same_new np)) (.tup upd_same (d1.same (same_new np)))⟩
theorem mk_lst {G : List (Nat × PyData)} {u : TA} {ds : List PyData} (hs : Mks G u ds) (hl : ds.length ≤ 1000) : Mk G (tLst u) (.list ds) := fun σ H Q E q =>
  hs σ H _ E fun vs H1 S1 d1 => ⟨by rw [d1.len, sizeLine_eq]; omega, fun p np => q _ _ (S1.trans (same_new np)) (.lst upd_same (d1.same (same_new np)))⟩
theorem mk_rep {G : List (Nat × PyData)} {K : PySem.W.Frag} {t : TE} {d : PyData} {n : Nat} (h : Mk G t d) (h2 : 2 ≤ n) (h10 : n ≤ 10) : Mk G (tOp (rRepT K) (tTup (tCons t tNil)) (tC (.int (n : Nat)))) (.tuple (List.replicate n d)) := fun σ H Q E q =>
  h σ H _ E fun v H1 S1 d1 => ⟨by show 1 ≤ sizeLine; decide, fun l nl => by
    have S2 := same_new (o := HO.tup [v]) nl
    refine ⟨l, (n : Nat), [v], rfl, rfl, SqT.of upd_same, by simp, by omega, by omega, by show 1 ≤ 1000; decide, fun p np => ?_⟩
    exact q _ _ ((S1.trans S2).trans (same_new np)) (.tup upd_same ((dat_rep (d1.same S2) n).same (same_new np)))⟩
end K3
set_option maxRecDepth 100000
set_option maxHeartbeats 4000000
namespace K3
open PySem PySem.Spec PyProof.Rows L2
/-! ### more displays; a list of data that grows -/
theorem mk_neg {G : List (Nat × PyData)} {i : Int} : Mk G (tUn (rU fun i => .int (-i)) (tC (.int i))) (.int (-i)) := fun _ H Q _ q => ⟨i, rfl, q _ H (Same.refl _) (.int (-i))⟩
theorem dat_isInt {H : Hp} {v : V} {i : Int} (h : Dat H v (.int i)) : v = .int i := by
  cases h
  rfl
theorem mk_op {G : List (Nat × PyData)} {t u : TE} {i j k : Int} {C : Int → Int → Prop} {g : Int → Int → V} (h : Mk G t (.int i)) (h2 : Mk G u (.int j)) (hc : C i j) (e : g i j = .int k) : Mk G (tOp (rI C g) t u) (.int k) := fun σ H Q E q =>
  h σ H _ E fun v H1 S1 d1 => h2 σ H1 _ (E.same S1) fun w H2 S2 d2 => ⟨i, j, dat_isInt d1, dat_isInt d2, hc, by rw [e]; exact q _ H2 (S1.trans S2) (.int k)⟩
theorem mk_op0 {G : List (Nat × PyData)} {t u : TE} {i j k : Int} {g : Int → Int → V} (h : Mk G t (.int i)) (h2 : Mk G u (.int j)) (e : g i j = .int k) : Mk G (tOp (rI0 g) t u) (.int k) := fun σ H Q E q =>
  h σ H _ E fun v H1 S1 d1 => h2 σ H1 _ (E.same S1) fun w H2 S2 d2 => ⟨i, j, dat_isInt d1, dat_isInt d2, by rw [e]; exact q _ H2 (S1.trans S2) (.int k)⟩
theorem mk_repI {G : List (Nat × PyData)} {K : PySem.W.Frag} {t : TE} {d : PyData} {i : Int} {n : Nat} (e : i = (n : Int)) (h : Mk G t d) (h2 : 2 ≤ n) (h10 : n ≤ 10) : Mk G (tOp (rRepT K) (tTup (tCons t tNil)) (tC (.int i))) (.tuple (List.replicate n d)) := by
  subst e
  exact mk_rep h h2 h10
theorem dat_tup {H : Hp} {v : V} {ds : List PyData} (h : Dat H v (.tuple ds)) : ∃ (a : Addr) (xs : List V), v = .ref a ∧ H a = some (.tup xs) ∧ DatAll H xs ds := by
  cases h with
  | tup ha hx => exact ⟨_, _, rfl, ha, hx⟩
theorem mk_catT {G : List (Nat × PyData)} {K : PySem.W.Frag} {t u : TE} {l1 l2 : List PyData} (h : Mk G t (.tuple l1)) (h2 : Mk G u (.tuple l2)) (n1 : l1 ≠ []) (n2 : l2 ≠ []) (hl : l1.length + l2.length ≤ 1000) : Mk G (tOp (rCatT K) t u) (.tuple (l1 ++ l2)) := fun σ H Q E q =>
  h σ H _ E fun v H1 S1 d1 => h2 σ H1 _ (E.same S1) fun w H2 S2 d2 => by
    obtain ⟨a, xs, rfl, ha, hx⟩ := dat_tup (d1.same S2)
    obtain ⟨b, ys, rfl, hb, hy⟩ := dat_tup d2
    have lx := hx.len
    have ly := hy.len
    refine ⟨a, b, xs, ys, rfl, rfl, SqT.of ha, SqT.of hb, fun z => ?_, by rw [lx, ly, sizeLine_eq]; omega, fun z => ?_, fun _ p np => q _ _ ((S1.trans S2).trans (same_new np)) (.tup upd_same (datAll_append (hx.same (same_new np)) (hy.same (same_new np))))⟩
    · rw [z] at lx
      exact n1 (List.length_eq_zero_iff.mp lx.symm)
    · rw [z] at ly
      exact absurd (List.length_eq_zero_iff.mp ly.symm) n2
theorem mk_deep {G : List (Nat × PyData)} {i : Int} (n : Nat) (e : i = (n : Int)) (h1 : 1 ≤ n) (h10 : n ≤ 10) : Mk G (tCall spDeep [] E0 (tCons (tC (.int i)) tNil)) (deepD (n - 1)) := by
  subst e
  exact fun σ H Q E q => ⟨n, rfl, h1, h10, fun v H' S d => q v H' S d⟩
theorem mk_wide {G : List (Nat × PyData)} {i : Int} (n : Nat) (e : i = (n : Int)) (h1 : 2 ≤ n) (h10 : n ≤ 10) : Mk G (tCall spWide [] E0 (tCons (tC (.int i)) tNil)) (wideD n) := by
  subst e
  exact fun σ H Q E q => ⟨n, rfl, h1, h10, fun v H' S d => q v H' S d⟩
theorem mk_vast {G : List (Nat × PyData)} {K : PySem.W.Frag} : Mk G (tOp (rIxT K) (tCall spVast [] E0 tNil) (tC (.int 0))) vastD := fun σ H Q E q => ⟨rfl, fun a v H' S ha d =>
  ⟨a, _, 0, v, rfl, rfl, SqT.of ha, rfl, q v H' S d⟩⟩
theorem dat_two {H : Hp} {vs : List V} {d e : PyData} (h : DatAll H vs [d, e]) : ∃ v w : V, vs = [v, w] ∧ Dat H v d ∧ Dat H w e := by
  cases h with
  | cons a h =>
    cases h with
    | cons b h =>
      cases h
      exact ⟨_, _, rfl, a, b⟩
theorem use_tup {G : List (Nat × PyData)} {σ : L2.St} {H : Hp} {Q : VK} {u : TA} {ds : List PyData} (M : Mks G u ds) (hl : ds.length ≤ 1000) (E : EnvOk G σ H) (k : ∀ (vs : List V) (H1 : Hp) (p : Addr), Same H H1 → DatAll H1 vs ds → H1 p = none → Q (.ref p) (upd H1 p (.tup vs))) : tTup u σ H Q :=
  M σ H _ E fun vs H1 S1 dd => ⟨by rw [dd.len, sizeLine_eq]; omega, fun p np => k vs H1 p S1 dd np⟩
theorem use_par {G : List (Nat × PyData)} {σ : L2.St} {H : Hp} {D : Ends} {u : TA} {d e : PyData} {i j : Nat} (M : Mks G u [d, e]) (E : EnvOk G σ H) (k : ∀ (v w : V) (H1 : Hp), Same H H1 → Dat H1 v d → Dat H1 w e → D.nx ((σ.set i (some v)).set j (some w)) H1) : tPar i j u D σ H :=
  M σ H _ E fun vs H1 S1 dd => by
    obtain ⟨v, w, rfl, a, b⟩ := dat_two dd
    exact ⟨v, w, rfl, k v w H1 S1 a b⟩
theorem use_call {G : List (Nat × PyData)} {σ : L2.St} {H : Hp} {Q : VK} {t : TE} {d : PyData} {sp : Sp} {E0 : XK} (M : Mk G t d) (E : EnvOk G σ H) (k : ∀ (v : V) (H1 : Hp), Same H H1 → Dat H1 v d → sp [v] H1 Q E0) : tCall sp [] E0 (tCons t tNil) σ H Q :=
  M σ H _ E fun v H1 S1 dd => k v H1 S1 dd
mutual
/-- no list within -/
def noL : PyData → Bool
  | .list _ => false
  | .tuple l => noLs l
  | _ => true
def noLs : List PyData → Bool
  | [] => true
  | d :: ds => noL d && noLs ds
end
mutual
theorem dat_noL {H : Hp} {L : Addr} {ys : List V} (hL : H L = some (.lst ys)) : ∀ {v : V} {d : PyData}, noL d = true → Dat H v d → Dat (noR L H) v d
  | _, _, _, .non => .non
  | _, _, _, .bl b => .bl b
  | _, _, _, .int i => .int i
  | _, _, _, .str x h => .str x h
  | _, _, h, .lst (a := a) ha hx => by
    rw [noL] at h
    cases h
  | _, _, h, .tup (a := a) ha hx => by
    rw [noL] at h
    refine .tup (noR_at ha fun e => ?_) (dat_noLs hL h hx)
    rw [e, hL] at ha
    cases ha
  | _, _, _, .d0 (a := a) ha => by
    refine .d0 (noR_at ha fun e => ?_)
    rw [e, hL] at ha
    cases ha
theorem dat_noLs {H : Hp} {L : Addr} {ys : List V} (hL : H L = some (.lst ys)) : ∀ {vs : List V} {ds : List PyData}, noLs ds = true → DatAll H vs ds → DatAll (noR L H) vs ds
  | _, _, _, .nil => .nil
  | _, _, h, .cons t u => by
    rw [noLs, Bool.and_eq_true] at h
    exact .cons (dat_noL hL h.1 t) (dat_noLs hL h.2 u)
end
/-- the variable i holds a list of data, which no value holds -/
def ST (Hi : Hp) (G : List (Nat × PyData)) (i : Nat) (ds : List PyData) (σ : L2.St) (H : Hp) : Prop :=
  ∃ (L : Addr) (zs : List V) (H0 : Hp), σ[i]? = some (some (.ref L)) ∧ H L = some (.lst zs) ∧ H0 L = none ∧ Same Hi H0 ∧ Same H0 H ∧ DatAll H0 zs ds ∧ EnvOk G σ H0
theorem ST.env {Hi : Hp} {G : List (Nat × PyData)} {i : Nat} {ds : List PyData} {σ : L2.St} {H : Hp} (S : ST Hi G i ds σ H) : EnvOk G σ H := by
  obtain ⟨L, zs, H0, h1, h2, h3, h4, h5, h6, h7⟩ := S
  exact h7.same h5
theorem EnvOk.set {G : List (Nat × PyData)} {σ : L2.St} {H : Hp} {i : Nat} {v : V} (E : EnvOk G σ H) (hn : ∀ p ∈ G, p.1 ≠ i) : EnvOk G (σ.set i (some v)) H := fun p hp => by
  obtain ⟨u, a, b⟩ := E p hp
  exact ⟨u, by rw [List.getElem?_set_ne (fun z => hn p hp z.symm)]; exact a, b⟩
theorem EnvOk.put {G : List (Nat × PyData)} {σ : L2.St} {H : Hp} {i : Nat} {v : V} {d : PyData} (E : EnvOk G σ H) (hn : ∀ p ∈ G, p.1 ≠ i) (hi : i < σ.length) (h : Dat H v d) : EnvOk ((i, d) :: G) (σ.set i (some v)) H := fun p hp => by
  rcases List.mem_cons.mp hp with rfl | hp
  · exact ⟨v, List.getElem?_set_self hi, h⟩
  · exact E.set hn p hp
theorem at_len {σ : L2.St} {i : Nat} {x : Option V} (h : σ[i]? = some x) : i < σ.length := (List.getElem?_eq_some_iff.mp h).1
/-- found = [..] -/
theorem st_new {G : List (Nat × PyData)} {Hi : Hp} {i : Nat} {ds : List PyData} {σ : L2.St} {H : Hp} {u : TA} {Q : VK} (E : EnvOk G σ H) (S : Same Hi H) (M : Mks G u ds) (hl : ds.length ≤ 1000) (hn : ∀ p ∈ G, p.1 ≠ i) (hi : i < σ.length)
    (k : ∀ (p : Addr) (H' : Hp), ST Hi G i ds (σ.set i (some (.ref p))) H' → Q (.ref p) H') : tLst u σ H Q :=
  M σ H _ E fun vs H1 S1 d1 => ⟨by rw [d1.len, sizeLine_eq]; omega, fun p np => k p _ ⟨p, vs, H1, List.getElem?_set_self hi, upd_same, np, S.trans S1, same_new np, d1, (E.same S1).set hn⟩⟩
/-- found = found + [..] -/
theorem st_cat {G : List (Nat × PyData)} {Hi : Hp} {i : Nat} {ds es : List PyData} {σ : L2.St} {H : Hp} {u : TA} {Q : VK} (S : ST Hi G i ds σ H) (M : Mks G u es) (hl : ds.length + es.length ≤ 1000) (hn : ∀ p ∈ G, p.1 ≠ i)
    (k : ∀ (p : Addr) (H' : Hp), ST Hi G i (ds ++ es) (σ.set i (some (.ref p))) H' → Q (.ref p) H') : tOp rCat (tVar i) (tLst u) σ H Q := by
  obtain ⟨L, zs, H0, h1, h2, h3, h4, h5, h6, h7⟩ := S
  refine ⟨_, h1, M σ H _ (h7.same h5) fun vs H1 S1 d1 => ⟨by rw [d1.len, sizeLine_eq]; omega, fun l nl => ?_⟩⟩
  have Sl := same_new (o := HO.lst vs) nl
  have T := (h5.trans S1).trans Sl
  have lz := h6.len
  have lv := d1.len
  refine ⟨L, l, zs, vs, rfl, rfl, Sl _ _ (S1 _ _ h2), upd_same, by rw [lz, lv, sizeLine_eq]; omega, fun p np => ?_⟩
  exact k p _ ⟨p, zs ++ vs, _, List.getElem?_set_self (at_len h1), upd_same, np, h4.trans T, same_new np, datAll_append (h6.same T) (d1.same Sl), (h7.same T).set hn⟩
theorem noR_same {L : Addr} {H0 H : Hp} (n : H0 L = none) (S : Same H0 H) : Same H0 (noR L H) := fun b o e => noR_at (S b o e) fun z => by
  rw [z, n] at e
  cases e
theorem noR_to {L : Addr} {H : Hp} {o : HO} : Same (noR L H) (upd H L o) := fun b x e => by
  unfold noR at e
  by_cases c : b = L
  · rw [if_pos c] at e
    cases e
  · rw [if_neg c] at e
    rw [upd_ne c]
    exact e
/-- found.append(..) -/
theorem st_app {K : PySem.W.Frag} {G : List (Nat × PyData)} {Hi : Hp} {i : Nat} {ds : List PyData} {d : PyData} {σ : L2.St} {H : Hp} {t : TE} {Q : VK} (S : ST Hi G i ds σ H) (M : Mk G t d) (hf : noL d = true) (hl : ds.length ≤ 1000)
    (k : ∀ H' : Hp, ST Hi G i (ds ++ [d]) σ H' → Q .non H') : tBM K "list" rAppend (tVar i) (tCons t tNil) σ H Q := by
  obtain ⟨L, zs, H0, h1, h2, h3, h4, h5, h6, h7⟩ := S
  refine ⟨_, h1, .inl ⟨rfl, _, SqL.of h2⟩, M σ H _ (h7.same h5) fun v H1 S1 d1 => ?_⟩
  have lz := h6.len
  have hL := S1 _ _ h2
  have T := noR_same h3 (h5.trans S1)
  refine ⟨L, zs, v, rfl, rfl, hL, by rw [lz, sizeLine_eq]; omega, k _ ⟨L, zs ++ [v], noR L H1, h1, upd_same, if_pos rfl, h4.trans T, noR_to, datAll_append (h6.same T) (.cons (dat_noL hL hf d1) .nil), h7.same T⟩⟩
/-- another variable is stored -/
theorem st_set {G : List (Nat × PyData)} {Hi : Hp} {i j : Nat} {ds : List PyData} {d : PyData} {σ : L2.St} {H : Hp} {v : V} (S : ST Hi G i ds σ H) {H1 : Hp} (S1 : Same H H1) (d1 : Dat H1 v d) (hf : noL d = true) (hn : ∀ p ∈ G, p.1 ≠ j) (hij : j ≠ i) (hj : j < σ.length) :
    ST Hi ((j, d) :: G) i ds (σ.set j (some v)) H1 := by
  obtain ⟨L, zs, H0, h1, h2, h3, h4, h5, h6, h7⟩ := S
  have hL := S1 _ _ h2
  have T := noR_same h3 (h5.trans S1)
  exact ⟨L, zs, noR L H1, by rw [List.getElem?_set_ne hij]; exact h1, hL, if_pos rfl, h4.trans T, noR_sub, h6.same T, (h7.same T).put hn hj (dat_noL hL hf d1)⟩
theorem ST.out {Hi : Hp} {G : List (Nat × PyData)} {i : Nat} {ds : List PyData} {σ : L2.St} {H : Hp} (S : ST Hi G i ds σ H) : ∃ (L : Addr) (zs : List V), σ[i]? = some (some (.ref L)) ∧ H L = some (.lst zs) ∧ Same Hi H ∧ DatAll H zs ds := by
  obtain ⟨L, zs, H0, h1, h2, h3, h4, h5, h6, h7⟩ := S
  exact ⟨L, zs, h1, h2, h4.trans h5, h6.same h5⟩
/-! statements -/
section
variable {G : List (Nat × PyData)} {Hi : Hp} {i : Nat} {ds es : List PyData} {σ : L2.St} {H : Hp} {u : TA} {D : Ends} {R : TS}
theorem sq_tup {g : TG} (M : Mks G u ds) (hl : ds.length ≤ 1000) (E : EnvOk G σ H) (k : ∀ (vs : List V) (H1 : Hp) (p : Addr), Same H H1 → DatAll H1 vs ds → H1 p = none → g (.ref p) σ (upd H1 p (.tup vs)) (R D)) : tSeq (tAsg (tTup u) g) R D σ H := use_tup (Q := fun v H1 => g v σ H1 (R D)) M hl E k
theorem sq_new (E : EnvOk G σ H) (S : Same Hi H) (M : Mks G u ds) (hl : ds.length ≤ 1000) (hn : ∀ p ∈ G, p.1 ≠ i) (hi : i < σ.length)
    (k : ∀ (p : Addr) (H' : Hp), ST Hi G i ds (σ.set i (some (.ref p))) H' → R D (σ.set i (some (.ref p))) H') : tSeq (tAsg (tLst u) (gName i)) R D σ H := st_new (Q := fun v H1 => R D (σ.set i (some v)) H1) E S M hl hn hi k
theorem sq_cat (S : ST Hi G i ds σ H) (M : Mks G u es) (hl : ds.length + es.length ≤ 1000) (hn : ∀ p ∈ G, p.1 ≠ i)
    (k : ∀ (p : Addr) (H' : Hp), ST Hi G i (ds ++ es) (σ.set i (some (.ref p))) H' → R D (σ.set i (some (.ref p))) H') : tSeq (tAsg (tOp rCat (tVar i) (tLst u)) (gName i)) R D σ H := st_cat (Q := fun v H1 => R D (σ.set i (some v)) H1) S M hl hn k
theorem rt_cat (S : ST Hi G i ds σ H) (M : Mks G u es) (hl : ds.length + es.length ≤ 1000) (hn : ∀ p ∈ G, p.1 ≠ i)
    (k : ∀ (p : Addr) (H' : Hp), ST Hi G i (ds ++ es) (σ.set i (some (.ref p))) H' → D.rt (.ref p) H') : tRet (tOp rCat (tVar i) (tLst u)) D σ H := st_cat (Q := D.rt) S M hl hn k
theorem sq_app {K : PySem.W.Frag} {d : PyData} {t : TE} (S : ST Hi G i ds σ H) (M : Mk G t d) (hf : noL d = true) (hl : ds.length ≤ 1000)
    (k : ∀ H' : Hp, ST Hi G i (ds ++ [d]) σ H' → R D σ H') : tSeq (tDrop (tBM K "list" rAppend (tVar i) (tCons t tNil))) R D σ H := st_app (Q := fun _ H1 => R D σ H1) S M hf hl k
theorem sq_par {d e : PyData} {i j : Nat} (M : Mks G u [d, e]) (E : EnvOk G σ H) (k : ∀ (v w : V) (H1 : Hp), Same H H1 → Dat H1 v d → Dat H1 w e → R D ((σ.set i (some v)).set j (some w)) H1) : tSeq (tPar i j u) R D σ H := use_par (D := { D with nx := R D }) M E k
end
end K3
set_option maxRecDepth 100000
set_option maxHeartbeats 8000000
namespace K3
open PySem PySem.Spec PyProof.Rows L2
/-! ### the law's invalid spaces -/
abbrev s_invalid : Stmt := top 99
def spInvalid : Sp := fun vs H Q _ => vs = [] ∧ ∀ (a : Addr) (H' : Hp) (xs : List V), Same H H' → H' a = some (.lst xs) → DatAll H' xs invalidL → Q (.ref a) H'
section
variable {P : Program} {w : World} {K : PySem.W.Frag} {mg : Str → Option Value} {base : Heap}
theorem sc_invalid : FnScope ["_law_tree", "_law_hundred", "_law_found", "_law_vast_here", "_law_five", "_law_zero", "_law_far"] [] (defScope s_invalid) := ⟨rfl, rfl, rfl, by decide +kernel, rfl, by decide +kernel, by decide +kernel⟩
theorem okl_invalid {f fD fW fV : Addr} {fd fdD fdW fdV : FuncData} (F : Fun K "_law_invalid" "_law_invalid" s_invalid f fd) (T : Nm mg) (D_deep : DefOk K mg "_law_deep" s_deep ["_law_depth"] fD fdD) (D_wide : DefOk K mg "_law_wide" s_wide ["_law_more"] fW fdW) (D_vast : DefOk K mg "_law_vast" s_vast [] fV fdV) : FnOk P w K mg base CX0 2 f fd [] spInvalid := by
  have G_deep : FnOk P w K mg base CX0 1 fD fdD ["_law_depth"] spDeep := okl_deep D_deep.F T
  have G_wide : FnOk P w K mg base CX0 1 fW fdW ["_law_more"] spWide := okl_wide D_wide.F
  have G_vast : FnOk P w K mg base CX0 1 fV fdV [] spVast := okl_vast D_vast.F T
  refine F.ok sc_invalid (fun vs H Q E h => ?_) (fun cdv A outer s H vs Q E hr h => ?_)
  · obtain ⟨rfl, _⟩ := h
    rfl
  · obtain ⟨rfl, k⟩ := h
    refine ⟨_, (pss_cons (ps_asg (pe_tup (pa_cons (pe_tup (pa_cons pe_str (pa_cons pe_int pa_nil))) (pa_cons (pe_tup (pa_cons pe_str (pa_cons pe_int (pa_cons (pe_tup (pa_cons pe_str (pa_cons pe_int (pa_cons pe_int pa_nil)))) pa_nil)))) pa_nil))) (pg_tup rfl (pgs_cons (pg_name (i := 0) sc_invalid.nd rfl (Or.inl rfl)) (pgs_cons (pg_name (i := 1) sc_invalid.nd rfl (Or.inl rfl)) pgs_nil))))
      (pss_cons (ps_set (i := 2) sc_invalid.nd rfl (Or.inl rfl) (pe_lst (pa_cons (pe_call G_deep hr rfl D_deep.g D_deep.F.kp D_deep.b .nil pass0 (pa_cons pe_int pa_nil)) (pa_cons (pe_call G_wide hr rfl D_wide.g D_wide.F.kp D_wide.b .nil pass0 (pa_cons pe_int pa_nil)) (pa_cons (pe_tup (pa_cons pe_str (pa_cons pe_int (pa_cons (pe_tup (pa_cons pe_str (pa_cons (pe_op op_repT (pe_tup (pa_cons (pe_tup (pa_cons pe_str (pa_cons pe_int pa_nil))) pa_nil)) pe_int) pa_nil))) pa_nil)))) (pa_cons (pe_tup (pa_cons pe_str (pa_cons pe_int (pa_cons (pv 0) pa_nil)))) pa_nil))))))
      (pss_cons (ps_set (i := 2) sc_invalid.nd rfl (Or.inl rfl) (pe_op op_cat (pv 2) (pe_lst (pa_cons (pe_tup (pa_cons pe_str (pa_cons (pe_op op_repT (pe_tup (pa_cons (pv 1) pa_nil)) pe_int) pa_nil))) (pa_cons (pe_tup (pa_cons pe_str (pa_cons (pe_tup (pa_cons (pe_tup (pa_cons pe_str (pa_cons pe_int (pa_cons (pv 0) pa_nil)))) (pa_cons (pe_tup (pa_cons pe_str (pa_cons pe_int pa_nil))) pa_nil))) pa_nil))) (pa_cons (pe_tup (pa_cons pe_str (pa_cons pe_int (pa_cons (pv 0) pa_nil)))) pa_nil))))))
      (pss_cons (ps_set (i := 2) sc_invalid.nd rfl (Or.inl rfl) (pe_op op_cat (pv 2) (pe_lst (pa_cons (pe_tup (pa_cons pe_str (pa_cons (pe_tup (pa_cons (pe_tup (pa_cons pe_str (pa_cons pe_int pa_nil))) pa_nil)) (pa_cons (pe_tup (pa_cons (pe_tup (pa_cons pe_str (pa_cons (pe_op op_repT (pe_tup (pa_cons (pe_tup (pa_cons pe_str (pa_cons pe_int pa_nil))) pa_nil)) pe_int) pa_nil))) pa_nil)) pa_nil)))) (pa_cons (pe_tup (pa_cons pe_str (pa_cons (pe_un un_neg pe_int) (pa_cons (pe_tup (pa_cons pe_str (pa_cons pe_int pa_nil))) pa_nil)))) pa_nil)))))
      (pss_cons (ps_set (i := 2) sc_invalid.nd rfl (Or.inl rfl) (pe_op op_cat (pv 2) (pe_lst (pa_cons (pe_tup (pa_cons pe_str (pa_cons (pe_tup pa_nil) pa_nil))) (pa_cons (pe_tup (pa_cons pe_str (pa_cons (pe_tup pa_nil) pa_nil))) (pa_cons (pe_tup (pa_cons pe_str (pa_cons (pe_op op_repT (pe_tup (pa_cons (pe_tup (pa_cons pe_str (pa_cons pe_int pa_nil))) pa_nil)) pe_int) pa_nil))) (pa_cons (pe_tup (pa_cons pe_str (pa_cons (pe_op op_repT (pe_tup (pa_cons (pe_tup (pa_cons pe_str (pa_cons pe_int pa_nil))) pa_nil)) pe_int) pa_nil))) pa_nil)))))))
      (pss_cons (ps_set (i := 2) sc_invalid.nd rfl (Or.inl rfl) (pe_op op_cat (pv 2) (pe_lst (pa_cons (pe_tup (pa_cons pe_str (pa_cons (pe_lst (pa_cons (pe_tup (pa_cons pe_str (pa_cons pe_int pa_nil))) pa_nil)) pa_nil))) (pa_cons (pe_tup (pa_cons pe_str (pa_cons (pe_tup (pa_cons pe_str (pa_cons pe_int pa_nil))) pa_nil))) (pa_cons (pe_tup (pa_cons pe_str (pa_cons (pe_tup (pa_cons (pe_tup (pa_cons pe_str (pa_cons pe_int pa_nil))) (pa_cons pe_non pa_nil))) pa_nil))) pa_nil))))))
      (pss_cons (ps_set (i := 2) sc_invalid.nd rfl (Or.inl rfl) (pe_op op_cat (pv 2) (pe_lst (pa_cons (pe_tup (pa_cons pe_str (pa_cons pe_bl (pa_cons (pe_tup (pa_cons pe_str (pa_cons pe_int pa_nil))) pa_nil)))) (pa_cons (pe_tup (pa_cons pe_str (pa_cons pe_int pa_nil))) (pa_cons (pe_tup (pa_cons pe_str (pa_cons pe_int (pa_cons (pe_tup (pa_cons pe_str (pa_cons pe_int pa_nil))) pa_nil)))) (pa_cons (pe_tup (pa_cons pe_str pa_nil)) (pa_cons (pe_tup (pa_cons pe_str pa_nil)) pa_nil))))))))
      (pss_cons (ps_par (i := 3) (j := 4) rfl sc_invalid.nd rfl rfl (by decide) rfl rfl (pa_cons (pe_ix ix_tup (pe_call0 G_vast hr rfl D_vast.g D_vast.F.kp D_vast.b .nil pass0) pe_int (fun _ _ => rfl)) (pa_cons (pe_tup (pa_cons pe_str (pa_cons (pe_op op_repT (pe_tup (pa_cons (pe_tup (pa_cons pe_str (pa_cons pe_int pa_nil))) pa_nil)) pe_int) pa_nil))) pa_nil)) (by rfl))
      (pss_cons (ps_set (i := 2) sc_invalid.nd rfl (Or.inl rfl) (pe_op op_cat (pv 2) (pe_lst (pa_cons (pe_tup (pa_cons pe_str (pa_cons (pe_tup (pa_cons (pv 3) (pa_cons (pv 3) pa_nil))) pa_nil))) (pa_cons (pe_tup (pa_cons pe_str (pa_cons pe_int (pa_cons (pe_call G_wide hr rfl D_wide.g D_wide.F.kp D_wide.b .nil pass0 (pa_cons pe_int pa_nil)) pa_nil)))) (pa_cons (pe_tup (pa_cons pe_str (pa_cons pe_int (pa_cons (pe_tup (pa_cons pe_str (pa_cons pe_int (pa_cons (pv 0) pa_nil)))) pa_nil)))) pa_nil))))))
      (pss_cons (ps_par (i := 5) (j := 6) rfl sc_invalid.nd rfl rfl (by decide) rfl rfl (pa_cons (pe_tup (pa_cons pe_str (pa_cons pe_int (pa_cons (pe_tup (pa_cons pe_int pa_nil)) pa_nil)))) (pa_cons (pe_tup (pa_cons pe_str (pa_cons pe_int (pa_cons (pv 0) pa_nil)))) pa_nil)) (by rfl))
      (pss_cons (ps_set (i := 2) sc_invalid.nd rfl (Or.inl rfl) (pe_op op_cat (pv 2) (pe_lst (pa_cons (pe_tup (pa_cons pe_str (pa_cons (pe_tup (pa_cons (pv 5) (pa_cons (pv 6) pa_nil))) pa_nil))) (pa_cons (pe_tup (pa_cons pe_str (pa_cons (pe_tup (pa_cons (pe_tup (pa_cons pe_str (pa_cons pe_int pa_nil))) (pa_cons (pe_tup (pa_cons pe_str (pa_cons pe_int pa_nil))) pa_nil))) (pa_cons (pe_tup (pa_cons (pv 5) (pa_cons (pv 6) pa_nil))) pa_nil)))) pa_nil)))))
      (pss_cons (ps_expr (pe_bm PySem.F.plainAttrs_list PySem.F.slot_list_append PySem.F.type_list_append mt_append (pv 2) (pa_cons (pe_tup (pa_cons pe_str (pa_cons (pe_tup (pa_cons (pe_tup (pa_cons pe_str (pa_cons pe_int pa_nil))) (pa_cons (pe_tup (pa_cons pe_str (pa_cons pe_int pa_nil))) pa_nil))) (pa_cons (pe_tup (pa_cons (pe_tup (pa_cons pe_str (pa_cons pe_int (pa_cons pe_int pa_nil)))) (pa_cons (pe_tup (pa_cons pe_str (pa_cons pe_int pa_nil))) pa_nil))) pa_nil)))) pa_nil)))
      (pss_cons (ps_expr (pe_bm PySem.F.plainAttrs_list PySem.F.slot_list_append PySem.F.type_list_append mt_append (pv 2) (pa_cons (pe_tup (pa_cons pe_str (pa_cons (pe_tup (pa_cons (pe_tup (pa_cons pe_str (pa_cons pe_int (pa_cons (pv 4) pa_nil)))) (pa_cons (pe_tup (pa_cons pe_str (pa_cons pe_int pa_nil))) pa_nil))) pa_nil))) pa_nil)))
      (pss_cons (ps_expr (pe_bm PySem.F.plainAttrs_list PySem.F.slot_list_append PySem.F.type_list_append mt_append (pv 2) (pa_cons (pe_tup (pa_cons pe_str (pa_cons pe_int (pa_cons (pe_tup (pa_cons pe_str (pa_cons pe_int (pa_cons (pe_tup (pa_cons pe_str (pa_cons pe_int (pa_cons (pe_tup (pa_cons pe_str (pa_cons pe_int (pa_cons (pv 0) pa_nil)))) pa_nil)))) pa_nil)))) pa_nil)))) pa_nil)))
      (pss_cons (ps_set (i := 2) sc_invalid.nd rfl (Or.inl rfl) (pe_op op_cat (pv 2) (pe_lst (pa_cons (pe_tup (pa_cons pe_str (pa_cons pe_int (pa_cons (pe_tup (pa_cons pe_str (pa_cons pe_int (pa_cons (pv 1) pa_nil)))) pa_nil)))) (pa_cons (pe_tup (pa_cons pe_str (pa_cons (pe_tup (pa_cons (pe_tup (pa_cons pe_str (pa_cons pe_int pa_nil))) pa_nil)) (pa_cons pe_int pa_nil)))) (pa_cons (pe_tup (pa_cons pe_str (pa_cons pe_str pa_nil))) pa_nil))))))
      (pss_cons (ps_set (i := 2) sc_invalid.nd rfl (Or.inl rfl) (pe_op op_cat (pv 2) (pe_lst (pa_cons (pe_tup (pa_cons pe_str (pa_cons (pe_tup (pa_cons (pe_tup (pa_cons pe_str (pa_cons pe_int pa_nil))) pa_nil)) (pa_cons (pe_tup pa_nil) pa_nil)))) (pa_cons (pe_tup (pa_cons pe_str (pa_cons (pe_tup (pa_cons (pe_tup (pa_cons pe_str (pa_cons pe_int pa_nil))) pa_nil)) (pa_cons (pe_op op_repT (pe_tup (pa_cons (pe_tup (pa_cons pe_str (pa_cons pe_int pa_nil))) pa_nil)) pe_int) pa_nil)))) (pa_cons (pe_tup (pa_cons pe_str pa_nil)) pa_nil))))))
      (pss_one (ps_ret (pe_op op_cat (pv 2) (pe_lst (pa_cons (pe_tup (pa_cons pe_str (pa_cons (pe_tup (pa_cons (pe_tup (pa_cons pe_str (pa_cons pe_int pa_nil))) pa_nil)) (pa_cons (pe_tup (pa_cons (pe_tup (pa_cons pe_str (pa_cons pe_int pa_nil))) pa_nil)) pa_nil)))) (pa_cons (pe_tup (pa_cons pe_str (pa_cons (pe_tup pa_nil) (pa_cons (pe_tup pa_nil) pa_nil)))) (pa_cons (pe_tup (pa_cons pe_str (pa_cons (pe_tup (pa_cons (pe_tup (pa_cons pe_str (pa_cons pe_int pa_nil))) pa_nil)) pa_nil))) pa_nil))))))))))))))))))))))), ?_⟩
    refine sq_tup (ds := [treeD, hundD]) (mks_cons (mk_tup (mks_cons (mk_str (by decide)) (mks_cons mk_int mks_nil)) (by decide)) (mks_cons (mk_tup (mks_cons (mk_str (by decide)) (mks_cons mk_int (mks_cons (mk_tup (mks_cons (mk_str (by decide)) (mks_cons mk_int (mks_cons mk_int mks_nil))) (by decide)) mks_nil))) (by decide)) mks_nil)) (by decide) (fun p hp => absurd hp List.not_mem_nil) fun vs H1 c0 S1 dd m0 => ?_
    obtain ⟨v0, v1, rfl, e0, e1⟩ := dat_two dd
    refine ⟨c0, _, rfl, SqT.of upd_same, rfl, _, _, rfl, _, _, rfl, rfl, ?_⟩
    have Sc := same_new (o := HO.tup [v0, v1]) m0
    have E1 : EnvOk [(1, hundD), (0, treeD)] [some v0, some v1, none, none, none, none, none] (upd H1 c0 (.tup [v0, v1])) := fun p hp => by
      rcases List.mem_cons.mp hp with rfl | hp
      · exact ⟨v1, rfl, e1.same Sc⟩
      rcases List.mem_cons.mp hp with rfl | hp
      · exact ⟨v0, rfl, e0.same Sc⟩
      cases hp
    have S1 := S1.trans Sc
    generalize upd H1 c0 (.tup [v0, v1]) = H1 at S1 E1 ⊢
    refine sq_new E1 S1 (mks_cons (mk_deep 7 rfl (by decide) (by decide)) (mks_cons (mk_wide 4 rfl (by decide) (by decide)) (mks_cons (mk_tup (mks_cons (mk_str (by decide)) (mks_cons mk_int (mks_cons (mk_tup (mks_cons (mk_str (by decide)) (mks_cons (mk_repI (n := 6) rfl (mk_tup (mks_cons (mk_str (by decide)) (mks_cons mk_int mks_nil)) (by decide)) (by decide) (by decide)) mks_nil)) (by decide)) mks_nil))) (by decide)) (mks_cons (mk_tup (mks_cons (mk_str (by decide)) (mks_cons mk_int (mks_cons (mk_var (.tail _ (.head _))) mks_nil))) (by decide)) mks_nil)))) (by decide) (by decide +kernel) (Nat.le_of_ble_eq_true (by rfl)) fun p2 H2 S2 => ?_
    refine sq_cat S2 (mks_cons (mk_tup (mks_cons (mk_str (by decide)) (mks_cons (mk_repI (n := 5) rfl (mk_var (.head _)) (by decide) (by decide)) mks_nil)) (by decide)) (mks_cons (mk_tup (mks_cons (mk_str (by decide)) (mks_cons (mk_tup (mks_cons (mk_tup (mks_cons (mk_str (by decide)) (mks_cons mk_int (mks_cons (mk_var (.tail _ (.head _))) mks_nil))) (by decide)) (mks_cons (mk_tup (mks_cons (mk_str (by decide)) (mks_cons mk_int mks_nil)) (by decide)) mks_nil)) (by decide)) mks_nil)) (by decide)) (mks_cons (mk_tup (mks_cons (mk_str (by decide)) (mks_cons mk_int (mks_cons (mk_var (.tail _ (.head _))) mks_nil))) (by decide)) mks_nil))) (by decide +kernel) (by decide +kernel) fun p3 H3 S3 => ?_
    clear S2
    refine sq_cat S3 (mks_cons (mk_tup (mks_cons (mk_str (by decide)) (mks_cons (mk_tup (mks_cons (mk_tup (mks_cons (mk_str (by decide)) (mks_cons mk_int mks_nil)) (by decide)) mks_nil) (by decide)) (mks_cons (mk_tup (mks_cons (mk_tup (mks_cons (mk_str (by decide)) (mks_cons (mk_repI (n := 6) rfl (mk_tup (mks_cons (mk_str (by decide)) (mks_cons mk_int mks_nil)) (by decide)) (by decide) (by decide)) mks_nil)) (by decide)) mks_nil) (by decide)) mks_nil))) (by decide)) (mks_cons (mk_tup (mks_cons (mk_str (by decide)) (mks_cons mk_neg (mks_cons (mk_tup (mks_cons (mk_str (by decide)) (mks_cons mk_int mks_nil)) (by decide)) mks_nil))) (by decide)) mks_nil)) (by decide +kernel) (by decide +kernel) fun p4 H4 S4 => ?_
    clear S3
    refine sq_cat S4 (mks_cons (mk_tup (mks_cons (mk_str (by decide)) (mks_cons (mk_tup mks_nil (by decide)) mks_nil)) (by decide)) (mks_cons (mk_tup (mks_cons (mk_str (by decide)) (mks_cons (mk_tup mks_nil (by decide)) mks_nil)) (by decide)) (mks_cons (mk_tup (mks_cons (mk_str (by decide)) (mks_cons (mk_repI (n := 7) rfl (mk_tup (mks_cons (mk_str (by decide)) (mks_cons mk_int mks_nil)) (by decide)) (by decide) (by decide)) mks_nil)) (by decide)) (mks_cons (mk_tup (mks_cons (mk_str (by decide)) (mks_cons (mk_repI (n := 7) rfl (mk_tup (mks_cons (mk_str (by decide)) (mks_cons mk_int mks_nil)) (by decide)) (by decide) (by decide)) mks_nil)) (by decide)) mks_nil)))) (by decide +kernel) (by decide +kernel) fun p5 H5 S5 => ?_
    clear S4
    refine sq_cat S5 (mks_cons (mk_tup (mks_cons (mk_str (by decide)) (mks_cons (mk_lst (mks_cons (mk_tup (mks_cons (mk_str (by decide)) (mks_cons mk_int mks_nil)) (by decide)) mks_nil) (by decide)) mks_nil)) (by decide)) (mks_cons (mk_tup (mks_cons (mk_str (by decide)) (mks_cons (mk_tup (mks_cons (mk_str (by decide)) (mks_cons mk_int mks_nil)) (by decide)) mks_nil)) (by decide)) (mks_cons (mk_tup (mks_cons (mk_str (by decide)) (mks_cons (mk_tup (mks_cons (mk_tup (mks_cons (mk_str (by decide)) (mks_cons mk_int mks_nil)) (by decide)) (mks_cons mk_non mks_nil)) (by decide)) mks_nil)) (by decide)) mks_nil))) (by decide +kernel) (by decide +kernel) fun p6 H6 S6 => ?_
    clear S5
    refine sq_cat S6 (mks_cons (mk_tup (mks_cons (mk_str (by decide)) (mks_cons mk_bl (mks_cons (mk_tup (mks_cons (mk_str (by decide)) (mks_cons mk_int mks_nil)) (by decide)) mks_nil))) (by decide)) (mks_cons (mk_tup (mks_cons (mk_str (by decide)) (mks_cons mk_int mks_nil)) (by decide)) (mks_cons (mk_tup (mks_cons (mk_str (by decide)) (mks_cons mk_int (mks_cons (mk_tup (mks_cons (mk_str (by decide)) (mks_cons mk_int mks_nil)) (by decide)) mks_nil))) (by decide)) (mks_cons (mk_tup (mks_cons (mk_str (by decide)) mks_nil) (by decide)) (mks_cons (mk_tup (mks_cons (mk_str (by decide)) mks_nil) (by decide)) mks_nil))))) (by decide +kernel) (by decide +kernel) fun p7 H7 S7 => ?_
    clear S6
    refine sq_par (G := [(1, hundD), (0, treeD)]) (d := vastD) (e := (proD (List.replicate 5 (cyc 2)))) (mks_cons mk_vast (mks_cons (mk_tup (mks_cons (mk_str (by decide)) (mks_cons (mk_repI (n := 5) rfl (mk_tup (mks_cons (mk_str (by decide)) (mks_cons mk_int mks_nil)) (by decide)) (by decide) (by decide)) mks_nil)) (by decide)) mks_nil)) S7.env fun v0 v1 H8 T8 e0 e1 => ?_
    have S8 := st_set (st_set S7 (j := 3) T8 e0 (by decide +kernel) (by decide +kernel) (by decide) (Nat.le_of_ble_eq_true (by rfl))) (j := 4) (Same.refl _) e1 (by decide +kernel) (by decide +kernel) (by decide) (Nat.le_of_ble_eq_true (by rfl))
    clear e0 e1 T8
    refine sq_cat S8 (mks_cons (mk_tup (mks_cons (mk_str (by decide)) (mks_cons (mk_tup (mks_cons (mk_var (.tail _ (.head _))) (mks_cons (mk_var (.tail _ (.head _))) mks_nil)) (by decide)) mks_nil)) (by decide)) (mks_cons (mk_tup (mks_cons (mk_str (by decide)) (mks_cons mk_int (mks_cons (mk_wide 3 rfl (by decide) (by decide)) mks_nil))) (by decide)) (mks_cons (mk_tup (mks_cons (mk_str (by decide)) (mks_cons mk_int (mks_cons (mk_tup (mks_cons (mk_str (by decide)) (mks_cons mk_int (mks_cons (mk_var (.tail _ (.tail _ (.tail _ (.head _))))) mks_nil))) (by decide)) mks_nil))) (by decide)) mks_nil))) (by decide +kernel) (by decide +kernel) fun p9 H9 S9 => ?_
    clear S8
    refine sq_par (G := [(4, (proD (List.replicate 5 (cyc 2)))), (3, vastD), (1, hundD), (0, treeD)]) (d := zeroD) (e := (powD 4 treeD)) (mks_cons (mk_tup (mks_cons (mk_str (by decide)) (mks_cons mk_int (mks_cons (mk_tup (mks_cons mk_int mks_nil) (by decide)) mks_nil))) (by decide)) (mks_cons (mk_tup (mks_cons (mk_str (by decide)) (mks_cons mk_int (mks_cons (mk_var (.tail _ (.tail _ (.tail _ (.head _))))) mks_nil))) (by decide)) mks_nil)) S9.env fun v0 v1 H10 T10 e0 e1 => ?_
    have S10 := st_set (st_set S9 (j := 5) T10 e0 (by decide +kernel) (by decide +kernel) (by decide) (Nat.le_of_ble_eq_true (by rfl))) (j := 6) (Same.refl _) e1 (by decide +kernel) (by decide +kernel) (by decide) (Nat.le_of_ble_eq_true (by rfl))
    clear e0 e1 T10
    refine sq_cat S10 (mks_cons (mk_tup (mks_cons (mk_str (by decide)) (mks_cons (mk_tup (mks_cons (mk_var (.tail _ (.head _))) (mks_cons (mk_var (.head _)) mks_nil)) (by decide)) mks_nil)) (by decide)) (mks_cons (mk_tup (mks_cons (mk_str (by decide)) (mks_cons (mk_tup (mks_cons (mk_tup (mks_cons (mk_str (by decide)) (mks_cons mk_int mks_nil)) (by decide)) (mks_cons (mk_tup (mks_cons (mk_str (by decide)) (mks_cons mk_int mks_nil)) (by decide)) mks_nil)) (by decide)) (mks_cons (mk_tup (mks_cons (mk_var (.tail _ (.head _))) (mks_cons (mk_var (.head _)) mks_nil)) (by decide)) mks_nil))) (by decide)) mks_nil)) (by decide +kernel) (by decide +kernel) fun p11 H11 S11 => ?_
    clear S10
    refine sq_app S11 (mk_tup (mks_cons (mk_str (by decide)) (mks_cons (mk_tup (mks_cons (mk_tup (mks_cons (mk_str (by decide)) (mks_cons mk_int mks_nil)) (by decide)) (mks_cons (mk_tup (mks_cons (mk_str (by decide)) (mks_cons mk_int mks_nil)) (by decide)) mks_nil)) (by decide)) (mks_cons (mk_tup (mks_cons (mk_tup (mks_cons (mk_str (by decide)) (mks_cons mk_int (mks_cons mk_int mks_nil))) (by decide)) (mks_cons (mk_tup (mks_cons (mk_str (by decide)) (mks_cons mk_int mks_nil)) (by decide)) mks_nil)) (by decide)) mks_nil))) (by decide)) (by decide +kernel) (by decide +kernel) fun H12 S12 => ?_
    clear S11
    refine sq_app S12 (mk_tup (mks_cons (mk_str (by decide)) (mks_cons (mk_tup (mks_cons (mk_tup (mks_cons (mk_str (by decide)) (mks_cons mk_int (mks_cons (mk_var (.tail _ (.tail _ (.head _)))) mks_nil))) (by decide)) (mks_cons (mk_tup (mks_cons (mk_str (by decide)) (mks_cons mk_int mks_nil)) (by decide)) mks_nil)) (by decide)) mks_nil)) (by decide)) (by decide +kernel) (by decide +kernel) fun H13 S13 => ?_
    clear S12
    refine sq_app S13 (mk_tup (mks_cons (mk_str (by decide)) (mks_cons mk_int (mks_cons (mk_tup (mks_cons (mk_str (by decide)) (mks_cons mk_int (mks_cons (mk_tup (mks_cons (mk_str (by decide)) (mks_cons mk_int (mks_cons (mk_tup (mks_cons (mk_str (by decide)) (mks_cons mk_int (mks_cons (mk_var (.tail _ (.tail _ (.tail _ (.tail _ (.tail _ (.head _))))))) mks_nil))) (by decide)) mks_nil))) (by decide)) mks_nil))) (by decide)) mks_nil))) (by decide)) (by decide +kernel) (by decide +kernel) fun H14 S14 => ?_
    clear S13
    refine sq_cat S14 (mks_cons (mk_tup (mks_cons (mk_str (by decide)) (mks_cons mk_int (mks_cons (mk_tup (mks_cons (mk_str (by decide)) (mks_cons mk_int (mks_cons (mk_var (.tail _ (.tail _ (.tail _ (.tail _ (.head _)))))) mks_nil))) (by decide)) mks_nil))) (by decide)) (mks_cons (mk_tup (mks_cons (mk_str (by decide)) (mks_cons (mk_tup (mks_cons (mk_tup (mks_cons (mk_str (by decide)) (mks_cons mk_int mks_nil)) (by decide)) mks_nil) (by decide)) (mks_cons mk_int mks_nil))) (by decide)) (mks_cons (mk_tup (mks_cons (mk_str (by decide)) (mks_cons (mk_str (by decide)) mks_nil)) (by decide)) mks_nil))) (by decide +kernel) (by decide +kernel) fun p15 H15 S15 => ?_
    clear S14
    refine sq_cat S15 (mks_cons (mk_tup (mks_cons (mk_str (by decide)) (mks_cons (mk_tup (mks_cons (mk_tup (mks_cons (mk_str (by decide)) (mks_cons mk_int mks_nil)) (by decide)) mks_nil) (by decide)) (mks_cons (mk_tup mks_nil (by decide)) mks_nil))) (by decide)) (mks_cons (mk_tup (mks_cons (mk_str (by decide)) (mks_cons (mk_tup (mks_cons (mk_tup (mks_cons (mk_str (by decide)) (mks_cons mk_int mks_nil)) (by decide)) mks_nil) (by decide)) (mks_cons (mk_repI (n := 2) rfl (mk_tup (mks_cons (mk_str (by decide)) (mks_cons mk_int mks_nil)) (by decide)) (by decide) (by decide)) mks_nil))) (by decide)) (mks_cons (mk_tup (mks_cons (mk_str (by decide)) mks_nil) (by decide)) mks_nil))) (by decide +kernel) (by decide +kernel) fun p16 H16 S16 => ?_
    clear S15
    refine rt_cat S16 (mks_cons (mk_tup (mks_cons (mk_str (by decide)) (mks_cons (mk_tup (mks_cons (mk_tup (mks_cons (mk_str (by decide)) (mks_cons mk_int mks_nil)) (by decide)) mks_nil) (by decide)) (mks_cons (mk_tup (mks_cons (mk_tup (mks_cons (mk_str (by decide)) (mks_cons mk_int mks_nil)) (by decide)) mks_nil) (by decide)) mks_nil))) (by decide)) (mks_cons (mk_tup (mks_cons (mk_str (by decide)) (mks_cons (mk_tup mks_nil (by decide)) (mks_cons (mk_tup mks_nil (by decide)) mks_nil))) (by decide)) (mks_cons (mk_tup (mks_cons (mk_str (by decide)) (mks_cons (mk_tup (mks_cons (mk_tup (mks_cons (mk_str (by decide)) (mks_cons mk_int mks_nil)) (by decide)) mks_nil) (by decide)) mks_nil)) (by decide)) mks_nil))) (by decide +kernel) (by decide +kernel) fun p17 H17 S17 => ?_
    obtain ⟨L, zs, h1, h2, h3, h4⟩ := S17.out
    obtain rfl : p17 = L := V.ref.inj (Option.some.inj (Option.some.inj h1))
    exact k _ _ zs h3 h2 h4
end
end K3
set_option maxRecDepth 100000
set_option maxHeartbeats 8000000
namespace K3
open PySem PySem.Spec PyProof.Rows L2
/-! ### the law's valid spaces -/
abbrev s_valid : Stmt := top 98
theorem mk_nat {G : List (Nat × PyData)} {i : Int} {y : Nat} (e : i = (y : Int)) : Mk G (tC (.int i)) (.int ((y : Nat) : Int)) := by
  subst e
  exact mk_int
theorem mk_mul {G : List (Nat × PyData)} {t u : TE} {x y : Nat} (h : Mk G t (.int ((x : Nat) : Int))) (h2 : Mk G u (.int ((y : Nat) : Int))) (hx : x < 2 ^ 14000) (hy : y < 2 ^ 14000) : Mk G (tOp (rI CMulW fun i j => .int (i * j)) t u) (.int ((x * y : Nat) : Int)) :=
  mk_op h h2 (wide_mul (a := 14000) (b := 14000) (by rw [Int.natAbs_natCast]; exact hx) (by rw [Int.natAbs_natCast]; exact hy) (by decide) (by decide) (by decide)) (by rw [Int.natCast_mul])
theorem mk_div {G : List (Nat × PyData)} {t : TE} {x y : Nat} {i : Int} (e : i = (y : Int)) (h : Mk G t (.int ((x : Nat) : Int))) (h1 : 1 ≤ y) (h2 : y < 1000000) : Mk G (tOp (rI CDivN fun i j => .int (i.fdiv j)) t (tC (.int i))) (.int ((x / y : Nat) : Int)) := by
  subst e
  exact mk_op h mk_int ⟨by omega, by rw [Int.natAbs_natCast]; omega⟩ (by rw [Int.ofNat_fdiv])
theorem mk_add {G : List (Nat × PyData)} {t : TE} {x y : Nat} {i : Int} (e : i = (y : Int)) (h : Mk G t (.int ((x : Nat) : Int))) : Mk G (tOp (rI0 fun i j => .int (i + j)) t (tC (.int i))) (.int ((x + y : Nat) : Int)) := by
  subst e
  exact mk_op0 h mk_int (by rw [Int.natCast_add])
theorem dat_three {H : Hp} {vs : List V} {d e f : PyData} (h : DatAll H vs [d, e, f]) : ∃ v w x : V, vs = [v, w, x] ∧ Dat H v d ∧ Dat H w e ∧ Dat H x f := by
  cases h with
  | cons a h =>
    obtain ⟨v, w, rfl, b, c⟩ := dat_two h
    exact ⟨_, _, _, rfl, a, b, c⟩
def belowL : List PyData := [.str "product", .tuple [powD 399 (.tuple [.str "subset", .int 100, .int 1]), .tuple [.str "subset", .int 99, .int 1]]]
def validP : List PyData := validL.map fun c => .tuple [c.1, .int ((c.2 : Nat) : Int)]
def spValid : Sp := fun vs H Q _ => vs = [] ∧ ∀ (a : Addr) (H' : Hp) (xs : List V), Same H H' → H' a = some (.lst xs) → DatAll H' xs validP → Q (.ref a) H'
section
variable {P : Program} {w : World} {K : PySem.W.Frag} {mg : Str → Option Value} {base : Heap}
theorem sc_valid : FnScope ["_law_zero", "_law_tree", "_law_hundred", "_law_large", "_law_turn", "_law_found", "_law_below", "_law_vast_here", "_law_many"] [] (defScope s_valid) := ⟨rfl, rfl, rfl, by decide +kernel, rfl, by decide +kernel, by decide +kernel⟩
theorem okl_valid {f fD fW fV : Addr} {fd fdD fdW fdV : FuncData} (F : Fun K "_law_valid" "_law_valid" s_valid f fd) (T : Nm mg) (D_deep : DefOk K mg "_law_deep" s_deep ["_law_depth"] fD fdD) (D_wide : DefOk K mg "_law_wide" s_wide ["_law_more"] fW fdW) (D_vast : DefOk K mg "_law_vast" s_vast [] fV fdV) : FnOk P w K mg base CX0 2 f fd [] spValid := by
  have G_deep : FnOk P w K mg base CX0 1 fD fdD ["_law_depth"] spDeep := okl_deep D_deep.F T
  have G_wide : FnOk P w K mg base CX0 1 fW fdW ["_law_more"] spWide := okl_wide D_wide.F
  have G_vast : FnOk P w K mg base CX0 1 fV fdV [] spVast := okl_vast D_vast.F T
  refine F.ok sc_valid (fun vs H Q E h => ?_) (fun cdv A outer s H vs Q E hr h => ?_)
  · obtain ⟨rfl, _⟩ := h
    rfl
  · obtain ⟨rfl, k⟩ := h
    refine ⟨_, (pss_cons (ps_asg (pe_tup (pa_cons (pe_tup (pa_cons pe_str (pa_cons pe_int (pa_cons (pe_tup (pa_cons pe_int pa_nil)) pa_nil)))) (pa_cons (pe_tup (pa_cons pe_str (pa_cons pe_int pa_nil))) (pa_cons (pe_tup (pa_cons pe_str (pa_cons pe_int (pa_cons (pe_tup (pa_cons pe_str (pa_cons pe_int (pa_cons pe_int pa_nil)))) pa_nil)))) pa_nil)))) (pg_tup rfl (pgs_cons (pg_name (i := 0) sc_valid.nd rfl (Or.inl rfl)) (pgs_cons (pg_name (i := 1) sc_valid.nd rfl (Or.inl rfl)) (pgs_cons (pg_name (i := 2) sc_valid.nd rfl (Or.inl rfl)) pgs_nil)))))
      (pss_cons (ps_set (i := 3) sc_valid.nd rfl (Or.inl rfl) pe_int)
      (pss_cons (ps_for PassesOwn.never rfl (pi_range1 rfl T.range (pa_cons pe_int pa_nil)) (pg_name (i := 4) sc_valid.nd rfl (Or.inl rfl))
        (pss_one (ps_set (i := 3) sc_valid.nd rfl (Or.inl rfl) (pe_op op_mulW (pv 3) pe_int))))
      (pss_cons (ps_set (i := 5) sc_valid.nd rfl (Or.inl rfl) (pe_lst (pa_cons (pe_tup (pa_cons (pe_call G_deep hr rfl D_deep.g D_deep.F.kp D_deep.b .nil pass0 (pa_cons pe_int pa_nil)) (pa_cons pe_int pa_nil))) (pa_cons (pe_tup (pa_cons (pe_call G_wide hr rfl D_wide.g D_wide.F.kp D_wide.b .nil pass0 (pa_cons pe_int pa_nil)) (pa_cons pe_int pa_nil))) (pa_cons (pe_tup (pa_cons (pe_tup (pa_cons pe_str (pa_cons pe_int (pa_cons (pe_tup (pa_cons pe_str (pa_cons (pe_op op_repT (pe_tup (pa_cons (pe_tup (pa_cons pe_str (pa_cons pe_int pa_nil))) pa_nil)) pe_int) pa_nil))) pa_nil)))) (pa_cons pe_int pa_nil))) pa_nil)))))
      (pss_cons (ps_set (i := 5) sc_valid.nd rfl (Or.inl rfl) (pe_op op_cat (pv 5) (pe_lst (pa_cons (pe_tup (pa_cons (pe_tup (pa_cons pe_str (pa_cons (pe_tup (pa_cons (pe_tup (pa_cons pe_str (pa_cons pe_int pa_nil))) pa_nil)) (pa_cons (pe_tup (pa_cons (pe_tup (pa_cons pe_str (pa_cons (pe_op op_repT (pe_tup (pa_cons (pe_tup (pa_cons pe_str (pa_cons pe_int pa_nil))) pa_nil)) pe_int) pa_nil))) pa_nil)) pa_nil)))) (pa_cons pe_int pa_nil))) (pa_cons (pe_tup (pa_cons (pe_tup (pa_cons pe_str (pa_cons pe_int (pa_cons (pv 1) pa_nil)))) (pa_cons pe_int pa_nil))) pa_nil)))))
      (pss_cons (ps_set (i := 5) sc_valid.nd rfl (Or.inl rfl) (pe_op op_cat (pv 5) (pe_lst (pa_cons (pe_tup (pa_cons (pe_tup (pa_cons pe_str (pa_cons (pe_tup (pa_cons (pe_tup (pa_cons pe_str (pa_cons pe_int (pa_cons (pv 1) pa_nil)))) (pa_cons (pe_tup (pa_cons pe_str (pa_cons pe_int (pa_cons (pv 1) pa_nil)))) (pa_cons (pv 0) pa_nil)))) pa_nil))) (pa_cons pe_int pa_nil))) (pa_cons (pe_tup (pa_cons (pe_tup (pa_cons pe_str (pa_cons (pe_tup (pa_cons (pv 0) (pa_cons (pv 0) pa_nil))) pa_nil))) (pa_cons pe_int pa_nil))) pa_nil)))))
      (pss_cons (ps_set (i := 6) sc_valid.nd rfl (Or.inl rfl) (pe_tup (pa_cons pe_str (pa_cons (pe_tup (pa_cons (pe_tup (pa_cons pe_str (pa_cons pe_int (pa_cons (pe_tup (pa_cons pe_str (pa_cons pe_int (pa_cons pe_int pa_nil)))) pa_nil)))) (pa_cons (pe_tup (pa_cons pe_str (pa_cons pe_int (pa_cons pe_int pa_nil)))) pa_nil))) pa_nil))))
      (pss_cons (ps_expr (pe_bm PySem.F.plainAttrs_list PySem.F.slot_list_append PySem.F.type_list_append mt_append (pv 5) (pa_cons (pe_tup (pa_cons (pe_tup (pa_cons pe_str (pa_cons (pe_op op_catT (pe_op op_repT (pe_tup (pa_cons (pv 2) pa_nil)) pe_int) (pe_tup (pa_cons (pv 6) pa_nil))) pa_nil))) (pa_cons (pe_op op_mulW (pe_op op_mulW (pe_op op_mulW (pe_op op_mulW (pe_op op_mulW (pv 3) (pv 3)) (pv 3)) (pv 3)) (pe_op op_fdivN (pv 3) pe_int)) pe_int) pa_nil))) pa_nil)))
      (pss_cons (ps_set (i := 5) sc_valid.nd rfl (Or.inl rfl) (pe_op op_cat (pv 5) (pe_lst (pa_cons (pe_tup (pa_cons (pe_tup (pa_cons pe_str (pa_cons pe_int (pa_cons (pv 0) pa_nil)))) (pa_cons pe_int pa_nil))) (pa_cons (pe_tup (pa_cons (pe_tup (pa_cons pe_str (pa_cons pe_int (pa_cons (pv 0) pa_nil)))) (pa_cons pe_int pa_nil))) (pa_cons (pe_tup (pa_cons (pe_tup (pa_cons pe_str (pa_cons (pe_op op_repT (pe_tup (pa_cons (pe_tup (pa_cons pe_str (pa_cons pe_int pa_nil))) pa_nil)) pe_int) pa_nil))) (pa_cons pe_int pa_nil))) pa_nil))))))
      (pss_cons (ps_asg (pe_call0 G_vast hr rfl D_vast.g D_vast.F.kp D_vast.b .nil pass0) (pg_tup rfl (pgs_cons (pg_name (i := 7) sc_valid.nd rfl (Or.inl rfl)) (pgs_cons (pg_name (i := 8) sc_valid.nd rfl (Or.inl rfl)) pgs_nil))))
      (pss_cons (ps_set (i := 5) sc_valid.nd rfl (Or.inl rfl) (pe_op op_cat (pv 5) (pe_lst (pa_cons (pe_tup (pa_cons (pv 7) (pa_cons (pv 8) pa_nil))) (pa_cons (pe_tup (pa_cons (pe_tup (pa_cons pe_str (pa_cons (pe_tup (pa_cons (pv 7) (pa_cons (pe_tup (pa_cons pe_str (pa_cons pe_int pa_nil))) pa_nil))) pa_nil))) (pa_cons (pe_op op_add (pv 8) pe_int) pa_nil))) (pa_cons (pe_tup (pa_cons (pe_tup (pa_cons pe_str (pa_cons pe_int (pa_cons (pe_call G_wide hr rfl D_wide.g D_wide.F.kp D_wide.b .nil pass0 (pa_cons pe_int pa_nil)) pa_nil)))) (pa_cons pe_int pa_nil))) pa_nil))))))
      (pss_one (ps_ret (pe_op op_cat (pv 5) (pe_lst (pa_cons (pe_tup (pa_cons (pe_tup (pa_cons pe_str (pa_cons (pe_tup (pa_cons (pe_tup (pa_cons pe_str (pa_cons pe_int pa_nil))) (pa_cons (pe_tup (pa_cons pe_str (pa_cons pe_int pa_nil))) pa_nil))) (pa_cons (pe_tup (pa_cons (pe_tup (pa_cons pe_str (pa_cons pe_int pa_nil))) (pa_cons (pe_tup (pa_cons pe_str (pa_cons pe_int pa_nil))) pa_nil))) pa_nil)))) (pa_cons pe_int pa_nil))) pa_nil)))))))))))))))), ?_⟩
    refine sq_tup (ds := [zeroD, treeD, hundD]) (mks_cons (mk_tup (mks_cons (mk_str (by decide)) (mks_cons mk_int (mks_cons (mk_tup (mks_cons mk_int mks_nil) (by decide)) mks_nil))) (by decide)) (mks_cons (mk_tup (mks_cons (mk_str (by decide)) (mks_cons mk_int mks_nil)) (by decide)) (mks_cons (mk_tup (mks_cons (mk_str (by decide)) (mks_cons mk_int (mks_cons (mk_tup (mks_cons (mk_str (by decide)) (mks_cons mk_int (mks_cons mk_int mks_nil))) (by decide)) mks_nil))) (by decide)) mks_nil))) (by decide) (fun p hp => absurd hp List.not_mem_nil) fun vs H1 c0 S1 dd m0 => ?_
    obtain ⟨v0, v1, v2, rfl, e0, e1, e2⟩ := dat_three dd
    refine ⟨c0, _, rfl, SqT.of upd_same, rfl, _, _, rfl, _, _, rfl, _, _, rfl, rfl, ?_⟩
    have Sc := same_new (o := HO.tup [v0, v1, v2]) m0
    have f0 := e0.same Sc
    have f1 := e1.same Sc
    have f2 := e2.same Sc
    have S1 := S1.trans Sc
    generalize upd H1 c0 (.tup [v0, v1, v2]) = H1 at S1 f0 f1 f2 ⊢
    refine ⟨399, rfl, by decide, by decide, for_range (n := 399) (fun i σ Hx => ∃ x4 : Option V, σ = [some v0, some v1, some v2, some (.int ((100 * 100 ^ i : Nat) : Int)), x4, none, none, none, none] ∧ Hx = H1) ⟨none, rfl, rfl⟩ ?_ ?_⟩
    · rintro i σ Hx hi ⟨x4, rfl, rfl⟩
      have b0 : 100 * 100 ^ i ≤ 10 ^ 4000 := Nat.le_trans (Nat.mul_le_mul_left _ (Nat.pow_le_pow_right (by decide) (show i ≤ 399 by omega))) (by decide +kernel)
      have b1 : 100 * 100 ^ i < 2 ^ 13300 := Nat.lt_of_le_of_lt b0 bigN_bits
      refine ⟨_, rfl, _, _, rfl, rfl, wide_mul (a := 13300) (b := 200) (by rw [Int.natAbs_natCast]; exact b1) (by decide) (by decide) (by decide) (by decide), some (.int (0 + (i : Int))), ?_, rfl⟩
      show [some v0, some v1, some v2, some (V.int (((100 * 100 ^ i : Nat) : Int) * 100)), some (V.int (0 + (i : Int))), none, none, none, none] = _
      rw [powS 100 100 i, Int.natCast_mul (100 * 100 ^ i) 100]
      rfl
    rintro σ Hx ⟨x4, rfl, rfl⟩
    rw [show 100 * 100 ^ 399 = largeN by decide +kernel]
    have E1 : EnvOk [(3, .int ((largeN : Nat) : Int)), (2, hundD), (1, treeD), (0, zeroD)] [some v0, some v1, some v2, some (.int ((largeN : Nat) : Int)), x4, none, none, none, none] Hx := fun p hp => by
      rcases List.mem_cons.mp hp with rfl | hp
      · exact ⟨_, rfl, .int _⟩
      rcases List.mem_cons.mp hp with rfl | hp
      · exact ⟨v2, rfl, f2⟩
      rcases List.mem_cons.mp hp with rfl | hp
      · exact ⟨v1, rfl, f1⟩
      rcases List.mem_cons.mp hp with rfl | hp
      · exact ⟨v0, rfl, f0⟩
      cases hp
    clear f0 f1 f2
    refine sq_new E1 S1 (mks_cons (mk_tup (mks_cons (mk_deep 6 rfl (by decide) (by decide)) (mks_cons mk_int mks_nil)) (by decide)) (mks_cons (mk_tup (mks_cons (mk_wide 3 rfl (by decide) (by decide)) (mks_cons mk_int mks_nil)) (by decide)) (mks_cons (mk_tup (mks_cons (mk_tup (mks_cons (mk_str (by decide)) (mks_cons mk_int (mks_cons (mk_tup (mks_cons (mk_str (by decide)) (mks_cons (mk_repI (n := 5) rfl (mk_tup (mks_cons (mk_str (by decide)) (mks_cons mk_int mks_nil)) (by decide)) (by decide) (by decide)) mks_nil)) (by decide)) mks_nil))) (by decide)) (mks_cons mk_int mks_nil)) (by decide)) mks_nil))) (by decide) (by decide +kernel) (Nat.le_of_ble_eq_true (by rfl)) fun p4 H4 S4 => ?_
    refine sq_cat S4 (mks_cons (mk_tup (mks_cons (mk_tup (mks_cons (mk_str (by decide)) (mks_cons (mk_tup (mks_cons (mk_tup (mks_cons (mk_str (by decide)) (mks_cons mk_int mks_nil)) (by decide)) mks_nil) (by decide)) (mks_cons (mk_tup (mks_cons (mk_tup (mks_cons (mk_str (by decide)) (mks_cons (mk_repI (n := 5) rfl (mk_tup (mks_cons (mk_str (by decide)) (mks_cons mk_int mks_nil)) (by decide)) (by decide) (by decide)) mks_nil)) (by decide)) mks_nil) (by decide)) mks_nil))) (by decide)) (mks_cons mk_int mks_nil)) (by decide)) (mks_cons (mk_tup (mks_cons (mk_tup (mks_cons (mk_str (by decide)) (mks_cons mk_int (mks_cons (mk_var (.tail _ (.tail _ (.head _)))) mks_nil))) (by decide)) (mks_cons mk_int mks_nil)) (by decide)) mks_nil)) (by decide +kernel) (by decide +kernel) fun p5 H5 S5 => ?_
    clear S4
    refine sq_cat S5 (mks_cons (mk_tup (mks_cons (mk_tup (mks_cons (mk_str (by decide)) (mks_cons (mk_tup (mks_cons (mk_tup (mks_cons (mk_str (by decide)) (mks_cons mk_int (mks_cons (mk_var (.tail _ (.tail _ (.head _)))) mks_nil))) (by decide)) (mks_cons (mk_tup (mks_cons (mk_str (by decide)) (mks_cons mk_int (mks_cons (mk_var (.tail _ (.tail _ (.head _)))) mks_nil))) (by decide)) (mks_cons (mk_var (.tail _ (.tail _ (.tail _ (.head _))))) mks_nil))) (by decide)) mks_nil)) (by decide)) (mks_cons mk_int mks_nil)) (by decide)) (mks_cons (mk_tup (mks_cons (mk_tup (mks_cons (mk_str (by decide)) (mks_cons (mk_tup (mks_cons (mk_var (.tail _ (.tail _ (.tail _ (.head _))))) (mks_cons (mk_var (.tail _ (.tail _ (.tail _ (.head _))))) mks_nil)) (by decide)) mks_nil)) (by decide)) (mks_cons mk_int mks_nil)) (by decide)) mks_nil)) (by decide +kernel) (by decide +kernel) fun p6 H6 S6 => ?_
    clear S5
    refine sq_tup (G := [(3, .int ((largeN : Nat) : Int)), (2, hundD), (1, treeD), (0, zeroD)]) (ds := belowL) (mks_cons (mk_str (by decide)) (mks_cons (mk_tup (mks_cons (mk_tup (mks_cons (mk_str (by decide)) (mks_cons mk_int (mks_cons (mk_tup (mks_cons (mk_str (by decide)) (mks_cons mk_int (mks_cons mk_int mks_nil))) (by decide)) mks_nil))) (by decide)) (mks_cons (mk_tup (mks_cons (mk_str (by decide)) (mks_cons mk_int (mks_cons mk_int mks_nil))) (by decide)) mks_nil)) (by decide)) mks_nil)) (by decide) S6.env fun vs H7 c6 T7 dd m6 => ?_
    have e6 : Dat (upd H7 c6 (.tup vs)) (.ref c6) belowD := .tup upd_same (dd.same (same_new m6))
    have T7 := T7.trans (same_new (o := HO.tup vs) m6)
    clear dd
    generalize upd H7 c6 (.tup vs) = H7 at T7 e6 ⊢
    have S7 := st_set S6 (j := 6) T7 e6 (by decide +kernel) (by decide +kernel) (by decide) (Nat.le_of_ble_eq_true (by rfl))
    clear T7 e6
    refine sq_app S7 (mk_tup (mks_cons (mk_tup (mks_cons (mk_str (by decide)) (mks_cons (mk_catT (mk_repI (n := 4) rfl (mk_var (.tail _ (.tail _ (.head _)))) (by decide) (by decide)) (mk_tup (mks_cons (mk_var (.head _)) mks_nil) (by decide)) (by intro z; cases z) (by intro z; cases z) (by decide)) mks_nil)) (by decide)) (mks_cons (mk_mul (mk_mul (mk_mul (mk_mul (mk_mul (mk_var (.tail _ (.head _))) (mk_var (.tail _ (.head _))) (by decide +kernel) (by decide +kernel)) (mk_var (.tail _ (.head _))) (by decide +kernel) (by decide +kernel)) (mk_var (.tail _ (.head _))) (by decide +kernel) (by decide +kernel)) (mk_div (y := 100) rfl (mk_var (.tail _ (.head _))) (by decide) (by decide)) (by decide +kernel) (by decide +kernel)) (mk_nat (y := 99) rfl) (by decide +kernel) (by decide +kernel)) mks_nil)) (by decide)) (by decide +kernel) (by decide +kernel) fun H8 S8 => ?_
    clear S7
    refine sq_cat S8 (mks_cons (mk_tup (mks_cons (mk_tup (mks_cons (mk_str (by decide)) (mks_cons mk_int (mks_cons (mk_var (.tail _ (.tail _ (.tail _ (.tail _ (.head _)))))) mks_nil))) (by decide)) (mks_cons mk_int mks_nil)) (by decide)) (mks_cons (mk_tup (mks_cons (mk_tup (mks_cons (mk_str (by decide)) (mks_cons mk_int (mks_cons (mk_var (.tail _ (.tail _ (.tail _ (.tail _ (.head _)))))) mks_nil))) (by decide)) (mks_cons mk_int mks_nil)) (by decide)) (mks_cons (mk_tup (mks_cons (mk_tup (mks_cons (mk_str (by decide)) (mks_cons (mk_repI (n := 6) rfl (mk_tup (mks_cons (mk_str (by decide)) (mks_cons mk_int mks_nil)) (by decide)) (by decide) (by decide)) mks_nil)) (by decide)) (mks_cons mk_int mks_nil)) (by decide)) mks_nil))) (by decide +kernel) (by decide +kernel) fun p9 H9 S9 => ?_
    clear S8
    refine ⟨rfl, fun av vv H10 T10 ha dv => ⟨av, _, rfl, SqT.of ha, rfl, _, _, rfl, _, _, rfl, rfl, ?_⟩⟩
    have S10 := st_set (st_set S9 (j := 7) T10 dv (by decide +kernel) (by decide +kernel) (by decide) (Nat.le_of_ble_eq_true (by rfl))) (j := 8) (Same.refl _) (.int ((vastN : Nat) : Int)) (by decide +kernel) (by decide +kernel) (by decide) (Nat.le_of_ble_eq_true (by rfl))
    clear T10 ha dv
    refine sq_cat S10 (mks_cons (mk_tup (mks_cons (mk_var (.tail _ (.head _))) (mks_cons (mk_var (.head _)) mks_nil)) (by decide)) (mks_cons (mk_tup (mks_cons (mk_tup (mks_cons (mk_str (by decide)) (mks_cons (mk_tup (mks_cons (mk_var (.tail _ (.head _))) (mks_cons (mk_tup (mks_cons (mk_str (by decide)) (mks_cons mk_int mks_nil)) (by decide)) mks_nil)) (by decide)) mks_nil)) (by decide)) (mks_cons (mk_add (y := 6) rfl (mk_var (.head _))) mks_nil)) (by decide)) (mks_cons (mk_tup (mks_cons (mk_tup (mks_cons (mk_str (by decide)) (mks_cons mk_int (mks_cons (mk_wide 2 rfl (by decide) (by decide)) mks_nil))) (by decide)) (mks_cons mk_int mks_nil)) (by decide)) mks_nil))) (by decide +kernel) (by decide +kernel) fun p11 H11 S11 => ?_
    clear S10
    refine rt_cat S11 (mks_cons (mk_tup (mks_cons (mk_tup (mks_cons (mk_str (by decide)) (mks_cons (mk_tup (mks_cons (mk_tup (mks_cons (mk_str (by decide)) (mks_cons mk_int mks_nil)) (by decide)) (mks_cons (mk_tup (mks_cons (mk_str (by decide)) (mks_cons mk_int mks_nil)) (by decide)) mks_nil)) (by decide)) (mks_cons (mk_tup (mks_cons (mk_tup (mks_cons (mk_str (by decide)) (mks_cons mk_int mks_nil)) (by decide)) (mks_cons (mk_tup (mks_cons (mk_str (by decide)) (mks_cons mk_int mks_nil)) (by decide)) mks_nil)) (by decide)) mks_nil))) (by decide)) (mks_cons mk_int mks_nil)) (by decide)) mks_nil) (by decide +kernel) (by decide +kernel) fun p12 H12 S12 => ?_
    obtain ⟨L, zs, h1, h2, h3, h4⟩ := S12.out
    obtain rfl : p12 = L := V.ref.inj (Option.some.inj (Option.some.inj h1))
    exact k _ _ zs h3 h2 h4
end
end K3
set_option maxRecDepth 100000
set_option maxHeartbeats 8000000
namespace K3
open PySem PySem.Spec PyProof.Rows L2
/-! ### the law -/
abbrev s_law : Stmt := top 102
def spLaw (K : PySem.W.Frag) : Sp := fun vs H Q _ => ∃ (a : Addr) (ns : List Int), vs = [.ref a] ∧ SqL K H a (ns.map V.int) ∧ ns.length ≤ 63 ∧ ∀ H', Q (.bl true) H'
def spAny : Sp := fun vs H Q E => ∃ k : Nat, k ≤ 3 ∧ spSpc k vs H Q E
abbrev NL : List Str := ["_law_script", "_law_deck_here", "_law_area", "_law_size", "_law_turn", "_law_thing"]
theorem pair_at {H : Hp} {xs : List V} (h : DatAll H xs validP) {i : Nat} {x : V} (e : xs[i]? = some x) : ∃ c ∈ validL, ∃ (t : Addr) (v : V), x = .ref t ∧ H t = some (.tup [v, .int ((c.2 : Nat) : Int)]) ∧ Dat H v c.1 := by
  obtain ⟨d, hd, dt⟩ := h.get e
  unfold validP at hd
  rw [List.getElem?_map] at hd
  cases hc : validL[i]? with
  | none =>
    rw [hc] at hd
    cases hd
  | some c =>
    rw [hc] at hd
    obtain rfl := Option.some.inj hd
    obtain ⟨t, ys, rfl, ht, hy⟩ := dat_tup dt
    obtain ⟨v, w, rfl, dv, dw⟩ := dat_two hy
    rw [dat_isInt dw] at ht
    exact ⟨c, List.mem_of_getElem? hc, t, v, rfl, ht, dv⟩
theorem size_at {c : PyData × Nat} (h : c ∈ validL) : wfT 6 c.1 = true ∧ ∃ l, msN 6 c.1 = some (l, c.2) := by
  have z := List.all_eq_true.mp valid_size c h
  rw [Bool.and_eq_true] at z
  refine ⟨z.1, ?_⟩
  have y := z.2
  cases e : msN 6 c.1 with
  | none =>
    rw [e] at y
    cases y
  | some p =>
    obtain ⟨l, s⟩ := p
    rw [e] at y
    have y' : (some s == some c.2) = true := y
    exact ⟨l, by rw [Option.some.inj (eq_of_beq y')]⟩
section
variable {P : Program} {w : World} {K : PySem.W.Frag} {mg : Str → Option Value} {base : Heap}
theorem any_ok {f : Addr} {fd : FuncData} {ps : List Str} (h : ∀ k : Nat, FnOk P w K mg base CX0 (5 + k) f fd ps (spSpc k)) : FnOk P w K mg base CX0 8 f fd ps spAny := by
  have h3 : ∀ k, k ≤ 3 → FnOk P w K mg base CX0 8 f fd ps (spSpc k) := fun k hk => (h k).mono (by omega)
  exact ⟨fun vs H Q E ⟨k, hk, s⟩ => (h3 k hk).len vs H Q E s, fun a1 a2 a3 a4 a5 a6 a7 a8 a9 a10 a11 a12 a13 ⟨k, hk, s⟩ => (h3 k hk).run a1 a2 a3 a4 a5 a6 a7 a8 a9 a10 a11 a12 a13 s⟩
theorem sc_law : FnScope NL ["_law_script"] (defScope s_law) := ⟨rfl, rfl, rfl, by decide +kernel, rfl, by decide +kernel, by decide +kernel⟩
theorem ok_law {f fK fD fS fR fL fV fI fZ : Addr} {fd fdK fdD fdS fdR fdL fdV fdI fdZ : FuncData} (F : Fun K "law" "law" s_law f fd) (T : Nm mg) (Tl : mg "list" = none)
    (D_deck : DefOk K mg "_law_deck" sDeck ["_law_script"] fK fdK) (D_draw : DefOk K mg "_law_draw" sDraw ["_law_deck_here", "_law_bound_here"] fD fdD)
    (D_is_space : DefOk K mg "is_space" s_is_space ["value"] fS fdS) (D_right : DefOk K mg "_law_right" s_right ["_law_thing"] fR fdR)
    (D_space : DefOk K mg "_law_nested_space" s_space ["_law_deck_here", "_law_depth"] fL fdL) (D_valid : DefOk K mg "_law_valid" s_valid [] fV fdV) (D_invalid : DefOk K mg "_law_invalid" s_invalid [] fI fdI) (D_size_of : DefOk K mg "size_of" sSizeOf ["space"] fZ fdZ)
    (G_is_space : FnOk P w K mg base CX0 18 fS fdS ["value"] spSpace) (G_right : FnG P w K mg base 19 fR fdR ["_law_thing"] spRight) (G_size_of : FnOk P w K mg base CX0 17 fZ fdZ ["space"] (spSzOf 6))
    (G_space : FnOk P w K mg base CX0 8 fL fdL ["_law_deck_here", "_law_depth"] spAny) (G_valid : FnOk P w K mg base CX0 2 fV fdV [] spValid) (G_invalid : FnOk P w K mg base CX0 2 fI fdI [] spInvalid) :
    FnG P w K mg base 20 f fd ["_law_script"] (spLaw K) := by
  have G_deck : FnOk P w K mg base CX0 1 fK fdK ["_law_script"] (spDeck K) := ok_deck D_deck.F T Tl
  have G_draw : FnOk P w K mg base CX0 1 fD fdD ["_law_deck_here", "_law_bound_here"] spDraw := ok_draw D_draw.F
  refine F.okG sc_law (fun vs H Q E h => ?_) (fun cdv A outer s H vs Q E hg hr h => ?_)
  · obtain ⟨a, ns, rfl, _⟩ := h
    rfl
  · obtain ⟨a, ns0, rfl, hS, hlen, fin⟩ := h
    have hu0 := hr.units0
    have hr1 : Room 1 _ := hr.mono (by decide)
    have hr2 : Room 2 _ := hr.mono (by decide)
    have hr8 : Room 8 _ := hr.mono (by decide)
    have hr17 : Room 17 _ := hr.mono (by decide)
    have hr18 : Room 18 _ := hr.mono (by decide)
    have hr19 : Room 19 _ := hr
    refine ⟨_, (pss_cons (ps_set (i := 1) sc_law.nd rfl (Or.inl rfl) (pe_call G_deck hr1 rfl D_deck.g D_deck.F.kp D_deck.b .nil pass0 (pa_cons (pv 0) pa_nil)))
      (pss_cons (ps_for PassesOwn.never rfl (pi_list (pe_call0 G_valid hr2 rfl D_valid.g D_valid.F.kp D_valid.b .nil pass0)) (pg_tup rfl (pgs_cons (pg_name (i := 2) sc_law.nd rfl (Or.inl rfl)) (pgs_cons (pg_name (i := 3) sc_law.nd rfl (Or.inl rfl)) pgs_nil)))
        (pss_one (ps_if (PW.pt (pw_or (pt_not (pt_val (pe_callG G_right hg hr19 rfl D_right.g D_right.F.kp D_right.b (pa_cons (pv 2) pa_nil)))) (pw_or1 (pt_cmpR op_ne (pe_call G_size_of hr17 rfl D_size_of.g D_size_of.F.kp D_size_of.b .nil pass0 (pa_cons (pv 2) pa_nil)) (pv 3) (nomark _)))))
          (pss_one (ps_ret pe_bl))
          pss_nil)))
      (pss_cons (ps_if (pt_cmpR (op_nempty hu0) (pe_lc (own := [("_law_thing", 5)]) (g := (gName 5)) (tt := tOr (tTest (tOp rNotB (tCall spSpace [] E0 (tCons (tVar 5) tNil)) (tC (.bl false)))) (tNot (tB (tCall spRight [] E0 (tCons (tVar 5) tNil))))) (te := tVar 5) rfl sc_law.nd (pi_list (pe_call0 G_invalid hr2 rfl D_invalid.g D_invalid.F.kp D_invalid.b .nil pass0)) (blkOk_by (N := NL) (sc := defScope s_law) (by decide +kernel))
          (fun _ _ _ _ _ => (pg_name (i := 5) sc_law.nd rfl (Or.inl rfl))) (fun _ _ _ _ _ => pts_one (PW.pt (pw_or (pt_cmpR op_notBl (pe_call G_is_space hr18 rfl D_is_space.g D_is_space.F.kp D_is_space.b .nil pass0 (pa_cons (pv 5) pa_nil)) pe_bl (nomark _)) (pw_or1 (pt_not (pt_val (pe_callG G_right hg hr19 rfl D_right.g D_right.F.kp D_right.b (pa_cons (pv 5) pa_nil)))))))) (fun _ _ _ _ _ => (pv 5))) (pe_lst pa_nil) (nomark _))
        (pss_one (ps_ret pe_bl))
        pss_nil)
      (pss_cons (ps_for PassesOwn.never rfl (pi_range1 rfl T.range (pa_cons pe_int pa_nil)) (pg_name (i := 4) sc_law.nd rfl (Or.inl rfl))
        (pss_cons (ps_set (i := 2) sc_law.nd rfl (Or.inl rfl) (pe_call G_space hr8 rfl D_space.g D_space.F.kp D_space.b .nil pass0 (pa_cons (pv 1) (pa_cons (pe_op op_add pe_int (pe_call G_draw hr1 rfl D_draw.g D_draw.F.kp D_draw.b .nil pass0 (pa_cons (pv 1) (pa_cons pe_int pa_nil)))) pa_nil))))
        (pss_one (ps_if (PW.pt (pw_or (pt_not (pt_val (pe_callG G_right hg hr19 rfl D_right.g D_right.F.kp D_right.b (pa_cons (pv 2) pa_nil)))) (pw_or (pt_not (pt_val (pe_callG G_right hg hr19 rfl D_right.g D_right.F.kp D_right.b (pa_cons (pe_tup (pa_cons pe_str (pa_cons (pe_tup (pa_cons (pv 2) (pa_cons (pv 2) pa_nil))) pa_nil))) pa_nil)))) (pw_or1 (pt_not (pt_val (pe_callG G_right hg hr19 rfl D_right.g D_right.F.kp D_right.b (pa_cons (pe_tup (pa_cons pe_str (pa_cons pe_int (pa_cons (pv 2) pa_nil)))) pa_nil))))))))
          (pss_one (ps_ret pe_bl))
          pss_nil))))
      (pss_one (ps_ret pe_bl)))))), ?_⟩
    refine ⟨_, rfl, a, ns0, rfl, hS, hlen, fun p q0 ms m H1 s1 np nq D1 => ?_⟩
    have K1 : Dk H1 p q0 0 := ⟨ms, m, 0, D1, by decide⟩
    have m3 : mk 3 = 6180 := rfl
    have c3 : ck 3 = 3014 := rfl
    refine ⟨rfl, fun av H2 xs S2 ha dx => ⟨av, rfl, ⟨_, SqL.of ha⟩, for_list (K := K) (a := av) (xs := xs) (fun i σ Hx => ∃ (x2 x3 : Option V), σ = [some (.ref a), some (.ref p), x2, x3, none, none] ∧ Same H2 Hx) ⟨none, none, rfl, Same.refl _⟩ (fun i σ Hx _ ⟨_, _, _, S⟩ => SqL.of (S _ _ ha)) ?_ ?_⟩⟩
    · rintro i x σ Hx hx ⟨x2, x3, rfl, S⟩
      obtain ⟨c, hc, t, v, rfl, ht, dv⟩ := pair_at dx hx
      obtain ⟨hw, l, hm⟩ := size_at hc
      have dvx := dv.same S
      refine ⟨t, _, rfl, SqT.of (S _ _ ht), rfl, _, _, rfl, _, _, rfl, rfl, ?_⟩
      refine ⟨_, rfl, v, c.1, rfl, dvx, valid_ok c hc, fun H3 S3 => ⟨_, rfl, if_f rfl ?_⟩⟩
      refine ⟨_, rfl, v, c.1, l, c.2, rfl, dvx.same S3, hw, hm, fun H4 S4 => ⟨_, rfl, rfl, _, rfl, if_f (by rw [decide_eq_true rfl]; rfl) ⟨_, _, rfl, (S.trans S3).trans S4⟩⟩⟩
    rintro σ H3 ⟨x2, x3, rfl, S3⟩
    have K3 := (K1.same S2).same S3
    refine ⟨rfl, fun bv H4 ys S4 hb dy => ⟨bv, rfl, ⟨_, SqL.of hb⟩, fun D nD => ?_⟩⟩
    refine lc_list (K := K) (a := bv) (xs := ys) (fun i Hx => Same (upd H4 D (.lst [])) Hx) (Same.refl _) (fun i Hx _ S => SqL.of (S _ _ (same_new nD _ _ hb))) ?_ ?_
    · intro i x Hx hx S
      obtain ⟨d, hd, dt⟩ := dy.get hx
      have hm := List.mem_of_getElem? hd
      have hns : spaceB d = false := by
        have z := List.all_eq_true.mp invalid_not d hm
        cases e : spaceB d with
        | false => rfl
        | true =>
          rw [e] at z
          cases z
      have d2 := (dt.same (same_new nD)).same S
      refine ⟨rfl, _, rfl, x, d, rfl, d2, fun H5 S5 => ⟨_, _, rfl, rfl, _, rfl, if_f (by rw [hns]; rfl) ?_⟩⟩
      exact ⟨_, rfl, x, d, rfl, d2.same S5, invalid_ok d hm, fun H6 S6 => ⟨_, rfl, if_f rfl ((S.trans S5).trans S6)⟩⟩
    · intro H5 S5
      have hD := S5 _ _ (upd_same (H := H4))
      refine ⟨(by show 0 ≤ sizeLine; decide), fun e ne => ⟨D, e, [], rfl, rfl, .inl ⟨same_new ne _ _ hD, upd_same⟩, _, rfl, if_f rfl ?_⟩⟩
      have K6 := (((K3.same S4).same (same_new nD)).same S5).same (same_new (o := HO.lst []) ne)
      generalize upd H5 e (.lst []) = H6 at K6 ⊢
      refine ⟨6, rfl, by decide, by decide, for_range (n := 6) (fun i σ Hx => ∃ (x2 x3 x4 x5 : Option V), σ = [some (.ref a), some (.ref p), x2, x3, x4, x5] ∧ Dk Hx p q0 (3100 * i)) ⟨_, _, _, _, rfl, K6⟩ ?_ ?_⟩
      · rintro i σ Hx hi ⟨x2, x3, x4, x5, rfl, K7⟩
        obtain ⟨ds6, m6, c6, D6, hc6⟩ := K7
        refine ⟨_, rfl, _, rfl, p, q0, ds6, m6, c6, 3, rfl, by decide, by decide, D6, by omega, fun k7 ds7 H7 j0 j1 O7 D7 => ?_⟩
        obtain ⟨k, rfl⟩ := nat_of j0
        have hk3 : 1 + k ≤ 3 := by omega
        have e1 : (1 : Int) + (k : Int) = ((1 + k : Nat) : Int) := by omega
        have ckk : ck (1 + k) ≤ 3014 := by
          rcases (show k = 0 ∨ k = 1 ∨ k = 2 by omega) with rfl | rfl | rfl <;> decide
        have mkk : mk (1 + k) ≤ 6180 := by
          rcases (show k = 0 ∨ k = 1 ∨ k = 2 by omega) with rfl | rfl | rfl <;> decide
        refine ⟨_, _, rfl, rfl, 1 + k, hk3, p, q0, 3100 * i + 1, congrArg (fun z => [V.ref p, V.int z]) e1, hk3, ⟨_, _, _, D7, by omega⟩, by omega, fun v8 d8 H8 O8 K8 h8 s8 F8 => ?_⟩
        have F8' : Fine 0 6180 11 d8 := F8.mono mkk (by omega)
        have f1 := F8'.f
        have f2 := F8'.m
        have f3 := F8'.n
        have t8 := h8.same (hide_sub p q0 H8)
        refine ⟨_, rfl, v8, d8, rfl, t8, F8'.ok (by decide) (by decide) (by decide) (s8 6), fun H9 S9 => ⟨_, rfl, if_f rfl ?_⟩⟩
        have E9 : EnvOk [(2, d8)] [some (.ref a), some (.ref p), some v8, x3, some (.int (0 + (i : Int))), x5] H9 := fun z hz => by
          rcases List.mem_cons.mp hz with rfl | hz
          · exact ⟨v8, rfl, t8.same S9⟩
          cases hz
        have Spr : Six (proD [d8, d8]) := six_of (by rfl) fun e he => by
          have he' : e ∈ [d8, d8] := he
          rcases List.mem_cons.mp he' with rfl | he'
          · exact s8
          rw [List.mem_singleton.mp he']
          exact s8
        have Spw : Six (powD 9 d8) := six_of (by rfl) fun e he => by
          rw [List.mem_singleton.mp (show e ∈ [d8] from he)]
          exact s8
        have Fpr : Fine 0 12400 13 (proD [d8, d8]) := by
          refine (lit_fine (z := "product") (ds := [.tuple [d8, d8]]) (m := 12365) (n := 12) (by decide +kernel) ?_ ?_ ?_).mono (by decide) (by decide)
          · rw [fineAll, fineAll, fineB, fineAll, fineAll, fineAll, f1]
            rfl
          · simp only [mass, massAll]
            omega
          · simp only [PyData.depth, PyData.depthAll]
            omega
        have Fpw : Fine 0 12400 13 (powD 9 d8) := by
          refine (lit_fine (z := "power") (ds := [.int 9, d8]) (m := 6185) (n := 11) (by decide +kernel) ?_ ?_ ?_).mono (by decide) (by decide)
          · rw [fineAll, fineAll, fineAll, f1, fine_i (by decide) (by decide)]
            rfl
          · simp only [mass, massAll]
            omega
          · simp only [PyData.depth, PyData.depthAll]
            omega
        refine use_call (G := [(2, d8)]) (d := proD [d8, d8]) (mk_tup (mks_cons (mk_str (by decide)) (mks_cons (mk_tup (mks_cons (mk_var (.head _)) (mks_cons (mk_var (.head _)) mks_nil)) (by show 2 ≤ 1000; decide)) mks_nil)) (by show 2 ≤ 1000; decide)) E9 fun va Ha Sa da => ?_
        refine ⟨va, _, rfl, da, Fpr.ok (by decide) (by decide) (by decide) (Spr 6), fun Hb Sb => ⟨_, rfl, if_f rfl ?_⟩⟩
        refine use_call (G := [(2, d8)]) (d := powD 9 d8) (mk_tup (mks_cons (mk_str (by decide)) (mks_cons mk_int (mks_cons (mk_var (.head _)) mks_nil))) (by show 3 ≤ 1000; decide)) (E9.same (Sa.trans Sb)) fun vc Hc Sc dc => ?_
        refine ⟨vc, _, rfl, dc, Fpw.ok (by decide) (by decide) (by decide) (Spw 6), fun Hd Sd => ⟨_, rfl, if_f rfl ?_⟩⟩
        exact ⟨_, _, _, _, rfl, (((((K8.same S9).same Sa).same Sb).same Sc).same Sd).mono (by omega)⟩
      · rintro σ Hx ⟨x2, x3, x4, x5, rfl, K7⟩
        exact fin _
end
end K3
set_option maxRecDepth 100000
set_option maxHeartbeats 8000000
namespace K3
open PySem PySem.Spec PyProof.Rows L2
/-! ### sizes, as the table gives them -/
theorem at_size {z : Str} {m : Nat} {p : List PyData → Bool} {sz : List PyData → Int} (hz : ∀ ds, zOf z ds = sz ds) (hb : ∀ ds : List PyData, p ds = true → ∃ n : Nat, sz ds = ((n : Nat) : Int) ∧ ((n : Nat) : Int) < big)
    (H : Hp) (a : Addr) (xs : List V) (ds : List PyData) (Q : VK) (ha : H a = some (.tup xs)) (hx : DatAll H xs ds) (hl : ds.length = m) (hp : p ds = true) (q : ∀ (H' : Hp) (n : Nat), Same H H' → n = (zOf z ds).toNat → n < bigN → Q (.int (n : Nat)) H') : spSize m p sz [.ref a] H Q E0 :=
  ⟨a, xs, ds, rfl, ha, hx, hl, hp, fun H' S => by
    obtain ⟨n, e, hn⟩ := hb ds hp
    rw [e]
    exact q H' n S (by rw [hz, e, Int.toNat_natCast]) (by rw [big_nat] at hn; omega)⟩
theorem at_word (H : Hp) (a : Addr) (xs : List V) (ds : List PyData) (Q : VK) (ha : H a = some (.tup xs)) (hx : DatAll H xs ds) (hl : ds.length = 2) (hp : pWord ds = true) (q : ∀ (H' : Hp) (n : Nat), Same H H' → n = (zOf "word" ds).toNat → n < bigN → Q (.int (n : Nat)) H') : spWordSize [.ref a] H Q E0 :=
  ⟨a, xs, ds, rfl, ha, hx, Nat.le_of_eq hl.symm, hp, fun H' S h1 h2 => by
    obtain ⟨n, e, hn⟩ := zb_word ds hp
    have hz : zOf "word" ds = zWord ds := rfl
    rw [e]
    exact q H' n S (by rw [hz, e, Int.toNat_natCast]) (by rw [big_nat] at hn; omega)⟩
/-! ### the tables -/
theorem lk_mem {α β : Type} [BEq α] [LawfulBEq α] {z : α} {c : β} : ∀ {l : List (α × β)}, l.lookup z = some c → (z, c) ∈ l
  | [], h => by cases h
  | (k, v) :: l, h => by
    rw [List.lookup] at h
    cases e : z == k with
    | true =>
      rw [e] at h
      cases h
      rw [eq_of_beq e]
      exact List.mem_cons_self ..
    | false =>
      rw [e] at h
      exact List.mem_cons_of_mem _ (lk_mem h)
theorem lk_none {α β : Type} [BEq α] [LawfulBEq α] {z : α} : ∀ {l : List (α × β)}, l.lookup z = none → z ∉ l.map (·.1)
  | [], _, h => by cases h
  | (k, v) :: l, h, hm => by
    rw [List.lookup] at h
    cases e : z == k with
    | true =>
      rw [e] at h
      cases h
    | false =>
      rw [e] at h
      rcases List.mem_cons.mp hm with x | x
      · rw [show z = k from x, beq_self_eq_true] at e
        cases e
      · exact lk_none h x
theorem lk_nodup {β : Type} {a : Addr} {c : β} : ∀ {l : List (Addr × β)}, (l.map (·.1)).Nodup → (a, c) ∈ l → l.lookup a = some c
  | [], _, h => by cases h
  | (k, v) :: l, nd, h => by
    have nd' := List.nodup_cons.mp nd
    rw [List.lookup]
    rcases List.mem_cons.mp h with x | x
    · cases x
      rw [beq_self_eq_true]
    · have ne : (a == k) = false := beq_eq_false_iff_ne.mpr fun e => nd'.1 (List.mem_map.mpr ⟨(a, c), x, e⟩)
      rw [ne]
      exact lk_nodup nd'.2 x
theorem lk_map {α β γ : Type} [BEq α] (g : β → γ) (z : α) : ∀ l : List (α × β), (l.map fun q => (q.1, g q.2)).lookup z = (l.lookup z).map g
  | [] => rfl
  | (k, v) :: l => by
    rw [List.map_cons, List.lookup, List.lookup]
    cases e : z == k with
    | true => rfl
    | false => exact lk_map g z l
def keyS (e : DictEntry) : Option Str := match e.key with
  | .str x _ => some x
  | _ => none
theorem nsIn_miss {K : PySem.W.Frag} {d : Addr} {oc : Value} {od : Option Addr} {es : Array DictEntry} {n : Nat} {sl : Array (Option Value)} (h : K.lookup d = some ⟨oc, od, .dict es n, sl⟩) (ks : List Str) (hk : es.toList.map keyS = ks.map some) {z : Str} (hz : z ∉ ks) : PySem.W.nsIn K d z = some none := by
  have e1 : es.toList.find? (·.key.isStr z) = none := by
    rw [List.find?_eq_none]
    intro e he hs
    have hm : keyS e ∈ ks.map some := by
      rw [← hk]
      exact List.mem_map.mpr ⟨e, he, rfl⟩
    obtain ⟨x, hx, ex⟩ := List.mem_map.mp hm
    cases hkey : e.key with
    | str y t =>
      unfold keyS at ex
      rw [hkey] at ex hs
      have e0 : x = y := Option.some.inj ex
      have e3 : y = z := eq_of_beq hs
      rw [← e3, ← e0] at hz
      exact hz hx
    | _ =>
      rw [hkey] at hs
      cases hs
  have e2 : es.toList.any (·.refKey) = false := by
    rw [List.any_eq_false]
    intro e he hr
    have hm : keyS e ∈ ks.map some := by
      rw [← hk]
      exact List.mem_map.mpr ⟨e, he, rfl⟩
    obtain ⟨x, hx, ex⟩ := List.mem_map.mp hm
    cases hkey : e.key with
    | str y t =>
      unfold DictEntry.refKey at hr
      rw [hkey] at hr
      cases hr
    | _ =>
      unfold keyS at ex
      rw [hkey] at ex
      cases ex
  unfold PySem.W.nsIn
  rw [h]
  dsimp only
  rw [e1, e2]
  rfl
def tbl (f_subset f_word f_arr f_walk f_cycle f_matching f_perm f_tree f_string f_row f_power f_deco : Addr) : List (Str × Kind) := [("subset", ⟨3, f_subset, pSubset⟩), ("word", ⟨2, f_word, pWord⟩), ("arrangement", ⟨2, f_arr, pArr⟩), ("walk", ⟨6, f_walk, pWalk⟩), ("cycle", ⟨2, f_cycle, pCycle⟩), ("matching", ⟨2, f_matching, pMatching⟩), ("permutation", ⟨3, f_perm, pPerm⟩), ("tree", ⟨2, f_tree, pTree⟩), ("string", ⟨3, f_string, pString⟩), ("product", ⟨2, f_row, pRow⟩), ("choice", ⟨2, f_row, pRow⟩), ("power", ⟨3, f_power, pPower⟩), ("decorated", ⟨3, f_deco, pDeco⟩)]
def sps (f_subset f_word f_arr f_walk f_cycle f_matching f_perm f_tree f_string f_row f_power f_deco : Addr) : List (Addr × Sp) := [(f_subset, spT 3 pSubset), (f_word, spT 2 pWord), (f_arr, spT 2 pArr), (f_walk, spT 6 pWalk), (f_cycle, spT 2 pCycle), (f_matching, spT 2 pMatching), (f_perm, spT 3 pPerm), (f_tree, spT 2 pTree), (f_string, spT 3 pString), (f_row, spT 2 pRow), (f_power, spT 3 pPower), (f_deco, spT 3 pDeco)]
def szs (f_subsize f_wordsize f_arrsize f_walksize f_cycsize f_matsize f_permsize f_treesize f_strsize : Addr) : List (Addr × Sp) := [(f_subsize, spSize 3 pSubset zSubset), (f_wordsize, spWordSize), (f_arrsize, spSize 2 pArr zArr), (f_walksize, spSize 6 pWalk zWalk), (f_cycsize, spSize 2 pCycle zCycle), (f_matsize, spSize 2 pMatching zMatch), (f_permsize, spSize 3 pPerm zPerm), (f_treesize, spSize 2 pTree zTree), (f_strsize, spSize 3 pString zStr)]
theorem tbl_all {Q : Str → Nat → Addr → Prop} {f_subset f_word f_arr f_walk f_cycle f_matching f_perm f_tree f_string f_row f_power f_deco : Addr} (h0 : Q "subset" 3 f_subset) (h1 : Q "word" 2 f_word) (h2 : Q "arrangement" 2 f_arr) (h3 : Q "walk" 6 f_walk) (h4 : Q "cycle" 2 f_cycle) (h5 : Q "matching" 2 f_matching) (h6 : Q "permutation" 3 f_perm) (h7 : Q "tree" 2 f_tree) (h8 : Q "string" 3 f_string) (h9 : Q "product" 2 f_row) (h10 : Q "choice" 2 f_row) (h11 : Q "power" 3 f_power) (h12 : Q "decorated" 3 f_deco) : ∀ q ∈ tbl f_subset f_word f_arr f_walk f_cycle f_matching f_perm f_tree f_string f_row f_power f_deco, Q q.1 q.2.len q.2.f := by
  intro q hq
  unfold tbl at hq
  rcases List.mem_cons.mp hq with rfl | hq
  · exact h0
  rcases List.mem_cons.mp hq with rfl | hq
  · exact h1
  rcases List.mem_cons.mp hq with rfl | hq
  · exact h2
  rcases List.mem_cons.mp hq with rfl | hq
  · exact h3
  rcases List.mem_cons.mp hq with rfl | hq
  · exact h4
  rcases List.mem_cons.mp hq with rfl | hq
  · exact h5
  rcases List.mem_cons.mp hq with rfl | hq
  · exact h6
  rcases List.mem_cons.mp hq with rfl | hq
  · exact h7
  rcases List.mem_cons.mp hq with rfl | hq
  · exact h8
  rcases List.mem_cons.mp hq with rfl | hq
  · exact h9
  rcases List.mem_cons.mp hq with rfl | hq
  · exact h10
  rcases List.mem_cons.mp hq with rfl | hq
  · exact h11
  rcases List.mem_cons.mp hq with rfl | hq
  · exact h12
  cases hq
theorem tbl_sps {f_subset f_word f_arr f_walk f_cycle f_matching f_perm f_tree f_string f_row f_power f_deco : Addr} : ∀ q ∈ tbl f_subset f_word f_arr f_walk f_cycle f_matching f_perm f_tree f_string f_row f_power f_deco, (q.2.f, spT q.2.len q.2.p) ∈ sps f_subset f_word f_arr f_walk f_cycle f_matching f_perm f_tree f_string f_row f_power f_deco := by
  intro q hq
  unfold tbl at hq
  rcases List.mem_cons.mp hq with rfl | hq
  · exact List.mem_of_getElem? (i := 0) rfl
  rcases List.mem_cons.mp hq with rfl | hq
  · exact List.mem_of_getElem? (i := 1) rfl
  rcases List.mem_cons.mp hq with rfl | hq
  · exact List.mem_of_getElem? (i := 2) rfl
  rcases List.mem_cons.mp hq with rfl | hq
  · exact List.mem_of_getElem? (i := 3) rfl
  rcases List.mem_cons.mp hq with rfl | hq
  · exact List.mem_of_getElem? (i := 4) rfl
  rcases List.mem_cons.mp hq with rfl | hq
  · exact List.mem_of_getElem? (i := 5) rfl
  rcases List.mem_cons.mp hq with rfl | hq
  · exact List.mem_of_getElem? (i := 6) rfl
  rcases List.mem_cons.mp hq with rfl | hq
  · exact List.mem_of_getElem? (i := 7) rfl
  rcases List.mem_cons.mp hq with rfl | hq
  · exact List.mem_of_getElem? (i := 8) rfl
  rcases List.mem_cons.mp hq with rfl | hq
  · exact List.mem_of_getElem? (i := 9) rfl
  rcases List.mem_cons.mp hq with rfl | hq
  · exact List.mem_of_getElem? (i := 9) rfl
  rcases List.mem_cons.mp hq with rfl | hq
  · exact List.mem_of_getElem? (i := 10) rfl
  rcases List.mem_cons.mp hq with rfl | hq
  · exact List.mem_of_getElem? (i := 11) rfl
  cases hq
theorem kindP_part {f_subset f_word f_arr f_walk f_cycle f_matching f_perm f_tree f_string f_row f_power f_deco : Addr} : kindP (fun z => (tbl f_subset f_word f_arr f_walk f_cycle f_matching f_perm f_tree f_string f_row f_power f_deco).lookup z) = partB := by
  funext d
  have e : ∀ z, kinds.lookup z = ((tbl f_subset f_word f_arr f_walk f_cycle f_matching f_perm f_tree f_string f_row f_power f_deco).lookup z).map fun c => (c.len, c.p) := fun z => lk_map (fun c : Kind => (c.len, c.p)) z (tbl f_subset f_word f_arr f_walk f_cycle f_matching f_perm f_tree f_string f_row f_power f_deco)
  cases d with
  | tuple l =>
    cases l with
    | nil => rfl
    | cons x ds =>
      cases x with
      | str z =>
        show (match (tbl f_subset f_word f_arr f_walk f_cycle f_matching f_perm f_tree f_string f_row f_power f_deco).lookup z with
          | some c => decide (ds.length + 1 = c.len) && c.p (.str z :: ds)
          | none => false) = (match kinds.lookup z with
          | some c => decide (ds.length + 1 = c.1) && c.2 (.str z :: ds)
          | none => false)
        rw [e z]
        cases (tbl f_subset f_word f_arr f_walk f_cycle f_matching f_perm f_tree f_string f_row f_power f_deco).lookup z <;> rfl
      | _ => rfl
  | _ => rfl
section
variable {P : Program} {w : World} {K : PySem.W.Frag} {mg : Str → Option Value} {base : Heap}
theorem kinds_mk {dL dC f_subset f_word f_arr f_walk f_cycle f_matching f_perm f_tree f_string f_row f_power f_deco : Addr} (gL : mg "LENGTHS" = some (.ref dL)) (gC : mg "CHECKS" = some (.ref dC)) (kL : ∃ es n, KDict K w dL es n) (kC : ∃ es n, KDict K w dC es n)
    (miss : ∀ z, z ∉ (tbl f_subset f_word f_arr f_walk f_cycle f_matching f_perm f_tree f_string f_row f_power f_deco).map (·.1) → PySem.W.nsIn K dL z = some none) (hL : ∀ q ∈ tbl f_subset f_word f_arr f_walk f_cycle f_matching f_perm f_tree f_string f_row f_power f_deco, ∃ t, PySem.W.nsIn K dL q.1 = some (some (.int q.2.len t))) (hC : ∀ q ∈ tbl f_subset f_word f_arr f_walk f_cycle f_matching f_perm f_tree f_string f_row f_power f_deco, PySem.W.nsIn K dC q.1 = some (some (.ref q.2.f)))
    (nd : ((sps f_subset f_word f_arr f_walk f_cycle f_matching f_perm f_tree f_string f_row f_power f_deco).map (·.1)).Nodup) (held : ∀ q ∈ sps f_subset f_word f_arr f_walk f_cycle f_matching f_perm f_tree f_string f_row f_power f_deco, Held P w K mg base 10 q.1 q.2) : Kinds P w K mg base (fun z => (tbl f_subset f_word f_arr f_walk f_cycle f_matching f_perm f_tree f_string f_row f_power f_deco).lookup z) dL dC fun f => (sps f_subset f_word f_arr f_walk f_cycle f_matching f_perm f_tree f_string f_row f_power f_deco).lookup f :=
  ⟨gL, gC, kL, kC, fun z h => miss z (lk_none h), fun z c h => hL _ (lk_mem h), fun z c h => hC _ (lk_mem h), fun f sp h => held _ (lk_mem h), fun z c h => ⟨_, lk_nodup nd (tbl_sps _ (lk_mem h)), fun H a xs ds Q ha hx hl _ q => ⟨a, xs, ds, rfl, ha, hx, hl, q⟩⟩⟩
theorem sizes_mk {dS f_subsize f_wordsize f_arrsize f_walksize f_cycsize f_matsize f_permsize f_treesize f_strsize : Addr} (g : mg "LEAF_SIZES" = some (.ref dS)) (k : ∃ es n, KDict K w dS es n) (nd : ((szs f_subsize f_wordsize f_arrsize f_walksize f_cycsize f_matsize f_permsize f_treesize f_strsize).map (·.1)).Nodup) (held : ∀ q ∈ szs f_subsize f_wordsize f_arrsize f_walksize f_cycsize f_matsize f_permsize f_treesize f_strsize, Held P w K mg base 9 q.1 q.2)
    (h0 : PySem.W.nsIn K dS "subset" = some (some (.ref f_subsize))) (h1 : PySem.W.nsIn K dS "word" = some (some (.ref f_wordsize))) (h2 : PySem.W.nsIn K dS "arrangement" = some (some (.ref f_arrsize))) (h3 : PySem.W.nsIn K dS "walk" = some (some (.ref f_walksize))) (h4 : PySem.W.nsIn K dS "cycle" = some (some (.ref f_cycsize))) (h5 : PySem.W.nsIn K dS "matching" = some (some (.ref f_matsize))) (h6 : PySem.W.nsIn K dS "permutation" = some (some (.ref f_permsize))) (h7 : PySem.W.nsIn K dS "tree" = some (some (.ref f_treesize))) (h8 : PySem.W.nsIn K dS "string" = some (some (.ref f_strsize))) : Sizes P w K mg base dS fun f => (szs f_subsize f_wordsize f_arrsize f_walksize f_cycsize f_matsize f_permsize f_treesize f_strsize).lookup f := by
  refine ⟨g, k, fun f sp h => held _ (lk_mem h), fun z len p h hn => ?_⟩
  have hm := lk_mem h
  unfold kinds at hm
  rcases List.mem_cons.mp hm with e | hm
  · cases e
    exact ⟨_, _, h0, lk_nodup nd (List.mem_of_getElem? (i := 0) rfl), at_size (fun _ => rfl) zb_subset⟩
  rcases List.mem_cons.mp hm with e | hm
  · cases e
    exact ⟨_, _, h1, lk_nodup nd (List.mem_of_getElem? (i := 1) rfl), at_word⟩
  rcases List.mem_cons.mp hm with e | hm
  · cases e
    exact ⟨_, _, h2, lk_nodup nd (List.mem_of_getElem? (i := 2) rfl), at_size (fun _ => rfl) zb_arr⟩
  rcases List.mem_cons.mp hm with e | hm
  · cases e
    exact ⟨_, _, h3, lk_nodup nd (List.mem_of_getElem? (i := 3) rfl), at_size (fun _ => rfl) zb_walk⟩
  rcases List.mem_cons.mp hm with e | hm
  · cases e
    exact ⟨_, _, h4, lk_nodup nd (List.mem_of_getElem? (i := 4) rfl), at_size (fun _ => rfl) zb_cycle⟩
  rcases List.mem_cons.mp hm with e | hm
  · cases e
    exact ⟨_, _, h5, lk_nodup nd (List.mem_of_getElem? (i := 5) rfl), at_size (fun _ => rfl) zb_match⟩
  rcases List.mem_cons.mp hm with e | hm
  · cases e
    exact ⟨_, _, h6, lk_nodup nd (List.mem_of_getElem? (i := 6) rfl), at_size (fun _ => rfl) zb_perm⟩
  rcases List.mem_cons.mp hm with e | hm
  · cases e
    exact ⟨_, _, h7, lk_nodup nd (List.mem_of_getElem? (i := 7) rfl), at_size (fun _ => rfl) zb_tree⟩
  rcases List.mem_cons.mp hm with e | hm
  · cases e
    exact ⟨_, _, h8, lk_nodup nd (List.mem_of_getElem? (i := 8) rfl), at_size (fun _ => rfl) zb_str⟩
  rcases List.mem_cons.mp hm with e | hm
  · cases e
    exact absurd hn (by decide +kernel)
  rcases List.mem_cons.mp hm with e | hm
  · cases e
    exact absurd hn (by decide +kernel)
  rcases List.mem_cons.mp hm with e | hm
  · cases e
    exact absurd hn (by decide +kernel)
  rcases List.mem_cons.mp hm with e | hm
  · cases e
    exact absurd hn (by decide +kernel)
  cases hm
end
end K3
set_option maxRecDepth 100000
set_option maxHeartbeats 8000000
namespace K3
open PySem PySem.Spec PyProof.Rows L2
/-! ### everything put together -/
section
variable {P : Program} {w : World} {K : PySem.W.Frag} {mg : Str → Option Value}
def pre_mk {f_isint f_btw f_tup f_name f_asc : Addr} {d_isint d_btw d_tup d_name d_asc : FuncData} (nm : Nm mg) (Z : Cst mg) (o_isint : DefOk K mg "is_integer" sIsInt ["value"] f_isint d_isint) (o_btw : DefOk K mg "is_between" sBtw ["value", "low", "high"] f_btw d_btw) (o_tup : DefOk K mg "is_tuple" sTup ["value", "least", "most"] f_tup d_tup) (o_name : DefOk K mg "is_name" sName ["value"] f_name d_name) (o_asc : DefOk K mg "is_ascending" sAsc ["items"] f_asc d_asc) (base : Heap) : Pre P w K mg base :=
  ⟨f_btw, f_tup, f_name, f_asc, d_btw, d_tup, d_name, d_asc, o_btw, o_tup, o_name, o_asc, ok_btw o_btw.F nm o_isint, ok_tup o_tup.F nm, ok_name o_name.F nm Z.name, ok_asc o_asc.F nm, nm, Z⟩
theorem well_mk {f_isint f_btw f_tup f_name f_asc f_auto f_moves f_move f_state f_states f_order f_ord f_names f_well f_nested f_part f_subset f_word f_arr f_walk f_cycle f_matching f_perm f_tree f_string f_row f_power f_deco f_counts f_count : Addr} {d_isint d_btw d_tup d_name d_asc d_auto d_moves d_move d_state d_states d_order d_ord d_names d_well d_nested d_part d_subset d_word d_arr d_walk d_cycle d_matching d_perm d_tree d_string d_row d_power d_deco d_counts d_count : FuncData} {dL dC : Addr} (nm : Nm mg) (Z : Cst mg) (o_isint : DefOk K mg "is_integer" sIsInt ["value"] f_isint d_isint) (o_btw : DefOk K mg "is_between" sBtw ["value", "low", "high"] f_btw d_btw) (o_tup : DefOk K mg "is_tuple" sTup ["value", "least", "most"] f_tup d_tup) (o_name : DefOk K mg "is_name" sName ["value"] f_name d_name) (o_asc : DefOk K mg "is_ascending" sAsc ["items"] f_asc d_asc) (o_auto : DefOk K mg "is_automaton" sAuto ["value"] f_auto d_auto) (o_moves : DefOk K mg "are_moves" sMoves ["moves"] f_moves d_moves) (o_move : DefOk K mg "is_move" sIsMove ["move"] f_move d_move) (o_state : DefOk K mg "is_state" sIsState ["value"] f_state d_state) (o_states : DefOk K mg "are_states" sAreStates ["value"] f_states d_states) (o_order : DefOk K mg "is_order" sIsOrder ["value"] f_order d_order) (o_ord : DefOk K mg "has_order_form" sOrd ["value", "depth"] f_ord d_ord) (o_names : DefOk K mg "names_of" sNames ["order"] f_names d_names) (o_well : DefOk K mg "is_well_formed" sWell ["value"] f_well d_well) (o_nested : DefOk K mg "nested_spaces" sNested ["space"] f_nested d_nested) (o_part : DefOk K mg "is_part" sPart ["value"] f_part d_part) (o_subset : DefOk K mg "is_subset" sSubset ["space"] f_subset d_subset) (o_word : DefOk K mg "is_word" sWord ["space"] f_word d_word) (o_arr : DefOk K mg "is_arrangement" sArr ["space"] f_arr d_arr) (o_walk : DefOk K mg "is_walk" sWalk ["space"] f_walk d_walk) (o_cycle : DefOk K mg "is_cycle" sCycle ["space"] f_cycle d_cycle) (o_matching : DefOk K mg "is_matching" sMatching ["space"] f_matching d_matching) (o_perm : DefOk K mg "is_permutation" sPerm ["space"] f_perm d_perm) (o_tree : DefOk K mg "is_tree" sTree ["space"] f_tree d_tree) (o_string : DefOk K mg "is_string" sString ["space"] f_string d_string) (o_row : DefOk K mg "is_row" sRow ["space"] f_row d_row) (o_power : DefOk K mg "is_power" sPower ["space"] f_power d_power) (o_deco : DefOk K mg "is_decorated" sDeco ["space"] f_deco d_deco) (o_counts : DefOk K mg "are_counts" sCounts ["counts"] f_counts d_counts) (o_count : DefOk K mg "is_count" sIsCount ["pair"] f_count d_count)
    (gL : mg "LENGTHS" = some (.ref dL)) (gC : mg "CHECKS" = some (.ref dC)) (kL : ∃ es n, KDict K w dL es n) (kC : ∃ es n, KDict K w dC es n)
    (miss : ∀ z, z ∉ (tbl f_subset f_word f_arr f_walk f_cycle f_matching f_perm f_tree f_string f_row f_power f_deco).map (·.1) → PySem.W.nsIn K dL z = some none) (hL : ∀ q ∈ tbl f_subset f_word f_arr f_walk f_cycle f_matching f_perm f_tree f_string f_row f_power f_deco, ∃ t, PySem.W.nsIn K dL q.1 = some (some (.int q.2.len t))) (hC : ∀ q ∈ tbl f_subset f_word f_arr f_walk f_cycle f_matching f_perm f_tree f_string f_row f_power f_deco, PySem.W.nsIn K dC q.1 = some (some (.ref q.2.f)))
    (nd : ((sps f_subset f_word f_arr f_walk f_cycle f_matching f_perm f_tree f_string f_row f_power f_deco).map (·.1)).Nodup) (base : Heap) : FnOk P w K mg base CX0 12 f_well d_well ["value"] (spP isWf) := by
  have Y : Pre P w K mg base := pre_mk nm Z o_isint o_btw o_tup o_name o_asc base
  have GS : FnOk P w K mg base CX0 3 f_state d_state ["value"] (spP (btw 0 7)) := ok_state o_state.F Z Y.B Y.GB
  have GM := ok_moves o_moves.F Y o_move (ok_move o_move.F Y o_state GS)
  have GC := ok_counts o_counts.F Y o_count (ok_count o_count.F Y)
  have GA := ok_auto o_auto.F Y o_moves GM o_states (ok_states o_states.F Y o_state GS)
  have GO := ok_order o_order.F Y o_ord o_names
  have H1 := (ok_subset (base := base) o_subset.F Z Y.B Y.GB).mono (k := 10) (by decide)
  have H2 := (ok_word o_word.F o_counts GC).mono (k := 10) (by decide)
  have H3 := (ok_arr o_arr.F o_order GO).mono (k := 10) (by decide)
  have H4 := (ok_walk o_walk.F Y).mono (k := 10) (by decide)
  have H5 := (ok_cycle (base := base) o_cycle.F Z Y.B Y.GB).mono (k := 10) (by decide)
  have H6 := (ok_matching o_matching.F Y).mono (k := 10) (by decide)
  have H7 := (ok_perm o_perm.F Y).mono (k := 10) (by decide)
  have H8 := (ok_tree o_tree.F Y).mono (k := 10) (by decide)
  have H9 := (ok_string o_string.F Y o_auto GA).mono (k := 10) (by decide)
  have H10 := (ok_row o_row.F Y).mono (k := 10) (by decide)
  have H11 := (ok_power o_power.F Y).mono (k := 10) (by decide)
  have H12 := (ok_deco o_deco.F Y o_counts GC).mono (k := 10) (by decide)
  have held : ∀ q ∈ sps f_subset f_word f_arr f_walk f_cycle f_matching f_perm f_tree f_string f_row f_power f_deco, Held P w K mg base 10 q.1 q.2 := by
    intro q hq
    unfold sps at hq
    rcases List.mem_cons.mp hq with rfl | hq
    · exact ⟨_, _, H1, o_subset.F.kp, o_subset.b⟩
    rcases List.mem_cons.mp hq with rfl | hq
    · exact ⟨_, _, H2, o_word.F.kp, o_word.b⟩
    rcases List.mem_cons.mp hq with rfl | hq
    · exact ⟨_, _, H3, o_arr.F.kp, o_arr.b⟩
    rcases List.mem_cons.mp hq with rfl | hq
    · exact ⟨_, _, H4, o_walk.F.kp, o_walk.b⟩
    rcases List.mem_cons.mp hq with rfl | hq
    · exact ⟨_, _, H5, o_cycle.F.kp, o_cycle.b⟩
    rcases List.mem_cons.mp hq with rfl | hq
    · exact ⟨_, _, H6, o_matching.F.kp, o_matching.b⟩
    rcases List.mem_cons.mp hq with rfl | hq
    · exact ⟨_, _, H7, o_perm.F.kp, o_perm.b⟩
    rcases List.mem_cons.mp hq with rfl | hq
    · exact ⟨_, _, H8, o_tree.F.kp, o_tree.b⟩
    rcases List.mem_cons.mp hq with rfl | hq
    · exact ⟨_, _, H9, o_string.F.kp, o_string.b⟩
    rcases List.mem_cons.mp hq with rfl | hq
    · exact ⟨_, _, H10, o_row.F.kp, o_row.b⟩
    rcases List.mem_cons.mp hq with rfl | hq
    · exact ⟨_, _, H11, o_power.F.kp, o_power.b⟩
    rcases List.mem_cons.mp hq with rfl | hq
    · exact ⟨_, _, H12, o_deco.F.kp, o_deco.b⟩
    cases hq
  have GP := ok_part o_part.F Y (kinds_mk gL gC kL kC miss hL hC nd held)
  rw [kindP_part] at GP
  exact ok_well o_well.F Y o_part GP o_nested (ok_nested o_nested.F)
theorem measure_mk {f_subsize f_wordsize f_arrsize f_walksize f_cycsize f_matsize f_permsize f_treesize f_strsize f_raise f_multi f_moved f_names f_osize f_step f_moveon f_countstr f_nested f_measure f_jleaves f_repeat f_sizeof : Addr} {d_subsize d_wordsize d_arrsize d_walksize d_cycsize d_matsize d_permsize d_treesize d_strsize d_raise d_multi d_moved d_names d_osize d_step d_moveon d_countstr d_nested d_measure d_jleaves d_repeat d_sizeof : FuncData} {fJ : Addr} {dJ : FuncData} {dS : Addr} (nm : Nm mg) (Z : Cst mg) (zl : mg "list" = none) (zm : mg "max" = none) (c1 : mg "comb" = some (.builtin "math.comb")) (c2 : mg "factorial" = some (.builtin "math.factorial"))
    (o_subsize : DefOk K mg "subset_size" sSubSize ["space"] f_subsize d_subsize) (o_wordsize : DefOk K mg "word_size" sWordSize ["space"] f_wordsize d_wordsize) (o_arrsize : DefOk K mg "arrangement_size" sArrSize ["space"] f_arrsize d_arrsize) (o_walksize : DefOk K mg "walk_size" sWalkSize ["space"] f_walksize d_walksize) (o_cycsize : DefOk K mg "cycle_size" sCycSize ["space"] f_cycsize d_cycsize) (o_matsize : DefOk K mg "matching_size" sMatSize ["space"] f_matsize d_matsize) (o_permsize : DefOk K mg "permutation_size" sPermSize ["space"] f_permsize d_permsize) (o_treesize : DefOk K mg "tree_size" sTreeSize ["space"] f_treesize d_treesize) (o_strsize : DefOk K mg "string_size" sStrSize ["space"] f_strsize d_strsize) (o_raise : DefOk K mg "raise_to" sRaise ["base", "exponent"] f_raise d_raise) (o_multi : DefOk K mg "multinomial" sMulti ["counts"] f_multi d_multi) (o_moved : DefOk K mg "count_moved" sMoved ["n", "moved"] f_moved d_moved) (o_names : DefOk K mg "names_of" sNames ["order"] f_names d_names) (o_osize : DefOk K mg "order_size" sOSize ["order"] f_osize d_osize) (o_step : DefOk K mg "step_on" sStep ["ways", "low", "high"] f_step d_step) (o_moveon : DefOk K mg "move_on" sMoveOn ["moves", "ways"] f_moveon d_moveon) (o_countstr : DefOk K mg "count_strings" sCountStr ["automaton", "n"] f_countstr d_countstr) (o_nested : DefOk K mg "nested_spaces" sNested ["space"] f_nested d_nested) (o_measure : DefOk K mg "measure" sMeasure ["space", "bound"] f_measure d_measure) (o_jleaves : DefOk K mg "joined_leaves" sJLeaves ["space", "leaves"] f_jleaves d_jleaves) (o_repeat : DefOk K mg "repeated" sRepeat ["counts", "items"] f_repeat d_repeat) (o_sizeof : DefOk K mg "size_of" sSizeOf ["space"] f_sizeof d_sizeof)
    (J : FunD K "joined_size" "joined_size" (defArgs sJSize) (defBody sJSize) (defScope sJSize) [.non] [] fJ dJ) (bJ : L2.Binds K dJ ["space", "sizes", "bound"] []) (gJ : mg "joined_size" = some (.ref fJ)) (U : MulOk P w K mg default) (b2 : L2.Binds K U.fd ["factors", "bound"] [])
    (g : mg "LEAF_SIZES" = some (.ref dS)) (k : ∃ es n, KDict K w dS es n) (nd : ((szs f_subsize f_wordsize f_arrsize f_walksize f_cycsize f_matsize f_permsize f_treesize f_strsize).map (·.1)).Nodup) (h0 : PySem.W.nsIn K dS "subset" = some (some (.ref f_subsize))) (h1 : PySem.W.nsIn K dS "word" = some (some (.ref f_wordsize))) (h2 : PySem.W.nsIn K dS "arrangement" = some (some (.ref f_arrsize))) (h3 : PySem.W.nsIn K dS "walk" = some (some (.ref f_walksize))) (h4 : PySem.W.nsIn K dS "cycle" = some (some (.ref f_cycsize))) (h5 : PySem.W.nsIn K dS "matching" = some (some (.ref f_matsize))) (h6 : PySem.W.nsIn K dS "permutation" = some (some (.ref f_permsize))) (h7 : PySem.W.nsIn K dS "tree" = some (some (.ref f_treesize))) (h8 : PySem.W.nsIn K dS "string" = some (some (.ref f_strsize)))
    (bJ2 : L2.Binds K dJ ["space", "sizes", "bound"] [Value.none]) (base : Heap) : FnOk P w K mg base CX0 17 f_measure d_measure ["space", "bound"] (spMeas 6) ∧ FnOk P w K mg base CX0 17 f_sizeof d_sizeof ["space"] (spSzOf 6) := by
  have U' : MulOk P w K mg base := ⟨U.f, U.fd, U.F, U.b, U.g⟩
  have GU : FnOk P w K mg base CX0 1 U.f U.fd ["factors", "bound"] spMul := ok_mul U.F
  have GO : FnOk P w K mg base CX0 8 f_osize d_osize ["order"] (spOSize 6) := ok_osize o_osize.F o_osize.b o_osize.g nm o_names U' o_multi c1 6
  have H1 : FnOk P w K mg base CX0 9 f_subsize d_subsize ["space"] _ := (ok_subsize o_subsize.F c1).mono (by decide)
  have H2 : FnOk P w K mg base CX0 9 f_wordsize d_wordsize ["space"] _ := (ok_wordsize o_wordsize.F o_multi c1).mono (by decide)
  have H3 : FnOk P w K mg base CX0 9 f_arrsize d_arrsize ["space"] _ := ok_arrsize o_arrsize.F o_osize GO
  have H4 : FnOk P w K mg base CX0 9 f_walksize d_walksize ["space"] _ := (ok_walksize o_walksize.F nm o_step).mono (by decide)
  have H5 : FnOk P w K mg base CX0 9 f_cycsize d_cycsize ["space"] _ := (ok_cycsize o_cycsize.F c2).mono (by decide)
  have H6 : FnOk P w K mg base CX0 9 f_matsize d_matsize ["space"] _ := (ok_matsize o_matsize.F nm zl U.F.kp U.b U.g GU).mono (by decide)
  have H7 : FnOk P w K mg base CX0 9 f_permsize d_permsize ["space"] _ := (ok_permsize o_permsize.F nm o_moved c1 c2).mono (by decide)
  have H8 : FnOk P w K mg base CX0 9 f_treesize d_treesize ["space"] _ := (ok_treesize o_treesize.F zm o_raise).mono (by decide)
  have H9 : FnOk P w K mg base CX0 9 f_strsize d_strsize ["space"] _ := (ok_strsize o_strsize.F o_countstr (ok_countstr o_countstr.F nm o_moveon)).mono (by decide)
  have held : ∀ q ∈ szs f_subsize f_wordsize f_arrsize f_walksize f_cycsize f_matsize f_permsize f_treesize f_strsize, Held P w K mg base 9 q.1 q.2 := by
    intro q hq
    unfold szs at hq
    rcases List.mem_cons.mp hq with rfl | hq
    · exact ⟨_, _, H1, o_subsize.F.kp, o_subsize.b⟩
    rcases List.mem_cons.mp hq with rfl | hq
    · exact ⟨_, _, H2, o_wordsize.F.kp, o_wordsize.b⟩
    rcases List.mem_cons.mp hq with rfl | hq
    · exact ⟨_, _, H3, o_arrsize.F.kp, o_arrsize.b⟩
    rcases List.mem_cons.mp hq with rfl | hq
    · exact ⟨_, _, H4, o_walksize.F.kp, o_walksize.b⟩
    rcases List.mem_cons.mp hq with rfl | hq
    · exact ⟨_, _, H5, o_cycsize.F.kp, o_cycsize.b⟩
    rcases List.mem_cons.mp hq with rfl | hq
    · exact ⟨_, _, H6, o_matsize.F.kp, o_matsize.b⟩
    rcases List.mem_cons.mp hq with rfl | hq
    · exact ⟨_, _, H7, o_permsize.F.kp, o_permsize.b⟩
    rcases List.mem_cons.mp hq with rfl | hq
    · exact ⟨_, _, H8, o_treesize.F.kp, o_treesize.b⟩
    rcases List.mem_cons.mp hq with rfl | hq
    · exact ⟨_, _, H9, o_strsize.F.kp, o_strsize.b⟩
    cases hq
  have GL := ok_jleaves (base := base) (P := P) (w := w) o_jleaves.F nm o_repeat
  have GJ := ok_jsize J nm (sizes_mk g k nd held h0 h1 h2 h3 h4 h5 h6 h7 h8) ⟨U.f, U.fd, U.F, U.b, U.g⟩ b2 o_repeat o_wordsize o_multi c1
  have GJ0 := ok_jsize0 J nm (sizes_mk g k nd held h0 h1 h2 h3 h4 h5 h6 h7 h8) ⟨U.f, U.fd, U.F, U.b, U.g⟩ b2 o_repeat o_wordsize o_multi c1
  exact ⟨ok_measure o_measure.F o_measure.b o_measure.g o_nested o_jleaves GL J bJ gJ GJ Z 6, ok_sizeof o_sizeof.F o_sizeof.b o_sizeof.g o_nested J bJ2 gJ GJ0 6⟩
theorem leafsize_mk {f_lint f_lname f_lrises f_lchoose f_lword f_lperm f_lleafsize : Addr} {d_lint d_lname d_lrises d_lchoose d_lword d_lperm d_lleafsize : FuncData} (nm : Nm mg) (zl : mg "list" = none) (zm : mg "max" = none) (o_lint : DefOk K mg "_law_is_int" s_is_int ["_law_thing", "_law_low", "_law_high"] f_lint d_lint) (o_lname : DefOk K mg "_law_is_name" s_is_name ["_law_thing"] f_lname d_lname) (o_lrises : DefOk K mg "_law_rises" s_rises ["_law_items"] f_lrises d_lrises) (o_lchoose : DefOk K mg "_law_choose" s_choose ["_law_n", "_law_k"] f_lchoose d_lchoose) (o_lword : DefOk K mg "_law_word_size" s_word_size ["_law_counts_here"] f_lword d_lword) (o_lperm : DefOk K mg "_law_permutation_size" s_permutation_size ["_law_thing"] f_lperm d_lperm) (o_lleafsize : DefOk K mg "_law_leaf_size" s_leaf_size ["_law_thing"] f_lleafsize d_lleafsize) (base : Heap) : FnOk P w K mg base CX0 9 f_lleafsize d_lleafsize ["_law_thing"] (spOptTZ leaf6 leafZ) :=
  okl_leaf o_lleafsize.F nm zl zm o_lint o_lchoose o_lword (okl_word o_lword.F nm o_lint o_lname o_lchoose) o_lperm (okl_perm o_lperm.F nm o_lint o_lrises)
theorem lmeasure_mk {f_lint f_lname f_lchoose f_lword f_lleafsize f_lbound f_lproduct f_lnested f_lmeasure : Addr} {d_lint d_lname d_lchoose d_lword d_lleafsize d_lbound d_lproduct d_lnested d_lmeasure : FuncData} (nm : Nm mg) (o_lint : DefOk K mg "_law_is_int" s_is_int ["_law_thing", "_law_low", "_law_high"] f_lint d_lint) (o_lname : DefOk K mg "_law_is_name" s_is_name ["_law_thing"] f_lname d_lname) (o_lchoose : DefOk K mg "_law_choose" s_choose ["_law_n", "_law_k"] f_lchoose d_lchoose) (o_lword : DefOk K mg "_law_word_size" s_word_size ["_law_counts_here"] f_lword d_lword) (o_lleafsize : DefOk K mg "_law_leaf_size" s_leaf_size ["_law_thing"] f_lleafsize d_lleafsize) (o_lbound : DefOk K mg "_law_bound" s_bound [] f_lbound d_lbound) (o_lproduct : DefOk K mg "_law_product" s_product ["_law_factors"] f_lproduct d_lproduct) (o_lnested : DefOk K mg "_law_nested" s_nested ["_law_thing"] f_lnested d_lnested) (o_lmeasure : DefOk K mg "_law_measure" s_measure ["_law_thing", "_law_depth"] f_lmeasure d_lmeasure) (LS : ∀ base : Heap, FnOk P w K mg base CX0 9 f_lleafsize d_lleafsize ["_law_thing"] (spOptTZ leaf6 leafZ)) (base : Heap) : FnOk P w K mg base CX0 16 f_lmeasure d_lmeasure ["_law_thing", "_law_depth"] (spLM 6) := by
  have GW : FnOk P w K mg base CX0 2 f_lword d_lword ["_law_counts_here"] (spOptZ countsB zCounts) := okl_word o_lword.F nm o_lint o_lname o_lchoose
  exact okl_measure o_lmeasure.F o_lmeasure.b o_lmeasure.g nm o_lleafsize (LS base) o_lnested (okl_nested o_lnested.F nm o_lint o_lword GW) o_lword GW o_lproduct o_lbound 6
theorem law_mk {f_ldeck f_ldraw f_lpick f_lmeasure f_lnames f_lcounts f_lleaf f_lspace f_ldeep f_lwide f_lvast f_lvalid f_linvalid f_lright f_llaw f_space f_sizeof : Addr} {d_ldeck d_ldraw d_lpick d_lmeasure d_lnames d_lcounts d_lleaf d_lspace d_ldeep d_lwide d_lvast d_lvalid d_linvalid d_lright d_llaw d_space d_sizeof : FuncData} (nm : Nm mg) (zl : mg "list" = none) (zm : mg "max" = none) (zs : mg "sorted" = none) (zr : mg "repr" = none) (eS : PySem.W.nsIn K cStatics "sys.int_max_str_digits" = some none)
    (o_ldeck : DefOk K mg "_law_deck" sDeck ["_law_script"] f_ldeck d_ldeck) (o_ldraw : DefOk K mg "_law_draw" sDraw ["_law_deck_here", "_law_bound_here"] f_ldraw d_ldraw) (o_lpick : DefOk K mg "_law_pick" sPick ["_law_deck_here", "_law_items"] f_lpick d_lpick) (o_lmeasure : DefOk K mg "_law_measure" s_measure ["_law_thing", "_law_depth"] f_lmeasure d_lmeasure) (o_lnames : DefOk K mg "_law_names" s_names ["_law_deck_here", "_law_many"] f_lnames d_lnames) (o_lcounts : DefOk K mg "_law_counts" s_counts ["_law_deck_here", "_law_total"] f_lcounts d_lcounts) (o_lleaf : DefOk K mg "_law_leaf" s_leaf ["_law_deck_here", "_law_large"] f_lleaf d_lleaf) (o_lspace : DefOk K mg "_law_nested_space" s_space ["_law_deck_here", "_law_depth"] f_lspace d_lspace) (o_ldeep : DefOk K mg "_law_deep" s_deep ["_law_depth"] f_ldeep d_ldeep) (o_lwide : DefOk K mg "_law_wide" s_wide ["_law_more"] f_lwide d_lwide) (o_lvast : DefOk K mg "_law_vast" s_vast [] f_lvast d_lvast) (o_lvalid : DefOk K mg "_law_valid" s_valid [] f_lvalid d_lvalid) (o_linvalid : DefOk K mg "_law_invalid" s_invalid [] f_linvalid d_linvalid) (o_lright : DefOk K mg "_law_right" s_right ["_law_thing"] f_lright d_lright) (o_llaw : DefOk K mg "law" s_law ["_law_script"] f_llaw d_llaw) (o_space : DefOk K mg "is_space" s_is_space ["value"] f_space d_space) (o_sizeof : DefOk K mg "size_of" sSizeOf ["space"] f_sizeof d_sizeof)
    (G_lm : ∀ base : Heap, FnOk P w K mg base CX0 16 f_lmeasure d_lmeasure ["_law_thing", "_law_depth"] (spLM 6)) (G_space : ∀ base : Heap, FnOk P w K mg base CX0 18 f_space d_space ["value"] spSpace) (G_sizeof : ∀ base : Heap, FnOk P w K mg base CX0 17 f_sizeof d_sizeof ["space"] (spSzOf 6))
    (kb : KBinds K d_space ["value"] ["value"] (fun us ws => us ++ ws) (fun vs zs => vs ++ zs)) (kz : KBinds K d_sizeof ["space"] ["space"] (fun us ws => us ++ ws) (fun vs zs => vs ++ zs)) (base : Heap) : FnG P w K mg base 20 f_llaw d_llaw ["_law_script"] (spLaw K) := by
  have GL : FnOk P w K mg base CX0 4 f_lleaf d_lleaf ["_law_deck_here", "_law_large"] spLeaf := okl_mleaf o_lleaf.F nm zs zm o_ldraw o_lnames o_lcounts
  have SP : FnOk P w K mg base CX0 8 f_lspace d_lspace ["_law_deck_here", "_law_depth"] spAny := any_ok (okl_space o_lspace.F o_lspace.b o_lspace.g nm zs o_ldraw o_lnames o_lpick o_lleaf GL)
  have GR : FnG P w K mg base 19 f_lright d_lright ["_law_thing"] spRight := okl_right o_lright.F nm zr eS o_lmeasure G_lm o_space G_space kb o_sizeof G_sizeof kz
  exact ok_law o_llaw.F nm zl o_ldeck o_ldraw o_space o_lright o_lspace o_lvalid o_linvalid o_sizeof (G_space base) GR (G_sizeof base) SP (okl_valid o_lvalid.F nm o_ldeep o_lwide o_lvast) (okl_invalid o_linvalid.F nm o_ldeep o_lwide o_lvast)
end
theorem funD_mk {K : PySem.W.Frag} {x qual : Str} {params : Arguments} {body : List Stmt} {scope : Scope} {dvs : List V} {f T : Addr} {oc : Value} {od an : Option Addr} {osl : Array (Option Value)} {kV doc pm cdv ct : Value} {o : Obj} {its : List Value} {n : Nat}
    (l : K.lookup f = some ⟨oc, od, .func (PySem.W.fnOf x qual params body scope (.ref T) kV doc pm an cdv ct), osl⟩) (c : PySem.W.codeIn K cdv qual = true) (k : PySem.W.keepIn K (.ref f) = true) (t : K.lookup T = some o) (d : o.data = .seq its.toArray n) (r : Vals dvs its) (ne : dvs ≠ []) :
    FunD K x qual params body scope dvs [] f (PySem.W.fnOf x qual params body scope (.ref T) kV doc pm an cdv ct) := ⟨⟨oc, od, .ref T, kV, doc, pm, an, cdv, ct, osl, rfl, l, c, .inr ⟨ne, T, o, its, n, rfl, t, d, r⟩, .inl rfl⟩, k⟩
theorem mul_binds {K : PySem.W.Frag} {f : Addr} {fd : FuncData} (F : FunD K "multiply" "multiply" (defArgs sMul) (defBody sMul) (defScope sMul) [.non] [] f fd) : L2.Binds K fd ["factors", "bound"] [Value.none] := by
  obtain ⟨ds, v, b⟩ := F.binds1 (ps := ["factors", "bound"]) 1 0 (by simp) rfl fun T kV doc pm an cdv ct us its h1 h2 => match us, its, h1, h2 with
    | [_], [_], _, _ => ⟨_, rfl, rfl⟩
  have v' : Vals [V.non] ds := v
  cases v' with
  | cons r rs =>
    cases rs
    obtain rfl : _ = Value.none := r
    exact b
theorem mul_binds2 {K : PySem.W.Frag} {f : Addr} {fd : FuncData} (F : FunD K "multiply" "multiply" (defArgs sMul) (defBody sMul) (defScope sMul) [.non] [] f fd) : L2.Binds K fd ["factors", "bound"] [] := by
  obtain ⟨ds, v, b⟩ := F.binds1 (ps := ["factors", "bound"]) 2 1 (by simp) rfl fun T kV doc pm an cdv ct us its h1 h2 => match us, its, h1, h2 with
    | [_, _], [_], _, _ => ⟨_, rfl, rfl⟩
  have v' : Vals [] ds := v
  cases v'
  exact b
theorem js_binds2 {K : PySem.W.Frag} {f : Addr} {fd : FuncData} (F : FunD K "joined_size" "joined_size" (defArgs sJSize) (defBody sJSize) (defScope sJSize) [.non] [] f fd) : L2.Binds K fd ["space", "sizes", "bound"] [Value.none] := by
  obtain ⟨ds, v, b⟩ := F.binds1 (ps := ["space", "sizes", "bound"]) 2 0 (by simp) rfl fun T kV doc pm an cdv ct us its h1 h2 => match us, its, h1, h2 with
    | [_, _], [_], _, _ => ⟨_, rfl, rfl⟩
  have v' : Vals [V.non] ds := v
  cases v' with
  | cons r rs =>
    cases rs
    obtain rfl : _ = Value.none := r
    exact b
theorem kb_mk {K : PySem.W.Frag} {fd : FuncData} {x : Str} (kb1 : ∀ (s : Shared) (u : Value), BindsTo s fd ⟨[u], []⟩ [(x, u)]) (kb2 : ∀ (s : Shared) (u : Value), BindsTo s fd ⟨[], [(x, u)]⟩ [(x, u)]) : KBinds K fd [x] [x] (fun us ws => us ++ ws) (fun vs zs => vs ++ zs) := by
  refine ⟨fun s us ws _ hl => ?_, fun a b => a.append b⟩
  match us, ws, hl with
  | [u], [], _ => exact kb1 s u
  | [], [u], _ => exact kb2 s u
  | [], [], hl => cases hl
  | _ :: _ :: _, _, hl => simp at hl
  | [_], _ :: _, hl => simp at hl
  | [], _ :: _ :: _, hl => simp at hl
theorem js_binds {K : PySem.W.Frag} {f : Addr} {fd : FuncData} (F : FunD K "joined_size" "joined_size" (defArgs sJSize) (defBody sJSize) (defScope sJSize) [.non] [] f fd) : L2.Binds K fd ["space", "sizes", "bound"] [] := by
  obtain ⟨ds, v, b⟩ := F.binds1 (ps := ["space", "sizes", "bound"]) 3 1 (by simp) rfl fun T kV doc pm an cdv ct us its h1 h2 => match us, its, h1, h2 with
    | [_, _, _], [_], _, _ => ⟨_, rfl, rfl⟩
  have v' : Vals [] ds := v
  cases v'
  exact b
theorem def_mk {K : PySem.W.Frag} {h : Heap} {mg : Str → Option Value} {x : Str} {st : Stmt} {ps : List Str} {f : Addr} {oc : Value} {od an : Option Addr} {osl : Array (Option Value)} {kV doc pm cdv ct : Value} (X : K.In h) (G : h.Ns mainGlobals mg)
    (a : PySem.W.nsIn K mainGlobals x = some (some (.ref f))) (l : K.lookup f = some ⟨oc, od, .func (PySem.W.fnOf x x (defArgs st) (defBody st) (defScope st) .none kV doc pm an cdv ct), osl⟩) (c : PySem.W.codeIn K cdv x = true) (k : PySem.W.keepIn K (.ref f) = true)
    (hb : ∀ (kV doc pm : Value) (an : Option Addr) (cdv ct : Value) (us : List Value), us.length = ps.length → bindArgs (PySem.W.fnOf x x (defArgs st) (defBody st) (defScope st) .none kV doc pm an cdv ct) ⟨us, []⟩ = pure (ps.zip us)) :
    DefOk K mg x st ps f (PySem.W.fnOf x x (defArgs st) (defBody st) (defScope st) .none kV doc pm an cdv ct) := ⟨fun_mk l c k, (fun_mk l c k).binds hb, PySem.W.mg_of X G a⟩
theorem all_mk {l : PySem.W.OpenLaw} {w : World} {K : PySem.W.Frag} {h : Heap} {mg : Str → Option Value} {fa fM fJ dL dC dS : Addr} {dM dJ : FuncData} {f_raise f_multi f_moved f_isint f_btw f_name f_tup f_asc f_auto f_moves f_move f_state f_states f_countstr f_moveon f_order f_ord f_names f_osize f_well f_nested f_part f_subset f_word f_counts f_count f_arr f_walk f_cycle f_matching f_perm f_tree f_string f_row f_power f_deco f_jleaves f_repeat f_subsize f_wordsize f_arrsize f_walksize f_step f_cycsize f_matsize f_permsize f_treesize f_strsize f_space f_measure f_sizeof f_ldeck f_ldraw f_lpick f_lint f_lname f_lrises f_lchoose f_lword f_lperm f_lleafsize f_lnames f_lcounts f_lleaf f_lbound f_lproduct f_lnested f_lmeasure f_lspace f_ldeep f_lwide f_lvast f_lvalid f_linvalid f_lright f_llaw : Addr} {d_raise d_multi d_moved d_isint d_btw d_name d_tup d_asc d_auto d_moves d_move d_state d_states d_countstr d_moveon d_order d_ord d_names d_osize d_well d_nested d_part d_subset d_word d_counts d_count d_arr d_walk d_cycle d_matching d_perm d_tree d_string d_row d_power d_deco d_jleaves d_repeat d_subsize d_wordsize d_arrsize d_walksize d_step d_cycsize d_matsize d_permsize d_treesize d_strsize d_space d_measure d_sizeof d_ldeck d_ldraw d_lpick d_lint d_lname d_lrises d_lchoose d_lword d_lperm d_lleafsize d_lnames d_lcounts d_lleaf d_lbound d_lproduct d_lnested d_lmeasure d_lspace d_ldeep d_lwide d_lvast d_lvalid d_linvalid d_lright d_llaw : FuncData} {u0 u1 u2 u3 u4 u5 u6 u7 u8 u9 u10 u11 u12 v0 v1 v2 v3 v4 v5 v6 v7 v8 v9 v10 v11 v12 : Tok} {esL esC esS : Array DictEntry} {mL mC mS : Nat} (X : K.In h) (G : h.Ns mainGlobals mg) (hfa : mg "law" = some (.ref fa))
    (n0 : PySem.W.nsIn K mainGlobals "isinstance" = some none)
    (n1 : PySem.W.nsIn K mainGlobals "int" = some none)
    (n2 : PySem.W.nsIn K mainGlobals "bool" = some none)
    (n3 : PySem.W.nsIn K mainGlobals "str" = some none)
    (n4 : PySem.W.nsIn K mainGlobals "tuple" = some none)
    (n5 : PySem.W.nsIn K mainGlobals "len" = some none)
    (n6 : PySem.W.nsIn K mainGlobals "all" = some none)
    (n7 : PySem.W.nsIn K mainGlobals "zip" = some none)
    (n8 : PySem.W.nsIn K mainGlobals "sum" = some none)
    (n9 : PySem.W.nsIn K mainGlobals "set" = some none)
    (n10 : PySem.W.nsIn K mainGlobals "range" = some none)
    (c0 : PySem.W.nsIn K mainGlobals "MOST_PLACES" = some (some (.int 400 u0)))
    (c1 : PySem.W.nsIn K mainGlobals "MOST_STEPS" = some (some (.int 60 u1)))
    (c2 : PySem.W.nsIn K mainGlobals "MOST_PAIRS" = some (some (.int 200 u2)))
    (c3 : PySem.W.nsIn K mainGlobals "HIGHEST" = some (some (.int 60 u3)))
    (c4 : PySem.W.nsIn K mainGlobals "MOST_LETTERS" = some (some (.int 6 u4)))
    (c5 : PySem.W.nsIn K mainGlobals "MOST_MOVES" = some (some (.int 48 u5)))
    (c6 : PySem.W.nsIn K mainGlobals "LAST_STATE" = some (some (.int 7 u6)))
    (c7 : PySem.W.nsIn K mainGlobals "MOST_NESTED" = some (some (.int 6 u7)))
    (c8 : PySem.W.nsIn K mainGlobals "DEEPEST" = some (some (.int 6 u8)))
    (c9 : PySem.W.nsIn K mainGlobals "MOST_PARTS" = some (some (.int 40 u9)))
    (c10 : PySem.W.nsIn K mainGlobals "LONGEST_NAME" = some (some (.int 6 u10)))
    (c11 : PySem.W.nsIn K mainGlobals "DIGITS" = some (some (.int 4000 u11)))
    (c12 : PySem.W.nsIn K mainGlobals "LEAVES" = some (some (.int 2000 u12)))
    (z0 : PySem.W.nsIn K mainGlobals "list" = some none)
    (z1 : PySem.W.nsIn K mainGlobals "max" = some none)
    (z2 : PySem.W.nsIn K mainGlobals "sorted" = some none)
    (z3 : PySem.W.nsIn K mainGlobals "repr" = some none)
    (e1 : PySem.W.nsIn K mainGlobals "comb" = some (some (.builtin "math.comb")))
    (e2 : PySem.W.nsIn K mainGlobals "factorial" = some (some (.builtin "math.factorial")))
    (eS : PySem.W.nsIn K cStatics "sys.int_max_str_digits" = some none)
    (o_raise : DefOk K mg "raise_to" sRaise ["base", "exponent"] f_raise d_raise)
    (o_multi : DefOk K mg "multinomial" sMulti ["counts"] f_multi d_multi)
    (o_moved : DefOk K mg "count_moved" sMoved ["n", "moved"] f_moved d_moved)
    (o_isint : DefOk K mg "is_integer" sIsInt ["value"] f_isint d_isint)
    (o_btw : DefOk K mg "is_between" sBtw ["value", "low", "high"] f_btw d_btw)
    (o_name : DefOk K mg "is_name" sName ["value"] f_name d_name)
    (o_tup : DefOk K mg "is_tuple" sTup ["value", "least", "most"] f_tup d_tup)
    (o_asc : DefOk K mg "is_ascending" sAsc ["items"] f_asc d_asc)
    (o_auto : DefOk K mg "is_automaton" sAuto ["value"] f_auto d_auto)
    (o_moves : DefOk K mg "are_moves" sMoves ["moves"] f_moves d_moves)
    (o_move : DefOk K mg "is_move" sIsMove ["move"] f_move d_move)
    (o_state : DefOk K mg "is_state" sIsState ["value"] f_state d_state)
    (o_states : DefOk K mg "are_states" sAreStates ["value"] f_states d_states)
    (o_countstr : DefOk K mg "count_strings" sCountStr ["automaton", "n"] f_countstr d_countstr)
    (o_moveon : DefOk K mg "move_on" sMoveOn ["moves", "ways"] f_moveon d_moveon)
    (o_order : DefOk K mg "is_order" sIsOrder ["value"] f_order d_order)
    (o_ord : DefOk K mg "has_order_form" sOrd ["value", "depth"] f_ord d_ord)
    (o_names : DefOk K mg "names_of" sNames ["order"] f_names d_names)
    (o_osize : DefOk K mg "order_size" sOSize ["order"] f_osize d_osize)
    (o_well : DefOk K mg "is_well_formed" sWell ["value"] f_well d_well)
    (o_nested : DefOk K mg "nested_spaces" sNested ["space"] f_nested d_nested)
    (o_part : DefOk K mg "is_part" sPart ["value"] f_part d_part)
    (o_subset : DefOk K mg "is_subset" sSubset ["space"] f_subset d_subset)
    (o_word : DefOk K mg "is_word" sWord ["space"] f_word d_word)
    (o_counts : DefOk K mg "are_counts" sCounts ["counts"] f_counts d_counts)
    (o_count : DefOk K mg "is_count" sIsCount ["pair"] f_count d_count)
    (o_arr : DefOk K mg "is_arrangement" sArr ["space"] f_arr d_arr)
    (o_walk : DefOk K mg "is_walk" sWalk ["space"] f_walk d_walk)
    (o_cycle : DefOk K mg "is_cycle" sCycle ["space"] f_cycle d_cycle)
    (o_matching : DefOk K mg "is_matching" sMatching ["space"] f_matching d_matching)
    (o_perm : DefOk K mg "is_permutation" sPerm ["space"] f_perm d_perm)
    (o_tree : DefOk K mg "is_tree" sTree ["space"] f_tree d_tree)
    (o_string : DefOk K mg "is_string" sString ["space"] f_string d_string)
    (o_row : DefOk K mg "is_row" sRow ["space"] f_row d_row)
    (o_power : DefOk K mg "is_power" sPower ["space"] f_power d_power)
    (o_deco : DefOk K mg "is_decorated" sDeco ["space"] f_deco d_deco)
    (o_jleaves : DefOk K mg "joined_leaves" sJLeaves ["space", "leaves"] f_jleaves d_jleaves)
    (o_repeat : DefOk K mg "repeated" sRepeat ["counts", "items"] f_repeat d_repeat)
    (o_subsize : DefOk K mg "subset_size" sSubSize ["space"] f_subsize d_subsize)
    (o_wordsize : DefOk K mg "word_size" sWordSize ["space"] f_wordsize d_wordsize)
    (o_arrsize : DefOk K mg "arrangement_size" sArrSize ["space"] f_arrsize d_arrsize)
    (o_walksize : DefOk K mg "walk_size" sWalkSize ["space"] f_walksize d_walksize)
    (o_step : DefOk K mg "step_on" sStep ["ways", "low", "high"] f_step d_step)
    (o_cycsize : DefOk K mg "cycle_size" sCycSize ["space"] f_cycsize d_cycsize)
    (o_matsize : DefOk K mg "matching_size" sMatSize ["space"] f_matsize d_matsize)
    (o_permsize : DefOk K mg "permutation_size" sPermSize ["space"] f_permsize d_permsize)
    (o_treesize : DefOk K mg "tree_size" sTreeSize ["space"] f_treesize d_treesize)
    (o_strsize : DefOk K mg "string_size" sStrSize ["space"] f_strsize d_strsize)
    (o_space : DefOk K mg "is_space" s_is_space ["value"] f_space d_space)
    (o_measure : DefOk K mg "measure" sMeasure ["space", "bound"] f_measure d_measure)
    (o_sizeof : DefOk K mg "size_of" sSizeOf ["space"] f_sizeof d_sizeof)
    (o_ldeck : DefOk K mg "_law_deck" sDeck ["_law_script"] f_ldeck d_ldeck)
    (o_ldraw : DefOk K mg "_law_draw" sDraw ["_law_deck_here", "_law_bound_here"] f_ldraw d_ldraw)
    (o_lpick : DefOk K mg "_law_pick" sPick ["_law_deck_here", "_law_items"] f_lpick d_lpick)
    (o_lint : DefOk K mg "_law_is_int" s_is_int ["_law_thing", "_law_low", "_law_high"] f_lint d_lint)
    (o_lname : DefOk K mg "_law_is_name" s_is_name ["_law_thing"] f_lname d_lname)
    (o_lrises : DefOk K mg "_law_rises" s_rises ["_law_items"] f_lrises d_lrises)
    (o_lchoose : DefOk K mg "_law_choose" s_choose ["_law_n", "_law_k"] f_lchoose d_lchoose)
    (o_lword : DefOk K mg "_law_word_size" s_word_size ["_law_counts_here"] f_lword d_lword)
    (o_lperm : DefOk K mg "_law_permutation_size" s_permutation_size ["_law_thing"] f_lperm d_lperm)
    (o_lleafsize : DefOk K mg "_law_leaf_size" s_leaf_size ["_law_thing"] f_lleafsize d_lleafsize)
    (o_lnames : DefOk K mg "_law_names" s_names ["_law_deck_here", "_law_many"] f_lnames d_lnames)
    (o_lcounts : DefOk K mg "_law_counts" s_counts ["_law_deck_here", "_law_total"] f_lcounts d_lcounts)
    (o_lleaf : DefOk K mg "_law_leaf" s_leaf ["_law_deck_here", "_law_large"] f_lleaf d_lleaf)
    (o_lbound : DefOk K mg "_law_bound" s_bound [] f_lbound d_lbound)
    (o_lproduct : DefOk K mg "_law_product" s_product ["_law_factors"] f_lproduct d_lproduct)
    (o_lnested : DefOk K mg "_law_nested" s_nested ["_law_thing"] f_lnested d_lnested)
    (o_lmeasure : DefOk K mg "_law_measure" s_measure ["_law_thing", "_law_depth"] f_lmeasure d_lmeasure)
    (o_lspace : DefOk K mg "_law_nested_space" s_space ["_law_deck_here", "_law_depth"] f_lspace d_lspace)
    (o_ldeep : DefOk K mg "_law_deep" s_deep ["_law_depth"] f_ldeep d_ldeep)
    (o_lwide : DefOk K mg "_law_wide" s_wide ["_law_more"] f_lwide d_lwide)
    (o_lvast : DefOk K mg "_law_vast" s_vast [] f_lvast d_lvast)
    (o_lvalid : DefOk K mg "_law_valid" s_valid [] f_lvalid d_lvalid)
    (o_linvalid : DefOk K mg "_law_invalid" s_invalid [] f_linvalid d_linvalid)
    (o_lright : DefOk K mg "_law_right" s_right ["_law_thing"] f_lright d_lright)
    (o_llaw : DefOk K mg "law" s_law ["_law_script"] f_llaw d_llaw)
    (FM : FunD K "multiply" "multiply" (defArgs sMul) (defBody sMul) (defScope sMul) [.non] [] fM dM)
    (gM : PySem.W.nsIn K mainGlobals "multiply" = some (some (.ref fM)))
    (FJ : FunD K "joined_size" "joined_size" (defArgs sJSize) (defBody sJSize) (defScope sJSize) [.non] [] fJ dJ)
    (gJ : PySem.W.nsIn K mainGlobals "joined_size" = some (some (.ref fJ)))
    (gL : PySem.W.nsIn K mainGlobals "LENGTHS" = some (some (.ref dL)))
    (aL : K.lookup dL = some ⟨.type "dict", none, .dict esL mL, #[]⟩)
    (kL : PySem.W.KeysLit w.params esL.toList)
    (wL : (dL == sysModules) = false)
    (gC : PySem.W.nsIn K mainGlobals "CHECKS" = some (some (.ref dC)))
    (aC : K.lookup dC = some ⟨.type "dict", none, .dict esC mC, #[]⟩)
    (kC : PySem.W.KeysLit w.params esC.toList)
    (wC : (dC == sysModules) = false)
    (gS : PySem.W.nsIn K mainGlobals "LEAF_SIZES" = some (some (.ref dS)))
    (aS : K.lookup dS = some ⟨.type "dict", none, .dict esS mS, #[]⟩)
    (kS : PySem.W.KeysLit w.params esS.toList)
    (wS : (dS == sysModules) = false)
    (kk : esL.toList.map keyS = (["subset", "word", "arrangement", "walk", "cycle", "matching", "permutation", "tree", "string", "product", "choice", "power", "decorated"] : List Str).map some)
    (l0 : PySem.W.nsIn K dL "subset" = some (some (.int 3 v0)))
    (l1 : PySem.W.nsIn K dL "word" = some (some (.int 2 v1)))
    (l2 : PySem.W.nsIn K dL "arrangement" = some (some (.int 2 v2)))
    (l3 : PySem.W.nsIn K dL "walk" = some (some (.int 6 v3)))
    (l4 : PySem.W.nsIn K dL "cycle" = some (some (.int 2 v4)))
    (l5 : PySem.W.nsIn K dL "matching" = some (some (.int 2 v5)))
    (l6 : PySem.W.nsIn K dL "permutation" = some (some (.int 3 v6)))
    (l7 : PySem.W.nsIn K dL "tree" = some (some (.int 2 v7)))
    (l8 : PySem.W.nsIn K dL "string" = some (some (.int 3 v8)))
    (l9 : PySem.W.nsIn K dL "product" = some (some (.int 2 v9)))
    (l10 : PySem.W.nsIn K dL "choice" = some (some (.int 2 v10)))
    (l11 : PySem.W.nsIn K dL "power" = some (some (.int 3 v11)))
    (l12 : PySem.W.nsIn K dL "decorated" = some (some (.int 3 v12)))
    (r0 : PySem.W.nsIn K dC "subset" = some (some (.ref f_subset)))
    (r1 : PySem.W.nsIn K dC "word" = some (some (.ref f_word)))
    (r2 : PySem.W.nsIn K dC "arrangement" = some (some (.ref f_arr)))
    (r3 : PySem.W.nsIn K dC "walk" = some (some (.ref f_walk)))
    (r4 : PySem.W.nsIn K dC "cycle" = some (some (.ref f_cycle)))
    (r5 : PySem.W.nsIn K dC "matching" = some (some (.ref f_matching)))
    (r6 : PySem.W.nsIn K dC "permutation" = some (some (.ref f_perm)))
    (r7 : PySem.W.nsIn K dC "tree" = some (some (.ref f_tree)))
    (r8 : PySem.W.nsIn K dC "string" = some (some (.ref f_string)))
    (r9 : PySem.W.nsIn K dC "product" = some (some (.ref f_row)))
    (r10 : PySem.W.nsIn K dC "choice" = some (some (.ref f_row)))
    (r11 : PySem.W.nsIn K dC "power" = some (some (.ref f_power)))
    (r12 : PySem.W.nsIn K dC "decorated" = some (some (.ref f_deco)))
    (s0 : PySem.W.nsIn K dS "subset" = some (some (.ref f_subsize)))
    (s1 : PySem.W.nsIn K dS "word" = some (some (.ref f_wordsize)))
    (s2 : PySem.W.nsIn K dS "arrangement" = some (some (.ref f_arrsize)))
    (s3 : PySem.W.nsIn K dS "walk" = some (some (.ref f_walksize)))
    (s4 : PySem.W.nsIn K dS "cycle" = some (some (.ref f_cycsize)))
    (s5 : PySem.W.nsIn K dS "matching" = some (some (.ref f_matsize)))
    (s6 : PySem.W.nsIn K dS "permutation" = some (some (.ref f_permsize)))
    (s7 : PySem.W.nsIn K dS "tree" = some (some (.ref f_treesize)))
    (s8 : PySem.W.nsIn K dS "string" = some (some (.ref f_strsize)))
    (ndK : ((sps f_subset f_word f_arr f_walk f_cycle f_matching f_perm f_tree f_string f_row f_power f_deco).map (·.1)).Nodup)
    (ndS : ((szs f_subsize f_wordsize f_arrsize f_walksize f_cycsize f_matsize f_permsize f_treesize f_strsize).map (·.1)).Nodup)
    (kb1 : ∀ (s : Shared) (u : Value), BindsTo s d_space ⟨[u], []⟩ [("value", u)])
    (kb2 : ∀ (s : Shared) (u : Value), BindsTo s d_space ⟨[], [("value", u)]⟩ [("value", u)])
    (kz1 : ∀ (s : Shared) (u : Value), BindsTo s d_sizeof ⟨[u], []⟩ [("space", u)])
    (kz2 : ∀ (s : Shared) (u : Value), BindsTo s d_sizeof ⟨[], [("space", u)]⟩ [("space", u)])
    (hbind : ∀ (s : Shared) (u : Value), BindsTo s d_llaw ⟨[u], []⟩ [("_law_script", u)]) :
    ∃ fd : FuncData, (∀ (s : Shared) (u : Value), BindsTo s fd ⟨[u], []⟩ [("_law_script", u)]) ∧ ∀ base : Heap, K.In base → base.Ns mainGlobals mg → FnG l.prog w K mg base 20 fa fd ["_law_script"] (spLaw K) := by
  have e := hfa.symm.trans o_llaw.g
  cases e
  have nm : Nm mg := ⟨PySem.W.mg_none_of X G n0, PySem.W.mg_none_of X G n1, PySem.W.mg_none_of X G n2, PySem.W.mg_none_of X G n3, PySem.W.mg_none_of X G n4, PySem.W.mg_none_of X G n5, PySem.W.mg_none_of X G n6, PySem.W.mg_none_of X G n7, PySem.W.mg_none_of X G n8, PySem.W.mg_none_of X G n9, PySem.W.mg_none_of X G n10⟩
  have Z : Cst mg := ⟨⟨_, PySem.W.mg_of X G c0⟩, ⟨_, PySem.W.mg_of X G c1⟩, ⟨_, PySem.W.mg_of X G c2⟩, ⟨_, PySem.W.mg_of X G c3⟩, ⟨_, PySem.W.mg_of X G c4⟩, ⟨_, PySem.W.mg_of X G c5⟩, ⟨_, PySem.W.mg_of X G c6⟩, ⟨_, PySem.W.mg_of X G c7⟩, ⟨_, PySem.W.mg_of X G c8⟩, ⟨_, PySem.W.mg_of X G c9⟩, ⟨_, PySem.W.mg_of X G c10⟩, ⟨_, PySem.W.mg_of X G c11⟩, ⟨_, PySem.W.mg_of X G c12⟩⟩
  have t0 : mg "list" = none := PySem.W.mg_none_of X G z0
  have t1 : mg "max" = none := PySem.W.mg_none_of X G z1
  have t3 : mg "sorted" = none := PySem.W.mg_none_of X G z2
  have t4 : mg "repr" = none := PySem.W.mg_none_of X G z3
  have hc1 := PySem.W.mg_of X G e1
  have hc2 := PySem.W.mg_of X G e2
  have KL : ∃ es n, KDict K w dL es n := ⟨_, _, aL, kL, wL⟩
  have KC : ∃ es n, KDict K w dC es n := ⟨_, _, aC, kC, wC⟩
  have KS : ∃ es n, KDict K w dS es n := ⟨_, _, aS, kS, wS⟩
  have ml : ∀ z, z ∉ (tbl f_subset f_word f_arr f_walk f_cycle f_matching f_perm f_tree f_string f_row f_power f_deco).map (·.1) → PySem.W.nsIn K dL z = some none := fun z hz => nsIn_miss aL _ kk hz
  have hL : ∀ q ∈ tbl f_subset f_word f_arr f_walk f_cycle f_matching f_perm f_tree f_string f_row f_power f_deco, ∃ t, PySem.W.nsIn K dL q.1 = some (some (.int q.2.len t)) := tbl_all (Q := fun z n _ => ∃ t, PySem.W.nsIn K dL z = some (some (.int n t))) ⟨_, l0⟩ ⟨_, l1⟩ ⟨_, l2⟩ ⟨_, l3⟩ ⟨_, l4⟩ ⟨_, l5⟩ ⟨_, l6⟩ ⟨_, l7⟩ ⟨_, l8⟩ ⟨_, l9⟩ ⟨_, l10⟩ ⟨_, l11⟩ ⟨_, l12⟩
  have hC : ∀ q ∈ tbl f_subset f_word f_arr f_walk f_cycle f_matching f_perm f_tree f_string f_row f_power f_deco, PySem.W.nsIn K dC q.1 = some (some (.ref q.2.f)) := tbl_all (Q := fun z _ f => PySem.W.nsIn K dC z = some (some (.ref f))) r0 r1 r2 r3 r4 r5 r6 r7 r8 r9 r10 r11 r12
  have bM := mul_binds FM
  have bJ := js_binds FJ
  have bJ2 := js_binds2 FJ
  have W : ∀ base : Heap, FnOk l.prog w K mg base CX0 12 f_well d_well ["value"] (spP isWf) := well_mk nm Z o_isint o_btw o_tup o_name o_asc o_auto o_moves o_move o_state o_states o_order o_ord o_names o_well o_nested o_part o_subset o_word o_arr o_walk o_cycle o_matching o_perm o_tree o_string o_row o_power o_deco o_counts o_count (PySem.W.mg_of X G gL) (PySem.W.mg_of X G gC) KL KC ml hL hC ndK
  have M : ∀ base : Heap, FnOk l.prog w K mg base CX0 17 f_measure d_measure ["space", "bound"] (spMeas 6) ∧ FnOk l.prog w K mg base CX0 17 f_sizeof d_sizeof ["space"] (spSzOf 6) := measure_mk nm Z t0 t1 hc1 hc2 o_subsize o_wordsize o_arrsize o_walksize o_cycsize o_matsize o_permsize o_treesize o_strsize o_raise o_multi o_moved o_names o_osize o_step o_moveon o_countstr o_nested o_measure o_jleaves o_repeat o_sizeof FJ bJ (PySem.W.mg_of X G gJ) ⟨fM, dM, FM, bM, PySem.W.mg_of X G gM⟩ (mul_binds2 FM) (PySem.W.mg_of X G gS) KS ndS s0 s1 s2 s3 s4 s5 s6 s7 s8 bJ2
  have S : ∀ base : Heap, FnOk l.prog w K mg base CX0 18 f_space d_space ["value"] spSpace := fun base => ok_space o_space.F Z o_well (W base) o_measure (M base).1 o_raise
  have LS : ∀ base : Heap, FnOk l.prog w K mg base CX0 9 f_lleafsize d_lleafsize ["_law_thing"] (spOptTZ leaf6 leafZ) := leafsize_mk nm t0 t1 o_lint o_lname o_lrises o_lchoose o_lword o_lperm o_lleafsize
  have LM : ∀ base : Heap, FnOk l.prog w K mg base CX0 16 f_lmeasure d_lmeasure ["_law_thing", "_law_depth"] (spLM 6) := lmeasure_mk nm o_lint o_lname o_lchoose o_lword o_lleafsize o_lbound o_lproduct o_lnested o_lmeasure LS
  exact ⟨d_llaw, hbind, fun base _ _ => law_mk nm t0 t1 t3 t4 eS o_ldeck o_ldraw o_lpick o_lmeasure o_lnames o_lcounts o_lleaf o_lspace o_ldeep o_lwide o_lvast o_lvalid o_linvalid o_lright o_llaw o_space o_sizeof LM S (fun base => (M base).2) (kb_mk kb1 kb2) (kb_mk kz1 kz2) base⟩
theorem law_sp (K : PySem.W.Frag) (H : Hp) (a : Addr) (ns : List Int) (hl : ns.length ≤ 63) (_ : Only H) (hS : SqL K H a (ns.map V.int)) : spLaw K [.ref a] H (fun v _ => v = .bl true) fun _ _ _ => False := ⟨a, ns, rfl, hS, hl, fun _ => rfl⟩
end K3
open PySem PySem.W PyProof.Rows
set_option maxRecDepth 100000 in
set_option maxHeartbeats 0 in
theorem PySem.Challenge.cw_undrawn_k03_nested_spaces_of_any_value_holds : PySem.Challenge.rw_undrawn_k03_nested_spaces_of_any_value.Holds := by
  w_on; o_law; k_head; (case hw => w_witness2)
  k_fill
  refine L2.walk_G (l := PySem.Challenge.rw_undrawn_k03_nested_spaces_of_any_value) (n := 63) (k := 20) (x := "_law_script") (sp := K3.spLaw) rfl (by decide) rfl ⟨rfl, by decide, by decide⟩ (fun w h Y => PySem.W.kIn_of Y) ?F K3.law_sp
  case F =>
    intro w mg fa h KX G hmg
    refine' K3.all_mk KX G hmg ?n0 ?n1 ?n2 ?n3 ?n4 ?n5 ?n6 ?n7 ?n8 ?n9 ?n10 ?c0 ?c1 ?c2 ?c3 ?c4 ?c5 ?c6 ?c7 ?c8 ?c9 ?c10 ?c11 ?c12 ?z0 ?z1 ?z2 ?z3 ?e1 ?e2 ?eS ?o_raise ?o_multi ?o_moved ?o_isint ?o_btw ?o_name ?o_tup ?o_asc ?o_auto ?o_moves ?o_move ?o_state ?o_states ?o_countstr ?o_moveon ?o_order ?o_ord ?o_names ?o_osize ?o_well ?o_nested ?o_part ?o_subset ?o_word ?o_counts ?o_count ?o_arr ?o_walk ?o_cycle ?o_matching ?o_perm ?o_tree ?o_string ?o_row ?o_power ?o_deco ?o_jleaves ?o_repeat ?o_subsize ?o_wordsize ?o_arrsize ?o_walksize ?o_step ?o_cycsize ?o_matsize ?o_permsize ?o_treesize ?o_strsize ?o_space ?o_measure ?o_sizeof ?o_ldeck ?o_ldraw ?o_lpick ?o_lint ?o_lname ?o_lrises ?o_lchoose ?o_lword ?o_lperm ?o_lleafsize ?o_lnames ?o_lcounts ?o_lleaf ?o_lbound ?o_lproduct ?o_lnested ?o_lmeasure ?o_lspace ?o_ldeep ?o_lwide ?o_lvast ?o_lvalid ?o_linvalid ?o_lright ?o_llaw ?FM ?gM ?FJ ?gJ ?gL ?aL ?kL ?wL ?gC ?aC ?kC ?wC ?gS ?aS ?kS ?wS ?kk ?l0 ?l1 ?l2 ?l3 ?l4 ?l5 ?l6 ?l7 ?l8 ?l9 ?l10 ?l11 ?l12 ?r0 ?r1 ?r2 ?r3 ?r4 ?r5 ?r6 ?r7 ?r8 ?r9 ?r10 ?r11 ?r12 ?s0 ?s1 ?s2 ?s3 ?s4 ?s5 ?s6 ?s7 ?s8 ?ndK ?ndS ?kb1 ?kb2 ?kz1 ?kz2 ?hbind
    (case n0 => k_is)
    (case n1 => k_is)
    (case n2 => k_is)
    (case n3 => k_is)
    (case n4 => k_is)
    (case n5 => k_is)
    (case n6 => k_is)
    (case n7 => k_is)
    (case n8 => k_is)
    (case n9 => k_is)
    (case n10 => k_is)
    (case c0 => k_is)
    (case c1 => k_is)
    (case c2 => k_is)
    (case c3 => k_is)
    (case c4 => k_is)
    (case c5 => k_is)
    (case c6 => k_is)
    (case c7 => k_is)
    (case c8 => k_is)
    (case c9 => k_is)
    (case c10 => k_is)
    (case c11 => k_is)
    (case c12 => k_is)
    (case z0 => k_is)
    (case z1 => k_is)
    (case z2 => k_is)
    (case z3 => k_is)
    (case e1 => k_is)
    (case e2 => k_is)
    (case eS => k_is)
    (case o_raise => refine' K3.def_mk KX G ?a ?l ?c ?k (fun _ _ _ _ _ _ us hl => match us, hl with | [_, _], _ => rfl); (case a => k_is); (case l => k_is); (case c => k_is); (case k => k_is))
    (case o_multi => refine' K3.def_mk KX G ?a ?l ?c ?k (fun _ _ _ _ _ _ us hl => match us, hl with | [_], _ => rfl); (case a => k_is); (case l => k_is); (case c => k_is); (case k => k_is))
    (case o_moved => refine' K3.def_mk KX G ?a ?l ?c ?k (fun _ _ _ _ _ _ us hl => match us, hl with | [_, _], _ => rfl); (case a => k_is); (case l => k_is); (case c => k_is); (case k => k_is))
    (case o_isint => refine' K3.def_mk KX G ?a ?l ?c ?k (fun _ _ _ _ _ _ us hl => match us, hl with | [_], _ => rfl); (case a => k_is); (case l => k_is); (case c => k_is); (case k => k_is))
    (case o_btw => refine' K3.def_mk KX G ?a ?l ?c ?k (fun _ _ _ _ _ _ us hl => match us, hl with | [_, _, _], _ => rfl); (case a => k_is); (case l => k_is); (case c => k_is); (case k => k_is))
    (case o_name => refine' K3.def_mk KX G ?a ?l ?c ?k (fun _ _ _ _ _ _ us hl => match us, hl with | [_], _ => rfl); (case a => k_is); (case l => k_is); (case c => k_is); (case k => k_is))
    (case o_tup => refine' K3.def_mk KX G ?a ?l ?c ?k (fun _ _ _ _ _ _ us hl => match us, hl with | [_, _, _], _ => rfl); (case a => k_is); (case l => k_is); (case c => k_is); (case k => k_is))
    (case o_asc => refine' K3.def_mk KX G ?a ?l ?c ?k (fun _ _ _ _ _ _ us hl => match us, hl with | [_], _ => rfl); (case a => k_is); (case l => k_is); (case c => k_is); (case k => k_is))
    (case o_auto => refine' K3.def_mk KX G ?a ?l ?c ?k (fun _ _ _ _ _ _ us hl => match us, hl with | [_], _ => rfl); (case a => k_is); (case l => k_is); (case c => k_is); (case k => k_is))
    (case o_moves => refine' K3.def_mk KX G ?a ?l ?c ?k (fun _ _ _ _ _ _ us hl => match us, hl with | [_], _ => rfl); (case a => k_is); (case l => k_is); (case c => k_is); (case k => k_is))
    (case o_move => refine' K3.def_mk KX G ?a ?l ?c ?k (fun _ _ _ _ _ _ us hl => match us, hl with | [_], _ => rfl); (case a => k_is); (case l => k_is); (case c => k_is); (case k => k_is))
    (case o_state => refine' K3.def_mk KX G ?a ?l ?c ?k (fun _ _ _ _ _ _ us hl => match us, hl with | [_], _ => rfl); (case a => k_is); (case l => k_is); (case c => k_is); (case k => k_is))
    (case o_states => refine' K3.def_mk KX G ?a ?l ?c ?k (fun _ _ _ _ _ _ us hl => match us, hl with | [_], _ => rfl); (case a => k_is); (case l => k_is); (case c => k_is); (case k => k_is))
    (case o_countstr => refine' K3.def_mk KX G ?a ?l ?c ?k (fun _ _ _ _ _ _ us hl => match us, hl with | [_, _], _ => rfl); (case a => k_is); (case l => k_is); (case c => k_is); (case k => k_is))
    (case o_moveon => refine' K3.def_mk KX G ?a ?l ?c ?k (fun _ _ _ _ _ _ us hl => match us, hl with | [_, _], _ => rfl); (case a => k_is); (case l => k_is); (case c => k_is); (case k => k_is))
    (case o_order => refine' K3.def_mk KX G ?a ?l ?c ?k (fun _ _ _ _ _ _ us hl => match us, hl with | [_], _ => rfl); (case a => k_is); (case l => k_is); (case c => k_is); (case k => k_is))
    (case o_ord => refine' K3.def_mk KX G ?a ?l ?c ?k (fun _ _ _ _ _ _ us hl => match us, hl with | [_, _], _ => rfl); (case a => k_is); (case l => k_is); (case c => k_is); (case k => k_is))
    (case o_names => refine' K3.def_mk KX G ?a ?l ?c ?k (fun _ _ _ _ _ _ us hl => match us, hl with | [_], _ => rfl); (case a => k_is); (case l => k_is); (case c => k_is); (case k => k_is))
    (case o_osize => refine' K3.def_mk KX G ?a ?l ?c ?k (fun _ _ _ _ _ _ us hl => match us, hl with | [_], _ => rfl); (case a => k_is); (case l => k_is); (case c => k_is); (case k => k_is))
    (case o_well => refine' K3.def_mk KX G ?a ?l ?c ?k (fun _ _ _ _ _ _ us hl => match us, hl with | [_], _ => rfl); (case a => k_is); (case l => k_is); (case c => k_is); (case k => k_is))
    (case o_nested => refine' K3.def_mk KX G ?a ?l ?c ?k (fun _ _ _ _ _ _ us hl => match us, hl with | [_], _ => rfl); (case a => k_is); (case l => k_is); (case c => k_is); (case k => k_is))
    (case o_part => refine' K3.def_mk KX G ?a ?l ?c ?k (fun _ _ _ _ _ _ us hl => match us, hl with | [_], _ => rfl); (case a => k_is); (case l => k_is); (case c => k_is); (case k => k_is))
    (case o_subset => refine' K3.def_mk KX G ?a ?l ?c ?k (fun _ _ _ _ _ _ us hl => match us, hl with | [_], _ => rfl); (case a => k_is); (case l => k_is); (case c => k_is); (case k => k_is))
    (case o_word => refine' K3.def_mk KX G ?a ?l ?c ?k (fun _ _ _ _ _ _ us hl => match us, hl with | [_], _ => rfl); (case a => k_is); (case l => k_is); (case c => k_is); (case k => k_is))
    (case o_counts => refine' K3.def_mk KX G ?a ?l ?c ?k (fun _ _ _ _ _ _ us hl => match us, hl with | [_], _ => rfl); (case a => k_is); (case l => k_is); (case c => k_is); (case k => k_is))
    (case o_count => refine' K3.def_mk KX G ?a ?l ?c ?k (fun _ _ _ _ _ _ us hl => match us, hl with | [_], _ => rfl); (case a => k_is); (case l => k_is); (case c => k_is); (case k => k_is))
    (case o_arr => refine' K3.def_mk KX G ?a ?l ?c ?k (fun _ _ _ _ _ _ us hl => match us, hl with | [_], _ => rfl); (case a => k_is); (case l => k_is); (case c => k_is); (case k => k_is))
    (case o_walk => refine' K3.def_mk KX G ?a ?l ?c ?k (fun _ _ _ _ _ _ us hl => match us, hl with | [_], _ => rfl); (case a => k_is); (case l => k_is); (case c => k_is); (case k => k_is))
    (case o_cycle => refine' K3.def_mk KX G ?a ?l ?c ?k (fun _ _ _ _ _ _ us hl => match us, hl with | [_], _ => rfl); (case a => k_is); (case l => k_is); (case c => k_is); (case k => k_is))
    (case o_matching => refine' K3.def_mk KX G ?a ?l ?c ?k (fun _ _ _ _ _ _ us hl => match us, hl with | [_], _ => rfl); (case a => k_is); (case l => k_is); (case c => k_is); (case k => k_is))
    (case o_perm => refine' K3.def_mk KX G ?a ?l ?c ?k (fun _ _ _ _ _ _ us hl => match us, hl with | [_], _ => rfl); (case a => k_is); (case l => k_is); (case c => k_is); (case k => k_is))
    (case o_tree => refine' K3.def_mk KX G ?a ?l ?c ?k (fun _ _ _ _ _ _ us hl => match us, hl with | [_], _ => rfl); (case a => k_is); (case l => k_is); (case c => k_is); (case k => k_is))
    (case o_string => refine' K3.def_mk KX G ?a ?l ?c ?k (fun _ _ _ _ _ _ us hl => match us, hl with | [_], _ => rfl); (case a => k_is); (case l => k_is); (case c => k_is); (case k => k_is))
    (case o_row => refine' K3.def_mk KX G ?a ?l ?c ?k (fun _ _ _ _ _ _ us hl => match us, hl with | [_], _ => rfl); (case a => k_is); (case l => k_is); (case c => k_is); (case k => k_is))
    (case o_power => refine' K3.def_mk KX G ?a ?l ?c ?k (fun _ _ _ _ _ _ us hl => match us, hl with | [_], _ => rfl); (case a => k_is); (case l => k_is); (case c => k_is); (case k => k_is))
    (case o_deco => refine' K3.def_mk KX G ?a ?l ?c ?k (fun _ _ _ _ _ _ us hl => match us, hl with | [_], _ => rfl); (case a => k_is); (case l => k_is); (case c => k_is); (case k => k_is))
    (case o_jleaves => refine' K3.def_mk KX G ?a ?l ?c ?k (fun _ _ _ _ _ _ us hl => match us, hl with | [_, _], _ => rfl); (case a => k_is); (case l => k_is); (case c => k_is); (case k => k_is))
    (case o_repeat => refine' K3.def_mk KX G ?a ?l ?c ?k (fun _ _ _ _ _ _ us hl => match us, hl with | [_, _], _ => rfl); (case a => k_is); (case l => k_is); (case c => k_is); (case k => k_is))
    (case o_subsize => refine' K3.def_mk KX G ?a ?l ?c ?k (fun _ _ _ _ _ _ us hl => match us, hl with | [_], _ => rfl); (case a => k_is); (case l => k_is); (case c => k_is); (case k => k_is))
    (case o_wordsize => refine' K3.def_mk KX G ?a ?l ?c ?k (fun _ _ _ _ _ _ us hl => match us, hl with | [_], _ => rfl); (case a => k_is); (case l => k_is); (case c => k_is); (case k => k_is))
    (case o_arrsize => refine' K3.def_mk KX G ?a ?l ?c ?k (fun _ _ _ _ _ _ us hl => match us, hl with | [_], _ => rfl); (case a => k_is); (case l => k_is); (case c => k_is); (case k => k_is))
    (case o_walksize => refine' K3.def_mk KX G ?a ?l ?c ?k (fun _ _ _ _ _ _ us hl => match us, hl with | [_], _ => rfl); (case a => k_is); (case l => k_is); (case c => k_is); (case k => k_is))
    (case o_step => refine' K3.def_mk KX G ?a ?l ?c ?k (fun _ _ _ _ _ _ us hl => match us, hl with | [_, _, _], _ => rfl); (case a => k_is); (case l => k_is); (case c => k_is); (case k => k_is))
    (case o_cycsize => refine' K3.def_mk KX G ?a ?l ?c ?k (fun _ _ _ _ _ _ us hl => match us, hl with | [_], _ => rfl); (case a => k_is); (case l => k_is); (case c => k_is); (case k => k_is))
    (case o_matsize => refine' K3.def_mk KX G ?a ?l ?c ?k (fun _ _ _ _ _ _ us hl => match us, hl with | [_], _ => rfl); (case a => k_is); (case l => k_is); (case c => k_is); (case k => k_is))
    (case o_permsize => refine' K3.def_mk KX G ?a ?l ?c ?k (fun _ _ _ _ _ _ us hl => match us, hl with | [_], _ => rfl); (case a => k_is); (case l => k_is); (case c => k_is); (case k => k_is))
    (case o_treesize => refine' K3.def_mk KX G ?a ?l ?c ?k (fun _ _ _ _ _ _ us hl => match us, hl with | [_], _ => rfl); (case a => k_is); (case l => k_is); (case c => k_is); (case k => k_is))
    (case o_strsize => refine' K3.def_mk KX G ?a ?l ?c ?k (fun _ _ _ _ _ _ us hl => match us, hl with | [_], _ => rfl); (case a => k_is); (case l => k_is); (case c => k_is); (case k => k_is))
    (case o_space => refine' K3.def_mk KX G ?a ?l ?c ?k (fun _ _ _ _ _ _ us hl => match us, hl with | [_], _ => rfl); (case a => k_is); (case l => k_is); (case c => k_is); (case k => k_is))
    (case o_measure => refine' K3.def_mk KX G ?a ?l ?c ?k (fun _ _ _ _ _ _ us hl => match us, hl with | [_, _], _ => rfl); (case a => k_is); (case l => k_is); (case c => k_is); (case k => k_is))
    (case o_sizeof => refine' K3.def_mk KX G ?a ?l ?c ?k (fun _ _ _ _ _ _ us hl => match us, hl with | [_], _ => rfl); (case a => k_is); (case l => k_is); (case c => k_is); (case k => k_is))
    (case o_ldeck => refine' K3.def_mk KX G ?a ?l ?c ?k (fun _ _ _ _ _ _ us hl => match us, hl with | [_], _ => rfl); (case a => k_is); (case l => k_is); (case c => k_is); (case k => k_is))
    (case o_ldraw => refine' K3.def_mk KX G ?a ?l ?c ?k (fun _ _ _ _ _ _ us hl => match us, hl with | [_, _], _ => rfl); (case a => k_is); (case l => k_is); (case c => k_is); (case k => k_is))
    (case o_lpick => refine' K3.def_mk KX G ?a ?l ?c ?k (fun _ _ _ _ _ _ us hl => match us, hl with | [_, _], _ => rfl); (case a => k_is); (case l => k_is); (case c => k_is); (case k => k_is))
    (case o_lint => refine' K3.def_mk KX G ?a ?l ?c ?k (fun _ _ _ _ _ _ us hl => match us, hl with | [_, _, _], _ => rfl); (case a => k_is); (case l => k_is); (case c => k_is); (case k => k_is))
    (case o_lname => refine' K3.def_mk KX G ?a ?l ?c ?k (fun _ _ _ _ _ _ us hl => match us, hl with | [_], _ => rfl); (case a => k_is); (case l => k_is); (case c => k_is); (case k => k_is))
    (case o_lrises => refine' K3.def_mk KX G ?a ?l ?c ?k (fun _ _ _ _ _ _ us hl => match us, hl with | [_], _ => rfl); (case a => k_is); (case l => k_is); (case c => k_is); (case k => k_is))
    (case o_lchoose => refine' K3.def_mk KX G ?a ?l ?c ?k (fun _ _ _ _ _ _ us hl => match us, hl with | [_, _], _ => rfl); (case a => k_is); (case l => k_is); (case c => k_is); (case k => k_is))
    (case o_lword => refine' K3.def_mk KX G ?a ?l ?c ?k (fun _ _ _ _ _ _ us hl => match us, hl with | [_], _ => rfl); (case a => k_is); (case l => k_is); (case c => k_is); (case k => k_is))
    (case o_lperm => refine' K3.def_mk KX G ?a ?l ?c ?k (fun _ _ _ _ _ _ us hl => match us, hl with | [_], _ => rfl); (case a => k_is); (case l => k_is); (case c => k_is); (case k => k_is))
    (case o_lleafsize => refine' K3.def_mk KX G ?a ?l ?c ?k (fun _ _ _ _ _ _ us hl => match us, hl with | [_], _ => rfl); (case a => k_is); (case l => k_is); (case c => k_is); (case k => k_is))
    (case o_lnames => refine' K3.def_mk KX G ?a ?l ?c ?k (fun _ _ _ _ _ _ us hl => match us, hl with | [_, _], _ => rfl); (case a => k_is); (case l => k_is); (case c => k_is); (case k => k_is))
    (case o_lcounts => refine' K3.def_mk KX G ?a ?l ?c ?k (fun _ _ _ _ _ _ us hl => match us, hl with | [_, _], _ => rfl); (case a => k_is); (case l => k_is); (case c => k_is); (case k => k_is))
    (case o_lleaf => refine' K3.def_mk KX G ?a ?l ?c ?k (fun _ _ _ _ _ _ us hl => match us, hl with | [_, _], _ => rfl); (case a => k_is); (case l => k_is); (case c => k_is); (case k => k_is))
    (case o_lbound => refine' K3.def_mk KX G ?a ?l ?c ?k (fun _ _ _ _ _ _ us hl => match us, hl with | [], _ => rfl); (case a => k_is); (case l => k_is); (case c => k_is); (case k => k_is))
    (case o_lproduct => refine' K3.def_mk KX G ?a ?l ?c ?k (fun _ _ _ _ _ _ us hl => match us, hl with | [_], _ => rfl); (case a => k_is); (case l => k_is); (case c => k_is); (case k => k_is))
    (case o_lnested => refine' K3.def_mk KX G ?a ?l ?c ?k (fun _ _ _ _ _ _ us hl => match us, hl with | [_], _ => rfl); (case a => k_is); (case l => k_is); (case c => k_is); (case k => k_is))
    (case o_lmeasure => refine' K3.def_mk KX G ?a ?l ?c ?k (fun _ _ _ _ _ _ us hl => match us, hl with | [_, _], _ => rfl); (case a => k_is); (case l => k_is); (case c => k_is); (case k => k_is))
    (case o_lspace => refine' K3.def_mk KX G ?a ?l ?c ?k (fun _ _ _ _ _ _ us hl => match us, hl with | [_, _], _ => rfl); (case a => k_is); (case l => k_is); (case c => k_is); (case k => k_is))
    (case o_ldeep => refine' K3.def_mk KX G ?a ?l ?c ?k (fun _ _ _ _ _ _ us hl => match us, hl with | [_], _ => rfl); (case a => k_is); (case l => k_is); (case c => k_is); (case k => k_is))
    (case o_lwide => refine' K3.def_mk KX G ?a ?l ?c ?k (fun _ _ _ _ _ _ us hl => match us, hl with | [_], _ => rfl); (case a => k_is); (case l => k_is); (case c => k_is); (case k => k_is))
    (case o_lvast => refine' K3.def_mk KX G ?a ?l ?c ?k (fun _ _ _ _ _ _ us hl => match us, hl with | [], _ => rfl); (case a => k_is); (case l => k_is); (case c => k_is); (case k => k_is))
    (case o_lvalid => refine' K3.def_mk KX G ?a ?l ?c ?k (fun _ _ _ _ _ _ us hl => match us, hl with | [], _ => rfl); (case a => k_is); (case l => k_is); (case c => k_is); (case k => k_is))
    (case o_linvalid => refine' K3.def_mk KX G ?a ?l ?c ?k (fun _ _ _ _ _ _ us hl => match us, hl with | [], _ => rfl); (case a => k_is); (case l => k_is); (case c => k_is); (case k => k_is))
    (case o_lright => refine' K3.def_mk KX G ?a ?l ?c ?k (fun _ _ _ _ _ _ us hl => match us, hl with | [_], _ => rfl); (case a => k_is); (case l => k_is); (case c => k_is); (case k => k_is))
    (case o_llaw => refine' K3.def_mk KX G ?a ?l ?c ?k (fun _ _ _ _ _ _ us hl => match us, hl with | [_], _ => rfl); (case a => k_is); (case l => k_is); (case c => k_is); (case k => k_is))
    (case gM => k_is)
    (case FM => refine' K3.funD_mk ?l ?c ?k ?t ?d ?r (by simp); (case l => k_is); (case c => k_is); (case k => k_is); (case t => k_is); (case d => rfl); (case r => exact .cons rfl .nil))
    (case gJ => k_is)
    (case FJ => refine' K3.funD_mk ?l ?c ?k ?t ?d ?r (by simp); (case l => k_is); (case c => k_is); (case k => k_is); (case t => k_is); (case d => rfl); (case r => exact .cons rfl .nil))
    (case gL => k_is)
    (case aL => k_is)
    (case kL => k_keys)
    (case wL => decide)
    (case gC => k_is)
    (case aC => k_is)
    (case kC => k_keys)
    (case wC => decide)
    (case gS => k_is)
    (case aS => k_is)
    (case kS => k_keys)
    (case wS => decide)
    (case kk => rfl)
    (case l0 => k_is)
    (case l1 => k_is)
    (case l2 => k_is)
    (case l3 => k_is)
    (case l4 => k_is)
    (case l5 => k_is)
    (case l6 => k_is)
    (case l7 => k_is)
    (case l8 => k_is)
    (case l9 => k_is)
    (case l10 => k_is)
    (case l11 => k_is)
    (case l12 => k_is)
    (case r0 => k_is)
    (case r1 => k_is)
    (case r2 => k_is)
    (case r3 => k_is)
    (case r4 => k_is)
    (case r5 => k_is)
    (case r6 => k_is)
    (case r7 => k_is)
    (case r8 => k_is)
    (case r9 => k_is)
    (case r10 => k_is)
    (case r11 => k_is)
    (case r12 => k_is)
    (case s0 => k_is)
    (case s1 => k_is)
    (case s2 => k_is)
    (case s3 => k_is)
    (case s4 => k_is)
    (case s5 => k_is)
    (case s6 => k_is)
    (case s7 => k_is)
    (case s8 => k_is)
    (case ndK => decide)
    (case ndS => decide)
    (case kb1 => exact fun s u => .of_eq rfl)
    (case kb2 => exact fun s u => .of_eq rfl)
    (case kz1 => exact fun s u => .of_eq rfl)
    (case kz2 => exact fun s u => .of_eq rfl)
    (case hbind => exact fun s u => .of_eq rfl)
