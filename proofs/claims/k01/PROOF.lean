import PyProof.Rows.All
import Wide.All
import OpenK.AllK
import Wide.FinOn
import KE.KExcSuper
import KE.KExcIs
import HandS.ForMost
import HandS.Exc
import HandS.ExcInit
import HandS.ExcValue
import HandS.ExcField
import HandS.TryMany
import HandS.ExcOwn
import HandS.WordsExc
import HandS.Style
import HandS.Codes
import HandS.Comp
import HandS.Iter
import HandS.Walk
import PySem.Challenge.RW_undrawn_k01_errors_made_by_hand
set_option Elab.async false
set_option linter.all false
set_option maxRecDepth 100000
set_option maxHeartbeats 4000000
/-! An own error class whose __init__ hands a text to super().__init__ and stores its one argument: the class called. -/
namespace PySem.F
theorem u1_store_KeyError : StoreFacts "KeyError" [.type "KeyError", .type "LookupError", .type "Exception", .type "BaseException", .type "object"] "object.__setattr__" "object" := by
  refine { mro := ?mro, slot := ?slot, entry := entry_object_sa, kind := ?kind, split := ?split, hasOwner := ?hasOwner, args := ?args, passes := ?passes }
  case mro => kernel_rfl
  case slot =>
    refine .of (owner := "object") (n := "__setattr__") ?_ (by decide +kernel) (by decide +kernel) (by decide +kernel) (by first | exact .inl (by decide +kernel) | exact .inr (by decide +kernel)) ?_
    · rw [typeLookup_type, builtinLookup_eq_fast]
      kernel_rfl
    · rw [isSubtype_type]
      kernel_rfl
  case args => exact fun a b c => by unfold argsOk; kernel_rfl
  case passes => exact fun self => by kernel_rfl
  all_goals decide +kernel
end PySem.F
namespace PySem.W
theorem u1_kxs_KeyError : KxsFacts "KeyError" "KeyError.__init__" := by
  constructor
  · show builtinType _ = _
    rw [builtinType_eq_fast]
    kernel_rfl
  · first
      | rfl
      | kernel_rfl
end PySem.W
namespace U1
open PySem PySem.Calls PyProof.Rows
/-- what is asked of the built-in __init__ that super() finds -/
structure InitF (B initId : String) : Prop where
  kind : builtinKind initId = some .slot
  row : Manifest.signature? initId = some ⟨.positional, "*", B, .self, [⟨"args", .varPos, false⟩]⟩
  star : (B != "*") = true
  plain : plainId initId = true
  entry : entryFor table initId = some Builtin.«BaseException.__init__»
theorem initF_ValueError : InitF "ValueError" "ValueError.__init__" := ⟨F.excBase_ValueError.initKind, F.excBase_ValueError.initRow, F.excBase_ValueError.noStar, F.excBase_ValueError.init.plain, F.excBase_ValueError.initEntry⟩
theorem initF_IndexError : InitF "IndexError" "IndexError.__init__" := ⟨F.excBase_IndexError.initKind, F.excBase_IndexError.initRow, F.excBase_IndexError.noStar, F.excBase_IndexError.init.plain, F.excBase_IndexError.initEntry⟩
theorem initF_KeyError : InitF "KeyError" "KeyError.__init__" := by
  refine ⟨by kernel_rfl, by kernel_rfl, by decide +kernel, by decide +kernel, ?_⟩
  exact entryFor_alias (id' := "BaseException.__init__") (by rw [fastTable_eq_tree]; kernel_rfl) (by decide +kernel) (by decide +kernel) (by rw [fastTable_eq_tree]; kernel_rfl)
section
variable {M : Model} {A : Around} {E : Value → Shared → Prop} {h : Heap} {g : Array GenState} {d : Drawn} {t : Nat} {os : OsState}
variable {nm q : Str} {C N : Addr} {bs bm b0 : List Value} {hdct : Bool} {sn : List Str} {sub : List Value} {ab : Bool} {col : Option Bool} {dd : Option Addr} {k0 k1 k2 k3 k5 : Option Value} {B newId i0 : String}
theorem check_new (F : ExcBaseFacts B newId i0 b0) (hB : bm.contains (.type B) = true) {rest : List Value} {kw : List (Str × Value)} {Q : Unit → Shared → Prop}
    (hC : h.get? C = some (excClassObj nm q C N bs bm hdct sn sub ab col dd k0 k1 k2 k3 k5 newId)) (hq : Q () ⟨h, g, d, t, os⟩) : wpAny M A (checkBuiltinCall newId ⟨.ref C :: rest, kw⟩) Q E ⟨h, g, d, t, os⟩ := by
  have e1 : (Value.ref C :: bm).contains (.type B) = true := by rw [List.contains_cons, hB, Bool.or_true]
  have e2 := F.noStar
  simp only [checkBuiltinCall, F.newKind, F.newSplit, F.newRow]
  repeat (first
    | refine wpAny_loadPart_at hC ?_
    | (refine wpAny_isSubtype_exc hC ?_; rw [e1])
    | refine wpAny_staticBase_exc hC ?_
    | refine wpAny_madeBy_exc hC ?_
    | simp only [bne_self_eq_false, Bool.false_eq_true, if_false]
    | wp_step)
  try exact hq
end
section
variable {prog : Program} {w : World} {A : Around} {E : Value → Shared → Prop} {R : Result → Shared → Prop} {h : Heap} {g : Array GenState} {d : Drawn} {t : Nat} {os : OsState}
variable {nm q : Str} {C N : Addr} {bs bm b0 : List Value} {hdct : Bool} {sn : List Str} {sub : List Value} {ab : Bool} {col : Option Bool} {dd : Option Addr} {k0 k1 k2 k3 k5 : Option Value} {B newId i0 : String}
theorem run_new (F : ExcBaseFacts B newId i0 b0) (hB : bm.contains (.type B) = true) (hA : bm.contains (.type "AttributeError") = false) (hN : bm.contains (.type "NameError") = false) {rest : List Value} {kw : List (Str × Value)}
    (hC : h.get? C = some (excClassObj nm q C N bs bm hdct sn sub ab col dd k0 k1 k2 k3 k5 newId)) (hrest : rest.length ≤ sizeLine)
    (hq : R (.ok (.ret (.ref (h.objs.size + 1)))) ⟨(h.push (W.excTup rest)).push (W.excObj C h.objs.size none .none), g, d, t, os⟩) :
    codeAny (model prog w) A (.builtin newId ⟨.ref C :: rest, kw⟩) R ⟨h, g, d, t, os⟩ := by
  have e0 := F.ends
  have e1 : (Value.ref C :: bm).contains (.type B) = true := by rw [List.contains_cons, hB, Bool.or_true]
  have e2 : (Value.ref C :: bm).contains (.type "AttributeError") = false := by rw [List.contains_cons, hA]; rfl
  have e3 : (Value.ref C :: bm).contains (.type "NameError") = false := by rw [List.contains_cons, hN]; rfl
  refine codeAny_builtinAt F.entry ?_
  unfold Builtin.«BaseException.__new__»
  refine PySem.wpAt_bind ?_
  show PySem.wpAt _ _ _ (stack >>= _) _ _ _
  refine PySem.wpAt_bind (PySem.wpAt_stack fun p below => PySem.wpAt_of_wpAny ?_)
  wp_walk
  refine PySem.wpAt_of_wpAny ?_
  rw [F.owner]
  repeat (first
    | with_reducible refine wpAny_madeHere_exc F.canon hC ?_
    | with_reducible refine wpAny_loadPart_at hC ?_
    | (with_reducible refine wpAny_isSubtype_exc hC ?_; first | rw [e1] | rw [e2] | rw [e3])
    | wp_step)
  show R _ _
  rw [Heap.size_push]
  exact hq
theorem check_tc {M : Model} {rest : List Value} {kw : List (Str × Value)} {Q : Unit → Shared → Prop} (hC : h.get? C = some (excClassObj nm q C N bs bm hdct sn sub ab col dd k0 k1 k2 k3 k5 newId))
    (hq : Q () ⟨h, g, d, t, os⟩) : wpAny M A (checkBuiltinCall "type.__call__" ⟨.ref C :: rest, kw⟩) Q E ⟨h, g, d, t, os⟩ := by
  have f3 := tc_sub
  have hT : (⟨h, g, d, t, os⟩ : Shared).TypeIs (.ref C) "type" := ⟨_, hC, rfl⟩
  simp only [checkBuiltinCall, tc_kind, tc_split]
  repeat (any_goals (first
    | assumption
    | with_reducible refine wpAny_loadPart_at hC ?_
    | with_reducible refine wpAny_onRaise ?_
    | with_reducible refine wpAny_map ?_
    | wp_step))
end
end U1
set_option maxRecDepth 100000
set_option maxHeartbeats 4000000
namespace U1
open PySem PySem.Calls PyProof.Rows
section
variable {prog : Program} {w : World} {A : Around} {E : Value → Shared → Prop} {R : Result → Shared → Prop} {h : Heap} {g : Array GenState} {d : Drawn} {t : Nat} {os : OsState}
variable {nm q : Str} {C N : Addr} {bs bm b0 : List Value} {hdct : Bool} {sn : List Str} {sub : List Value} {ab : Bool} {col : Option Bool} {dd : Option Addr} {k0 k1 k2 k3 k5 : Option Value} {B newId i0 : String}
theorem run_tc (F : ExcBaseFacts B newId i0 b0) (hB : bm.contains (.type B) = true) (hA : bm.contains (.type "AttributeError") = false) (hN : bm.contains (.type "NameError") = false) {rest : List Value} {kw : List (Str × Value)} {fI : Addr} {Q : Fin → Shared → Prop}
    (hC : h.get? C = some (excClassObj nm q C N bs bm hdct sn sub ab col dd k0 k1 k2 k3 k5 newId))
    (hi : W.Looks (model prog w) h (typeLookup (.ref C) "__init__") (some (.ref fI))) (hb : ∀ self, W.Looks (model prog w) h (bindSpecial (.ref fI) self) (.ref fI, [self])) (hrest : rest.length ≤ sizeLine)
    (hq : codeAny (model prog w) A (.call (.ref fI) ⟨.ref (h.objs.size + 1) :: rest, kw⟩)
      (fun r s' => match r with | .ok (.ret v) => v = .none ∧ Q (.done (.ret (.ref (h.objs.size + 1)))) s' | .ok _ => False | .error e => E e s')
      ⟨(h.push (W.excTup rest)).push (W.excObj C h.objs.size none .none), g, d, t, os⟩) :
    wpAny (model prog w) A (Builtin.«type.__call__» ⟨.ref C :: rest, kw⟩) Q E ⟨h, g, d, t, os⟩ := by
  repeat (first
    | with_reducible refine wpAny_loadPart_at hC ?_
    | with_reducible refine wpAny_madeBy_exc hC ?_
    | wp_step)
  refine codeAny_call_builtin_code (Code.quiet_builtin _ F.quiet) (check_new F hB hC ?_)
  refine run_new F hB hA hN hC hrest ?_
  show wpAny _ _ _ _ _ _
  have kp : ∀ b o, h.get? b = some o → ((h.push (W.excTup rest)).push (W.excObj C h.objs.size none .none)).get? b = some o := fun b o e => Heap.get?_push_of_some _ (Heap.get?_push_of_some _ e)
  have hC2 := kp _ _ hC
  have he2 : ((h.push (W.excTup rest)).push (W.excObj C h.objs.size none .none)).get? (h.objs.size + 1) = some (W.excObj C h.objs.size none .none) := by heap_get
  have self_in : (Value.ref C :: bm).contains (.ref C) = true := by simp
  have hi2 := hi.keeps kp
  have hb2 := (hb (.ref (h.objs.size + 1))).keeps kp
  unfold isInstance
  repeat (first
    | with_reducible refine wpAny_loadPart_at he2 ?_
    | (with_reducible refine wpAny_isSubtype_exc hC2 ?_; rw [self_in])
    | wp_step)
  show wpAny _ _ (typeLookup (.ref C) _) _ _ _
  refine hi2.at ?_
  refine wpAny_holding (wpAny_bind (hb2.at ?_))
  refine wpAny_bind (wpAny_call (codeAny_mono hq fun r s' z => ?_))
  cases r with
  | error e => exact z
  | ok fl =>
    cases fl with
    | ret v =>
      obtain ⟨rfl, z⟩ := z
      first
        | exact wpAny_pure (wpAny_pure z)
        | (wp_walk; done)
        | (wp_walk; exact z)
    | next => exact False.elim z
    | brk => exact False.elim z
    | cont => exact False.elim z
theorem call_C (F : ExcBaseFacts B newId i0 b0) (hB : bm.contains (.type B) = true) (hA : bm.contains (.type "AttributeError") = false) (hN : bm.contains (.type "NameError") = false) {rest : List Value} {kw : List (Str × Value)} {fI : Addr}
    (hC : h.get? C = some (excClassObj nm q C N bs bm hdct sn sub ab col dd k0 k1 k2 k3 k5 newId))
    (hi : W.Looks (model prog w) h (typeLookup (.ref C) "__init__") (some (.ref fI))) (hb : ∀ self, W.Looks (model prog w) h (bindSpecial (.ref fI) self) (.ref fI, [self])) (hrest : rest.length ≤ sizeLine)
    (hq : codeAny (model prog w) (A.under (.builtin "type.__call__" ⟨.ref C :: rest, kw⟩)) (.call (.ref fI) ⟨.ref (h.objs.size + 1) :: rest, kw⟩) (W.InitBack (h.objs.size + 1) R)
      ⟨(h.push (W.excTup rest)).push (W.excObj C h.objs.size none .none), g, d, t, os⟩) :
    codeAny (model prog w) A (.call (.ref C) ⟨rest, kw⟩) R ⟨h, g, d, t, os⟩ := by
  have f1 := tc_lookup
  have f2 := tc_bind (.ref C)
  have hTy : (⟨h, g, d, t, os⟩ : Shared).TypeIs (.ref C) "type" := ⟨_, hC, rfl⟩
  refine codeAny_of_tree ?_
  show wpAny _ _ (callAny (.ref C) _) _ _ _
  repeat (any_goals (first
    | assumption
    | with_reducible refine wpAny_loadPart_at hC ?_
    | wp_step))
  refine ⟨rfl, ?_⟩
  refine codeAny_call_builtin_at (Code.quiet_builtin _ (by decide +kernel)) entry_typeCall (check_tc hC (run_tc F hB hA hN hC hi hb hrest ?_))
  refine codeAny_mono hq fun r s' z => ?_
  cases r with
  | error e => exact z
  | ok fl => cases fl <;> exact z
end
end U1
set_option maxRecDepth 100000
set_option maxHeartbeats 4000000
namespace U1
open PySem PySem.Calls PyProof.Rows
/-! the built-in __init__ that super() found, handed the text -/
section
variable {M : Model} {A : Around} {E : Value → Shared → Prop} {h : Heap} {g : Array GenState} {d : Drawn} {t : Nat} {os : OsState}
variable {nm q : Str} {C N : Addr} {bs bm : List Value} {hdct : Bool} {sn : List Str} {sub : List Value} {ab : Bool} {col : Option Bool} {dd : Option Addr} {k0 k1 k2 k3 k5 : Option Value} {B newId initId : String}
theorem check_sup (F : InitF B initId) {e : Addr} {oe : Obj} {rest : List Value} {Q : Unit → Shared → Prop} (hC : h.get? C = some (excClassObj nm q C N bs bm hdct sn sub ab col dd k0 k1 k2 k3 k5 newId)) (he : h.get? e = some oe) (hcls : oe.cls = .ref C)
    (hq : Q () ⟨h, g, d, t, os⟩) : wpAny M A (checkBoundCall initId ⟨.ref e :: rest, []⟩) Q E ⟨h, g, d, t, os⟩ := by
  have e2 := F.star
  simp only [checkBoundCall, F.kind, F.row]
  repeat (first
    | (with_reducible refine wpAny_loadPart_at he ?_; rw [hcls])
    | with_reducible refine wpAny_loadPart_at hC ?_
    | wp_step)
  refine wpAny_onRaise ?_
  have z : ∀ (a b : String) (n : Nat), Bind.check ⟨.positional, "*", B, .self, [⟨"args", .varPos, false⟩]⟩ a b n (List.map (fun x => x.fst) ({ pos := Value.ref e :: rest } : Args).kw) = pure () := fun a b n => check_star_args _ _ _ _ _ _
  rw [z]
  exact wpAny_pure hq
end
section
variable {prog : Program} {w : World} {A : Around} {E : Value → Shared → Prop} {h : Heap} {g : Array GenState} {d : Drawn} {t : Nat} {os : OsState}
variable {nm q : Str} {C N : Addr} {bs bm : List Value} {hdct : Bool} {sn : List Str} {sub : List Value} {ab : Bool} {col : Option Bool} {dd : Option Addr} {k0 k1 k2 k3 k5 : Option Value} {B newId initId : String}
theorem call_sup (F : InitF B initId) {u e t0 : Addr} {rest : List Value} {Q : Value → Shared → Prop} (hC : h.get? C = some (excClassObj nm q C N bs bm hdct sn sub ab col dd k0 k1 k2 k3 k5 newId)) (he : h.get? e = some (W.excObj C t0 none .none)) (hu : h.get? u = some (W.kxs_mw initId e))
    (hz : rest.length ≤ sizeLine) (hq : ∀ h' t1, (∀ b o, b ≠ e → h.get? b = some o → h'.get? b = some o) → h'.get? e = some (W.excObj C t1 none .none) → Q .none ⟨h', g, d, t, os⟩) :
    wpAny (model prog w) A (call (.ref u) rest) Q E ⟨h, g, d, t, os⟩ := by
  refine wpAny_call (codeAny_of_tree ?_)
  show wpAny _ A.in1 (callAny (.ref u) ⟨rest, []⟩) _ _ _
  simp only [callAny]
  refine wpAny_bind (wpAny_load hu ?_)
  simp only [W.kxs_mw, show (Value.type "method-wrapper" == Value.type "method" || Value.type "method-wrapper" == Value.type "builtin_function_or_method" || Value.type "method-wrapper" == Value.type "method-wrapper") = true by decide, if_true]
  refine W.KFB.if_so (by decide) ?_
  refine wpAny_bind (check_sup F hC he rfl ?_)
  refine wpAny_bind (wpAny_pure (wpAny_pure ?_))
  refine ⟨plainId_quiet F.plain _, codeAny_builtin F.entry ?_⟩
  exact W.exc_init_tree (cls := .ref C) (t0 := t0) (dv := none) (c2 := .none) (c3 := .none) (b4 := .bool false) he hz fun h' k e' _ => hq h' _ k e'
end
/-- what the text says of an __init__ that hands ea to super().__init__ and stores its argument p -/
structure InitT (P : Program) (K : W.Frag) (C fI : Addr) (p : Str) : Prop where
  nself : ("self" == p) = false
  top : (P.main.scope.names.lookup ("super" : Str)).isSome = false
  ex : ∃ (oc : Value) (od : Option Addr) (osl : Array (Option Value)) (qual : Str) (params : Arguments) (body : List Stmt) (scope : Scope) (dV kV doc pm : Value) (an : Option Addr) (cda cc : Addr) (ct ccl : Value) (cdd : Option Addr) (vs : Array Value) (ccs : Array (Option Value))
      (file : Str) (tf : Tok) (cl : Value) (cld : Option Addr) (csl : Array (Option Value)) (ar : Arg) (ea : Expr) (p0 p1 p2 p3 p4 q1 q2 q3 q4 : Pos),
    K.lookup fI = some ⟨oc, od, .func (W.ksFn "__init__" qual params body scope dV kV doc pm an (.ref cda) ct cc), osl⟩ ∧ W.codeIn K (.ref cda) qual = true ∧
    K.lookup cda = some ⟨ccl, cdd, .fields vs, ccs⟩ ∧ vs[2]? = some (.str file tf) ∧ (P.main.file == file) = true ∧ K.lookup cc = some ⟨cl, cld, .cell (some (.ref C)), csl⟩ ∧
    (params.posonlyargs ++ params.args).head? = some ar ∧ ar.arg = "self" ∧ scope.kind = .function ∧ scope.isCoroutine = false ∧ scope.isGenerator = false ∧
    scope.names.lookup ("super" : Str) = some .globalImplicit ∧ scope.names.lookup ("__class__" : Str) = some .free ∧ scope.names.lookup ("self" : Str) = some .local ∧ scope.names.lookup p = some .local ∧ (∀ x ∈ scope.names, x.2 ≠ .cell) ∧
    body = [.Expr (.Call (.Attribute (.Call (.Name "super" p0) [] [] p1) "__init__" p2) [ea] [] p3) p4, .Assign [.Attribute (.Name "self" q1) p q2] (.Name p q3) q4] ∧
    (∀ env : Env, ∃ pl : Sem Bool, eval (.Call (.Attribute (.Call (.Name "super" p0) [] [] p1) "__init__" p2) [ea] [] p3) env = (do
      let ov ← attributeBase (.Call (.Name "super" p0) [] [] p1) "__init__" env (eval (.Call (.Name "super" p0) [] [] p1) env)
      standAt p2.atName
      let (f, first) ← holding [ov] (getMethod ov "__init__" pl)
      callWith p3 f first (backTo p3 (starEach [ea] env)) [])) ∧
    ((∃ txt j r, ea = .Constant (.str txt) j r) ∨ (p == ("__debug__" : Str)) = false ∧ ∃ r, ea = .Name p r) ∧ (p == ("__debug__" : Str)) = false ∧
    (∀ (s : Shared) (x v : Value), BindsTo s (W.ksFn "__init__" qual params body scope dV kV doc pm an (.ref cda) ct cc) ⟨[x, v], []⟩ [("self", x), (p, v)]) ∧
    (∀ (s : Shared) (x v : Value), BindsTo s (W.ksFn "__init__" qual params body scope dV kV doc pm an (.ref cda) ct cc) ⟨[x], [(p, v)]⟩ [("self", x), (p, v)])
/-- what the written part says of the class -/
structure OwnC (K : W.Frag) (nB newId i0 : String) (b0 : List Value) (B initId : String) (bmS : List Value) (C fI : Addr) (p : Str) : Prop where
  FN : ExcBaseFacts nB newId i0 b0
  IN : InitF B initId
  KF : W.KxsFacts B initId
  SF : StoreFacts B bmS "object.__setattr__" "object"
  cls : ∃ (nm q : Str) (N : Addr) (bs bm : List Value) (hd : Bool) (sn : List Str) (sub : List Value) (ab : Bool) (col : Option Bool) (dd : Option Addr) (k0 k1 k2 k3 k5 : Option Value), K.lookup C = some (excClassObj nm q C N bs bm hd sn sub ab col dd k0 k1 k2 k3 k5 newId) ∧
    bm.contains (.type nB) = true ∧ bm.contains (.type "AttributeError") = false ∧ bm.contains (.type "NameError") = false
  hi : W.findIn K (.ref C) "__init__" = some (some (.ref fI))
  tI : W.typeIn K (.ref fI) = some (.type "function")
  sa : W.findIn K (.ref C) "__setattr__" = some (some (.builtin "object.__setattr__"))
  ov : W.excOver K C bmS = true
  tk : W.takerIn K C p = some none
  hd : W.hasDictIn K C = true
  su : W.ks_superIn K C C "__init__" = some (some (.builtin initId))
  sB : W.subIn K (.ref C) (.type B) = some true
  sC : W.mroIn K C (.ref C) = some true
  op : W.nsIn K cStatics "thirdparty.any" = some none
/-- the module's names, as the defs find them -/
structure GlobT (mg : Str → Option Value) (h : Heap) : Prop where
  g : h.Ns mainGlobals mg
  b : ∃ mb, h.Ns builtinsNs mb ∧ ∀ x : Str, x ≠ "__name__" → mb x = bootBuiltins x
  sup : mg "super" = none
  lim : h.NoLimit
theorem GlobT.keeps {mg : Str → Option Value} {h h' : Heap} (G : GlobT mg h) (k : ∀ b o, h.get? b = some o → h'.get? b = some o) : GlobT mg h' :=
  ⟨G.g.keeps k, let ⟨mb, h1, h2⟩ := G.b; ⟨mb, h1.keeps k, h2⟩, G.sup, G.lim.keeps k⟩
/-- what __init__ leaves of the fresh error at x -/
structure InitEnd (h h' : Heap) (x C dx t1 : Addr) (p : Str) (v : Value) : Prop where
  keep : ∀ b o, b ≠ x → h.get? b = some o → h'.get? b = some o
  obj : h'.get? x = some (W.excObj C t1 (some dx) .none)
  dbig : h.objs.size ≤ dx
  dne : dx ≠ x
  ns : h'.Ns1 dx (fun y => if y = p then some v else none)
section
variable {P : Program} {w : World} {A : Around} {R : Result → Shared → Prop} {K : W.Frag} {nB newId i0 B initId : String} {b0 bmS : List Value} {C fI : Addr} {p : Str} {mg : Str → Option Value}
theorem store_end (T : OwnC K nB newId i0 b0 B initId bmS C fI p) {s : Shared} {x t0 : Addr} {v : Value} {Q : Unit → Shared → Prop} {E : Value → Shared → Prop} (X : K.In s.heap) (hx : s.heap.get? x = some (W.excObj C t0 none .none))
    (hq : ∀ h' tk dx, InitEnd s.heap h' x C dx t0 p v → Q () { s with heap := h', toks := tk }) : wpAny (model P w) A (setAttr (.ref x) p v) Q E s := by
  have I : W.InstAt s.heap x (W.excObj C t0 none .none) C none := ⟨hx, rfl, rfl, trivial⟩
  refine W.set_plain X I T.sa ?_
  obtain ⟨hp, g, d, t, os⟩ := s
  obtain ⟨cd, hcd, hh⟩ := W.any_some T.hd
  have hh' : cd.hasDict = true := hh
  have Lc : W.Looks (model P w) hp (classData C) cd := W.looks_clsIn X hcd
  have hxs : x ≠ hp.objs.size := Nat.ne_of_lt (Heap.lt_size hx)
  refine W.osa_openX T.SF X I T.ov T.tk fun b => ?_
  show wpAny _ _ (Builtin.ObjectAttr.storeInOwnDict (.ref x) (.ref C) (.str p t) p v b) _ _ _
  obtain ⟨nm, bs, mro, ns, qn, hd, sn, sb, ab, col, del⟩ := cd
  dsimp only at hh'
  subst hh'
  unfold Builtin.ObjectAttr.storeInOwnDict Builtin.ObjectAttr.ownDictForStores
  have hx1 : (hp.push { cls := .type "dict", data := .dict #[] }).get? x = some (W.excObj C t0 none .none) := Heap.get?_push_of_some _ hx
  repeat (first
    | with_reducible refine HandSPX.store_in_new ?_ ?_
    | with_reducible refine wpAny_loadPart_at hx ?_
    | with_reducible refine Lc.at ?_
    | wp_step)
  · exact ⟨_, #[], _, (Heap.get?_update_ne _ _ _ _ hxs.symm).trans (Heap.get?_push_at rfl rfl), rfl, fun e he => absurd he (by simp), fun _ => rfl⟩
  · intro h' tk' hn' hs
    refine hq h' tk' hp.objs.size ⟨fun b o hb ho => ?_, ?_, Nat.le_refl _, hxs.symm, hn'⟩
    · exact (hs.2 b (Nat.ne_of_lt (Heap.lt_size ho))).trans ((Heap.get?_update_ne _ _ _ _ hb).trans (Heap.get?_push_of_some _ ho))
    · exact (hs.2 x hxs).trans (Heap.get?_update_self _ hx1 rfl)
end
end U1
set_option maxRecDepth 100000
set_option maxHeartbeats 4000000
namespace U1
open PySem PySem.Calls PyProof.Rows
section
variable {P : Program} {w : World} {A : Around} {R : Result → Shared → Prop} {K : W.Frag} {nB newId i0 B initId : String} {b0 bmS : List Value} {C fI : Addr} {p : Str} {mg : Str → Option Value}
theorem lk_self {x v : Value} (h : (("self" : Str) == p) = false) : ([("self", x), (p, v)] : List (Str × Value)).reverse.lookup ("self" : Str) = some x := by
  have e : (("self" : Str) == p) = false := h
  simp [List.lookup, e]
theorem lk_arg {x v : Value} : ([("self", x), (p, v)] : List (Str × Value)).reverse.lookup p = some v := by
  simp [List.lookup]
theorem own_init (T : OwnC K nB newId i0 b0 B initId bmS C fI p) (N : InitT P K C fI p) {s : Shared} {x t0 : Addr} {v : Value} {args : Args} (X : K.In s.heap) (G : GlobT mg s.heap) (hx : s.heap.get? x = some (W.excObj C t0 none .none)) (hnx : K.lookup x = none)
    (ha : args = ⟨[.ref x, v], []⟩ ∨ args = ⟨[.ref x], [(p, v)]⟩) (hroom : A.depth < recursionLimit)
    (hq : ∀ h' tk dx t1, InitEnd s.heap h' x C dx t1 p v → R (.ok (.ret .none)) { s with heap := h', toks := tk }) :
    codeAny (model P w) A (.call (.ref fI) args) R s := by
  obtain ⟨oc, od, osl, qual, params, body, scope, dV, kV, doc, pm, an, cda, cc, ct, ccl, cdd, vs, ccs, file, tf, cl, cld, csl, ar, ea, p0, p1, p2, p3, p4, q1, q2, q3, q4, lf, lcd, lc, lv, lfile, lcell, lar, lar2, sk, sco, sge, ssup, scls, sself, sarg, snc, hbody, hpl, hea, hpd, hb1, hb2⟩ := N.ex
  obtain ⟨nm, q, NN, bs, bm, hd, sn, sub, ab, col, dd, k0, k1, k2, k3, k5, lC, -, -, -⟩ := T.cls
  obtain ⟨mb, hb, hbb⟩ := G.b
  have bind : BindsTo s (W.ksFn "__init__" qual params body scope dV kV doc pm an (.ref cda) ct cc) args [("self", .ref x), (p, v)] := by
    rcases ha with rfl | rfl
    · exact hb1 s _ _
    · exact hb2 s _ _
  have hloc : ∀ y ∈ ([("self", Value.ref x), (p, v)] : List (Str × Value)), scope.names.lookup y.1 = some .local := by
    intro y hy
    rcases List.mem_cons.mp hy with rfl | hy
    · exact sself
    · rcases List.mem_cons.mp hy with rfl | hy
      · exact sarg
      · cases hy
  refine ks_codeAny_call_defAt (fd := W.ksFn "__init__" qual params body scope dV kV doc pm an (.ref cda) ct cc) (body := body) (binds := [("self", .ref x), (p, v)]) hroom (X _ _ lf) rfl G.lim (W.codeRec_of X lcd) rfl bind snc hloc (fun h0 hns hk => ?_) sco sge sk
  have lt0 : x ≠ s.heap.objs.size := Nat.ne_of_lt (Heap.lt_size hx)
  generalize hL : s.heap.objs.size = L at hns ⊢
  show PySem.wpAt _ (A.deeper (W.ksEnv qual scope L fI (.ref cda) cc)) (.func body (W.ksEnv qual scope L fI (.ref cda) cc)) (execs body (W.ksEnv qual scope L fI (.ref cda) cc)) _ _ _
  have X0 : K.In h0 := X.keeps hk
  have G0 := G.keeps hk
  have hx0 := hk _ _ hx
  have kA : (W.ksEnv qual scope L fI (.ref cda) cc).scope.kind = .function := sk
  generalize hB : (Code.func body (W.ksEnv qual scope L fI (.ref cda) cc)) = code
  rw [hbody]
  rw [hbody] at hB
  subst hB
  have hself : ∀ {h1 : Heap} {toks} {Q : Value → Shared → Prop} {E : Value → Shared → Prop} {r : Pos}, h1.Ns L (fun y => ([("self", Value.ref x), (p, v)] : List (Str × Value)).reverse.lookup y) → Q (.ref x) { s with heap := h1, toks := toks } →
      wpAny (model P w) (A.deeper (W.ksEnv qual scope L fI (.ref cda) cc)) (eval (.Name "self" r) (W.ksEnv qual scope L fI (.ref cda) cc)) Q E { s with heap := h1, toks := toks } := fun hn hQ =>
    wpAny_Name (wpAny_loadName_local kA sself hn (lk_self N.nself) hQ) (by decide)
  have hint : interactive (W.ksEnv qual scope L fI (.ref cda) cc) = false := by
    unfold interactive
    rw [kA]
    rfl
  have key : ∀ {Q : Value → Shared → Prop} {E : Value → Shared → Prop} {h1 : Heap} {toks : Nat}, h1.Ns L (fun y => ([("self", Value.ref x), (p, v)] : List (Str × Value)).reverse.lookup y) → (∀ u tk, Q u { s with heap := h1, toks := tk }) →
      wpAny (model P w) (A.deeper (W.ksEnv qual scope L fI (.ref cda) cc)) (eval ea (W.ksEnv qual scope L fI (.ref cda) cc)) Q E { s with heap := h1, toks := toks } := fun {Q E h1 toks} hn hQ => by
    rcases hea with ⟨txt, j, r, rfl⟩ | ⟨hdb, r, rfl⟩
    · exact Constant_str (hQ _ _)
    · exact wpAny_Name (wpAny_loadName_local kA sarg hn lk_arg (hQ _ _)) hdb
  have args1 : starEach [ea] (W.ksEnv qual scope L fI (.ref cda) cc) = (false, eval ea (W.ksEnv qual scope L fI (.ref cda) cc)) :: starEach [] (W.ksEnv qual scope L fI (.ref cda) cc) := by
    rcases hea with ⟨txt, j, r, rfl⟩ | ⟨hdb, r, rfl⟩ <;> rfl
  have hsw : swapsWith (.Call (.Attribute (.Call (.Name "super" p0) [] [] p1) "__init__" p2) [ea] [] p3) none p4.line (W.ksEnv qual scope L fI (.ref cda) cc) = pure false := rfl
  obtain ⟨pl, hev⟩ := hpl (W.ksEnv qual scope L fI (.ref cda) cc)
  refine ks_wpAt_execs_cons (ks_wpAt_Expr_any (ks_wpAt_MethodCall (pl := pl) ?_ hev) hint hsw)
  refine ks_wpAt_super_base (env := W.ksEnv qual scope L fI (.ref cda) cc) ssup scls (show (("__init__" : Str) == ("__class__" : Str)) = false by decide) rfl (X0 _ _ lf) rfl lar rfl (X0 _ _ lc) rfl lv lfile N.top ?_
  refine W.ks_loadName_global kA ssup (loadGlobal_builtin (env := W.ksEnv qual scope L fI (.ref cda) cc) G0.g G.sup (hb.keeps hk) ((hbb _ (by decide)).trans (by kernel_rfl)) ⟨rfl, ?_⟩)
  refine wpAny_loadName_free kA scls rfl ⟨_, X0 _ _ lcell, rfl⟩ ?_
  rw [lar2]
  refine wpAny_loadName_local kA sself hns (lk_self N.nself) ?_
  refine ks_wpAny_isType_cls (X0 _ _ lC) rfl ⟨rfl, ?_⟩
  refine ks_wpAny_call_super (X0 _ _ lC) rfl hx0 rfl (fun c e => by cases e) (W.looks_mroIn X0 T.sC) (fun h1 so1 kp1 => ?_)
  have X1 : K.In h1 := X0.keeps kp1
  have hx1 := kp1 _ _ hx0
  have I1 : W.InstAt h1 x (W.excObj C t0 none .none) C none := ⟨hx1, rfl, rfl, trivial⟩
  have hcd : W.clsIn K C = some { name := nm, bases := bs, mro := .ref C :: bm, ns := NN, qualname := q, hasDict := hd, slotNames := sn, subclasses := sub, abstract := ab, collection := col, hasDel := false } := by
    unfold W.clsIn
    rw [lC] <;> rfl
  have hsu := T.su
  unfold W.ks_superIn at hsu
  rw [hcd] at hsu
  have hxC : x ≠ C := fun e => by
    have z := X1 _ _ lC
    rw [← e, hx1] at z
    cases z
  refine W.kxs_getMethod T.KF so1 (W.looks_opaque X1 T.op) (l₀ := Value.ref C :: bm) ((W.looks_clsIn X1 hcd).andThen .now) rfl X1 hsu (I1.type.andThen (W.looks_subIn X1 T.sB)) hxC (by decide) ?_
  have kp2 : ∀ b o, h1.get? b = some o → (h1.push (W.kxs_mw initId x)).get? b = some o := fun b o e => Heap.get?_push_of_some _ e
  have hu2 : (h1.push (W.kxs_mw initId x)).get? h1.objs.size = some (W.kxs_mw initId x) := Heap.get?_push_at rfl rfl
  have hns2 := (hns.keeps kp1).keeps kp2
  refine W.kxs_callWith (i := initId) (x := x) (by rw [args1]; rfl) ?_
  rw [args1]
  refine evalArgs_plain ?_
  show wpAny _ _ (spliced ((false, eval ea (W.ksEnv qual scope L fI (.ref cda) cc)) :: backTo p3 (starEach [] (W.ksEnv qual scope L fI (.ref cda) cc)))) _ _ _
  refine spliced_cons (key hns2 fun u1 tk1 => spliced_nil ⟨hu2, ?_⟩)
  refine call_sup T.IN (kp2 _ _ (X1 _ _ lC)) (kp2 _ _ hx1) hu2 (by show 1 ≤ sizeLine; rw [sizeLine_eq]; omega) (fun h3 t1 kp3 hx3 => ?_)
  have neL : L ≠ x := fun e => lt0 (by rw [← e]; exact hL.symm)
  have hns3 : h3.Ns L (fun y => ([("self", Value.ref x), (p, v)] : List (Str × Value)).reverse.lookup y) := hns2.at fun o e => kp3 L o neL e
  have k03 : ∀ b o, b ≠ x → s.heap.get? b = some o → h3.get? b = some o := fun b o hb e => kp3 b o hb (kp2 _ _ (kp1 _ _ (hk _ _ e)))
  have X3 : K.In h3 := fun a o e => k03 a o (fun z => by rw [z, hnx] at e; cases e) (X a o e)
  refine PySem.wpAt_of_wpAny (wpAny_execs_cons (plainObj_wpAny_Assign_Attribute (wpAny_Name (wpAny_loadName_local kA sarg hns3 lk_arg (hself hns3 ?_)) hpd)))
  refine store_end T X3 hx3 (fun h4 tk4 dx E4 => ?_)
  refine wpAny_execs_nil ?_
  refine hq h4 tk4 dx t1 ⟨fun b o hb e => E4.keep b o hb (k03 b o hb e), E4.obj, ?_, E4.dne, E4.ns⟩
  have z := hns3.lt
  rw [hL]
  exact Nat.le_of_lt (Nat.lt_of_lt_of_le z E4.dbig)
end
end U1
set_option maxRecDepth 100000
set_option maxHeartbeats 4000000
namespace U1
open PySem PySem.Calls PyProof.Rows
/-- a made error: its own dict at d holds its one field -/
structure Made (h h' : Heap) (e C d : Addr) (p : Str) (v : Value) : Prop where
  keep : ∀ b o, h.get? b = some o → h'.get? b = some o
  new : h.objs.size ≤ e
  obj : ∃ t1, h'.get? e = some (W.excObj C t1 (some d) .none)
  dbig : h.objs.size ≤ d
  dne : d ≠ e
  ns : h'.Ns1 d (fun y => if y = p then some v else none)
section
variable {P : Program} {w : World} {A : Around} {R : Result → Shared → Prop} {K : W.Frag} {nB newId i0 B initId : String} {b0 bmS : List Value} {C fI : Addr} {p : Str} {mg : Str → Option Value}
theorem own_made (T : OwnC K nB newId i0 b0 B initId bmS C fI p) (N : InitT P K C fI p) {s : Shared} {v : Value} {rest : List Value} {kw : List (Str × Value)} (X : K.In s.heap) (G : GlobT mg s.heap)
    (ha : (rest = [v] ∧ kw = []) ∨ (rest = [] ∧ kw = [(p, v)])) (hroom : A.depth + 1 < recursionLimit) (hq : ∀ h' tk e d, Made s.heap h' e C d p v → R (.ok (.ret (.ref e))) { s with heap := h', toks := tk }) :
    codeAny (model P w) A (.call (.ref C) ⟨rest, kw⟩) R s := by
  obtain ⟨nm, q, NN, bs, bm, hd, sn, sub, ab, col, dd, k0, k1, k2, k3, k5, lC, hB, hA, hN⟩ := T.cls
  obtain ⟨hp, g, d, tk, os⟩ := s
  have hz : rest.length ≤ sizeLine := by
    rcases ha with ⟨rfl, _⟩ | ⟨rfl, _⟩ <;> (rw [sizeLine_eq]; simp)
  have kp : ∀ b o, hp.get? b = some o → ((hp.push (W.excTup rest)).push (W.excObj C hp.objs.size none .none)).get? b = some o := fun b o e => Heap.get?_push_of_some _ (Heap.get?_push_of_some _ e)
  have he : ((hp.push (W.excTup rest)).push (W.excObj C hp.objs.size none .none)).get? (hp.objs.size + 1) = some (W.excObj C hp.objs.size none .none) := by heap_get
  have hsz : ((hp.push (W.excTup rest)).push (W.excObj C hp.objs.size none .none)).objs.size = hp.objs.size + 2 := by rw [Heap.size_push, Heap.size_push]
  have hnx : K.lookup (hp.objs.size + 1) = none := by
    cases e : K.lookup (hp.objs.size + 1) with
    | none => rfl
    | some o => exact absurd (Nat.lt_of_succ_lt (Heap.lt_size (X _ _ e))) (Nat.lt_irrefl _)
  refine call_C T.FN hB hA hN (X _ _ lC) (W.looks_findIn X T.hi) (fun self => W.bind_fn X self T.tI) hz ?_
  have ha2 : (⟨Value.ref (hp.objs.size + 1) :: rest, kw⟩ : Args) = ⟨[.ref (hp.objs.size + 1), v], []⟩ ∨ (⟨Value.ref (hp.objs.size + 1) :: rest, kw⟩ : Args) = ⟨[.ref (hp.objs.size + 1)], [(p, v)]⟩ := by
    rcases ha with ⟨rfl, rfl⟩ | ⟨rfl, rfl⟩
    · exact .inl rfl
    · exact .inr rfl
  refine own_init (mg := mg) (v := v) T N (s := ⟨(hp.push (W.excTup rest)).push (W.excObj C hp.objs.size none .none), g, d, tk, os⟩) (X.keeps kp) (G.keeps kp) he hnx ha2 ?_ fun h' tk' dx t1 E => ?_
  · show A.depth + 1 < recursionLimit
    exact hroom
  · have E1 := E.dbig
    rw [hsz] at E1
    exact ⟨rfl, hq h' tk' (hp.objs.size + 1) dx ⟨fun b o e => E.keep b o (Nat.ne_of_lt (Nat.lt_succ_of_lt (Heap.lt_size e))) (kp b o e), Nat.le_succ _, ⟨t1, E.obj⟩, Nat.le_trans (Nat.le_trans (Nat.le_succ _) (Nat.le_succ _)) E1, E.dne, E.ns⟩⟩
end
end U1
namespace L2
open PySem PySem.Spec PyProof.Rows
section
variable {X : Cx} {nB newId i0 B initId : String} {b0 bmS : List Value} {C fI : Addr} {n : Str}
theorem Inv.globT {pins : List (Addr × Obj)} {σ : St} {H : Hp} {s : Shared} (I : Inv X pins σ H s) (hs : X.mg "super" = none) : U1.GlobT X.mg s.heap :=
  ⟨I.mod.glob.keeps I.bk, let ⟨mb, h1, h2⟩ := I.mod.blt; ⟨mb, h1.keeps I.bk, h2⟩, hs, I.nolimit⟩
/-- C(e) as a value: the error's object, its own dict -/
def tNew (C : Addr) (n : Str) (ta : TA) : TE := fun σ H Q => ta σ H fun vs H1 => ∃ v, vs = [v] ∧ ∀ a d, H1 a = none → H1 d = none → d ≠ a → Q (.ref a) (upd (upd H1 d (exd d [(n, v)])) a (exo a C (some d)))
theorem relO_one {v : V} {v' : Value} (r : RelV v v') (f : Str) : RelO (List.lookup f [(n, v)]) (if f = n then some v' else none) :=
  relO_put (fs := []) (mA := fun _ => none) r (fun _ => True.intro) f
/-- the made error is tracked -/
theorem Inv.madeX {pins : List (Addr × Obj)} {σ : St} {H : Hp} {s : Shared} {h' : Heap} {e d : Addr} {tk : Nat} {v : V} {u : Value} (I : Inv X pins σ H s) (M : U1.Made s.heap h' e C d n u) (r : RelV v u) :
    H e = none ∧ H d = none ∧ Inv X pins σ (upd (upd H d (exd d [(n, v)])) e (exo e C (some d))) { s with heap := h', toks := tk } := by
  have he : H e = none := I.hok.fresh M.new
  have hd : H d = none := I.hok.fresh M.dbig
  obtain ⟨t1, ho⟩ := M.obj
  obtain ⟨G, g1, g2⟩ := restrict h' fun b => decide (b ≠ e)
  have gk : ∀ b, b ≠ e → G.get? b = h'.get? b := fun b hb => g1 b (decide_eq_true hb)
  have ge : G.get? e = none := g2 e (by simp)
  have old : ∀ b o, s.heap.get? b = some o → G.get? b = some o := fun b o q => (gk b (Nat.ne_of_lt (Nat.lt_of_lt_of_le (Heap.lt_size q) M.new))).trans (M.keep b o q)
  have J1 : Inv X pins σ (upd H d (exd d [(n, v)])) { s with heap := G, toks := tk } := I.laid (t' := tk) old M.dbig (exd_ok (M.ns.at fun o q => (gk d M.dne).trans q) (relO_one r))
  have he1 : upd H d (exd d [(n, v)]) e = none := by rw [upd_ne (Ne.symm M.dne)]; exact he
  have up : ∀ b o, G.get? b = some o → h'.get? b = some o := fun b o q => by
    by_cases hb : b = e
    · rw [hb, ge] at q
      cases q
    · exact (gk b hb).symm.trans q
  exact ⟨he, hd, J1.laidN (t' := tk) up ge he1 (exo_ok ho)⟩
variable {e : Expr} {ta : TA} {te : TE} {x : Str} {p pos kpos : Pos} {k : Nat}
/-- the class called -/
theorem run_new {pins : List (Addr × Obj)} {σ : St} {H : Hp} {s : Shared} {Q : VK} {v : V} {u : Value} {rest : List Value} {kw : List (Str × Value)} (T : U1.OwnC X.K nB newId i0 b0 B initId bmS C fI n) (N : U1.InitT X.prog X.K C fI n) (hs : X.mg "super" = none) (hr : Room k X.A)
    (I : Inv X pins σ H s) (r : RelV v u) (ha : (rest = [u] ∧ kw = []) ∨ (rest = [] ∧ kw = [(n, u)]))
    (q : ∀ a d, H a = none → H d = none → d ≠ a → Q (.ref a) (upd (upd H d (exd d [(n, v)])) a (exo a C (some d)))) : wpAny (model X.prog X.w) X.A (call (.ref C) rest kw) (EP X pins σ Q) X.xe s := by
  refine wpAny_call (U1.own_made (mg := X.mg) T N I.kIn (I.globT hs) ha (by have := hr.dp; omega) fun h' tk e d M => ?_)
  obtain ⟨he, hd, J⟩ := I.madeX (tk := tk) M r
  exact ⟨.ref e, _, J, rfl, q e d he hd M.dne⟩
theorem pe_new (T : U1.OwnC X.K nB newId i0 b0 B initId bmS C fI n) (N : U1.InitT X.prog X.K C fI n) (hs : X.mg "super" = none) (hr : Room k X.A) (hk : PySem.W.keepIn X.K (.ref C) = true) (hm : X.mg x = some (.ref C)) (ha : PA X [e] ta) (hg : Gl X x := by rfl)
    (he : starEach (e :: []) X.env = (false, eval e X.env) :: starEach [] X.env := by rfl) (hpl : (backTo pos (starEach [] X.env)).any (·.1) = false := by rfl) (hdb : (x == ("__debug__" : Str)) = false := by decide) :
    PE X (.Call (.Name x p) [e] [] pos) (tNew C n ta) := by
  refine ⟨fun pins s σ H Q I h => ?_⟩
  refine wpAny_Call_Name_kw (ld_glob I hg hm ?_ hdb)
  refine PySem.W.callWith_K (h₀ := X.base) I.ok.mod.kin hk (thn (ha.run pos pins s σ H _ I h) fun us s1 hh => ?_) he hpl
  obtain ⟨vs, H1, I1, r1, v, ev, q1⟩ := hh
  subst ev
  refine ⟨I1.kIn, ?_⟩
  obtain ⟨u, rfl, ru⟩ := vals1 r1
  exact run_new T N hs hr I1 ru (.inl ⟨rfl, rfl⟩) q1
theorem pe_newK (T : U1.OwnC X.K nB newId i0 b0 B initId bmS C fI n) (N : U1.InitT X.prog X.K C fI n) (hs : X.mg "super" = none) (hr : Room k X.A) (hk : PySem.W.keepIn X.K (.ref C) = true) (hm : X.mg x = some (.ref C)) (ha : PK X [⟨some n, e, kpos⟩] ta) (hg : Gl X x := by rfl)
    (hdb : (x == ("__debug__" : Str)) = false := by decide) : PE X (.Call (.Name x p) [] [⟨some n, e, kpos⟩] pos) (tNew C n ta) := by
  refine ⟨fun pins s σ H Q I h => ?_⟩
  refine wpAny_Call_Name_kw (ld_glob I hg hm ?_ hdb)
  refine PySem.W.callWith_KW0 (h₀ := X.base) I.ok.mod.kin hk (by rfl) (thn (ha.run pos pins s σ H _ I h) fun us s1 hh => ?_) (by rfl)
  obtain ⟨vs, H1, I1, r1, v, ev, q1⟩ := hh
  subst ev
  refine ⟨I1.kIn, ?_⟩
  obtain ⟨u, rfl, ru⟩ := vals1 r1
  exact run_new T N hs hr I1 ru (.inr ⟨rfl, rfl⟩) q1
end
end L2
set_option maxRecDepth 100000
set_option maxHeartbeats 4000000
namespace L2
open PySem PySem.Spec PyProof.Rows
/-- what a class of errors must say, so that isinstance asks its instances rightly -/
structure IsC (K : PySem.W.Frag) (C : Addr) : Prop where
  cl : (PySem.W.clsIn K C).isSome = true
  ga : PySem.W.findIn K (.ref C) "__getattribute__" = some (some (.builtin "BaseException.__getattribute__"))
  gg : PySem.W.findIn K (.ref C) "__getattr__" = some none
  sb : PySem.W.subIn K (.ref C) (.type "BaseException") = some true
  ca : PySem.W.findIn K (.ref C) "__class__" = some (some (.builtin "object.__class__"))
  cg : PySem.W.specialIn K (.builtin "object.__class__") "__get__" = some (some (.builtin "getset_descriptor.__get__"))
  ct : PySem.W.takesIn K (.builtin "object.__class__") = some true
  mo : PySem.W.mroIn K C (.type "object") = some true
section
variable {X : Cx} {C : Addr} {n : Str}
/-- a tracked error as an instance -/
theorem inst_of {P : Program} {w : World} {H : Hp} {h : Heap} {a d : Addr} {fs : List (Str × V)} (hok : HOk P w H h) (ea : H a = some (exo a C (some d))) (ed : H d = some (exd d fs)) :
    ∃ (ox od : Obj) (mA : Str → Option Value), PySem.W.InstAt h a ox C (some od) ∧ (∀ f, PySem.W.lookIn f od = some (mA f)) ∧ ∀ f, RelO (fs.lookup f) (mA f) := by
  obtain ⟨t1, ho⟩ := exo_at hok ea
  obtain ⟨mA, hn, r⟩ := exd_at hok ed
  obtain ⟨od, hod, hl⟩ := lookIn_ns hn
  exact ⟨_, od, mA, ⟨ho, rfl, rfl, hod⟩, hl, r⟩
/-- e.n, e a tracked error -/
def tXat (K : PySem.W.Frag) (n : Str) (te : TE) : TE := fun σ H Q => te σ H fun x H1 => ∃ (a C d : Addr) (fs : List (Str × V)) (v : V), x = .ref a ∧ XfC K C ∧ PySem.W.findIn K (.ref C) n = some none ∧ H1 a = some (exo a C (some d)) ∧ H1 d = some (exd d fs) ∧ fs.lookup n = some v ∧ Q v H1
theorem pe_xat {e : Expr} {te : TE} {pos : Pos} (he : PE X e te) (hb : attributeBase e n X.env (eval e X.env) = eval e X.env := by rfl) : PE X (.Attribute e n pos) (tXat X.K n te) := by
  refine ⟨fun pins s σ H Q I h => ?_⟩
  refine attr_of hb (thn (he.run pins s σ H _ I h) fun u s1 hh => ?_)
  obtain ⟨x, H1, I1, rx, a, C, d, fs, v, ex, T, hno, ea, ed, l, q⟩ := hh
  subst ex
  obtain rfl : u = Value.ref a := rx
  obtain ⟨ox, od, mA, J, hl, r⟩ := inst_of I1.hok ea ed
  obtain ⟨z, hz, rz⟩ := RelO.some_of (v := v) (o := mA n) (by rw [← l]; exact r n)
  exact HandSPX.exc_get I1.kIn J T.ga T.gg T.exC (PySem.W.findObj_own T.hdC hno rfl (by rw [hl, hz])) (handed_of rz) ⟨v, H1, I1.tok _, rz, q⟩
/-- isinstance(e, c), e a tracked error -/
def rIsX (K : PySem.W.Frag) : List V → Hp → VK → Prop := fun xs H Q => ∃ (a C d : Addr) (fs : List (Str × V)) (c : V) (cv : Value) (b : Bool), xs = [.ref a, c] ∧ IsC K C ∧ H a = some (exo a C (some d)) ∧ H d = some (exd d fs) ∧ (∀ u, RelV c u → u = cv) ∧ PySem.W.kitOne K (.ref C) cv = some b ∧ Q (.bl b) H
theorem call_isX : CallR X (.builtin "isinstance") (rIsX X.K) := by
  intro pins s σ H xs us Q I r h
  obtain ⟨a, C, d, fs, c, cv, b, rfl, T, ea, ed, hc, e, q⟩ := h
  obtain ⟨u1, u2, rfl, r1, r2⟩ := vals2 r
  obtain rfl : u1 = Value.ref a := r1
  have e2 := hc _ r2
  subst e2
  obtain ⟨ox, od, mA, J, hl, rr⟩ := inst_of I.hok ea ed
  exact PySem.W.kia_one (PySem.W.kitx_exc T.cl T.ga T.gg T.sb T.ca T.cg T.ct T.mo) I.kIn J e (fun z => nomatch z) fun tk => ⟨.bl b, H, I.tok tk, rfl, q⟩
/-- isinstance(e, c), e the error that the suite holds -/
def rIsP (K : PySem.W.Frag) (a : Addr) (cls : Value) (d : Option Addr) : List V → Hp → VK → Prop := fun xs H Q => ∃ (C dd : Addr) (fs : List (Str × V)) (c : V) (cv : Value) (b : Bool), xs = [.ref a, c] ∧ cls = .ref C ∧ IsC K C ∧ d = some dd ∧ H dd = some (.xd fs) ∧ (∀ u, RelV c u → u = cv) ∧ PySem.W.kitOne K (.ref C) cv = some b ∧ Q (.bl b) H
theorem call_isP {a : Addr} {oe : Obj} {cls : Value} {d : Option Addr} {pn : List (Addr × Obj)} (hz : Zc cls d oe) (hf : ∃ vs, oe.data = .fields vs) : CallR (X.suite a ((a, oe) :: pn)) (.builtin "isinstance") (rIsP X.K a cls d) := by
  intro pins s σ H xs us Q I r h
  obtain ⟨C, dd, fs, c, cv, b, rfl, rfl, T, rfl, ed, hc, e, q⟩ := h
  obtain ⟨u1, u2, rfl, r1, r2⟩ := vals2 r
  obtain rfl : u1 = Value.ref a := r1
  have e2 := hc _ r2
  subst e2
  obtain ⟨hget, -⟩ := I.pin (a, oe) (List.mem_append.mpr (.inl List.mem_cons_self))
  obtain ⟨mA, hns, -⟩ := (show ObjOk X.prog X.w H s.heap dd (.xd fs) from I.hok dd _ ed)
  obtain ⟨od, hod, -⟩ := lookIn_ns hns
  obtain ⟨vs, hv⟩ := hf
  have J : PySem.W.InstAt s.heap a oe C (some od) := ⟨hget, hz.1, by unfold PySem.W.notCls; rw [hv] <;> rfl, by rw [hz.2]; exact hod⟩
  exact PySem.W.kia_one (PySem.W.kitx_exc T.cl T.ga T.gg T.sb T.ca T.cg T.ct T.mo) I.kIn J e (fun z => nomatch z) fun tk => ⟨.bl b, H, I.kept (t' := tk) fun _ _ z => z, rfl, q⟩
end
section
variable {X : Cx} {nB newId i0 B initId : String} {b0 bmS : List Value} {C fI : Addr} {n : Str} {e : Expr} {ta : TA} {x : Str} {p pos : Pos} {k : Nat}
/-- C(e) as what is raised -/
def tMkN (C : Addr) (n : Str) (ta : TA) : St → Hp → XK → Prop := fun σ H Q => ta σ H fun vs H1 => ∃ v, vs = [v] ∧ ∀ d, H1 d = none → Q (.ref C) (some d) (upd H1 d (.xd [(n, v)]))
theorem pmk_new (T : U1.OwnC X.K nB newId i0 b0 B initId bmS C fI n) (N : U1.InitT X.prog X.K C fI n) (hs : X.mg "super" = none) (hr : Room k X.A) (hk : PySem.W.keepIn X.K (.ref C) = true) (hm : X.mg x = some (.ref C)) (rs : Raises X (.ref C)) (ha : PA X [e] ta)
    (hg : Gl X x := by rfl) (he : starEach (e :: []) X.env = (false, eval e X.env) :: starEach [] X.env := by rfl) (hpl : (backTo pos (starEach [] X.env)).any (·.1) = false := by rfl) (hdb : (x == ("__debug__" : Str)) = false := by decide) :
    PMk X (.Call (.Name x p) [e] [] pos) (tMkN C n ta) := by
  intro pins s σ H Q I h
  refine wpAny_Call_Name_kw (ld_glob I hg hm ?_ hdb)
  refine PySem.W.callWith_K (h₀ := X.base) I.ok.mod.kin hk (thn (ha.run pos pins s σ H _ I h) fun us s1 hh => ?_) he hpl
  obtain ⟨vs, H1, I1, r1, v, ev, q1⟩ := hh
  subst ev
  refine ⟨I1.kIn, ?_⟩
  obtain ⟨u, rfl, ru⟩ := vals1 r1
  show wpAny _ _ (call (.ref C) [u]) _ _ _
  refine wpAny_call (U1.own_made (mg := X.mg) T N I1.kIn (I1.globT hs) (.inl ⟨rfl, rfl⟩) (by have := hr.dp; omega) fun h' tk ex d M => ?_)
  show MkP X pins σ Q (.ref ex) _
  obtain ⟨t1, ho⟩ := M.obj
  obtain ⟨G, g1, g2⟩ := restrict h' fun b => decide (b ≠ ex)
  have gk : ∀ b, b ≠ ex → G.get? b = h'.get? b := fun b hb => g1 b (decide_eq_true hb)
  have ge : G.get? ex = none := g2 ex (by simp)
  have old : ∀ b o, s1.heap.get? b = some o → G.get? b = some o := fun b o q => (gk b (Nat.ne_of_lt (Nat.lt_of_lt_of_le (Heap.lt_size q) M.new))).trans (M.keep b o q)
  have ob : ObjOk X.prog X.w (upd H1 d (.xd [(n, v)])) G d (.xd [(n, v)]) := ⟨_, M.ns.at fun o q => (gk d M.dne).trans q, fun f => relO_one ru f⟩
  have J : Inv X pins σ (upd H1 d (.xd [(n, v)])) { s1 with heap := G, toks := tk } := I1.laid (t' := tk) old M.dbig ob
  refine ⟨ex, _, _, { s1 with heap := G, toks := tk }, _, .ref C, some d, rfl, J, fun b o q => ?_, ge, ho, ⟨rfl, rfl⟩, rfl, rfl, ?_, rfl, I1.bare, rs, q1 d (I1.hok.fresh M.dbig)⟩
  · by_cases hb : b = ex
    · have q' : G.get? b = some o := q
      rw [hb, ge] at q'
      cases q'
    · exact (gk b hb).symm.trans q
  · rw [upd_ne (Ne.symm M.dne)]
    exact I1.hok.fresh M.new
end
end L2
set_option maxRecDepth 100000
set_option maxHeartbeats 4000000
namespace L2
open PySem PySem.Spec PyProof.Rows
/-! ### a def that is called where no repr runs -/
structure FnG (P : Program) (w : World) (K : PySem.W.Frag) (mg : Str → Option Value) (base : Heap) (k : Nat) (f : Addr) (fd : FuncData) (ps : List Str) (sp : Sp) : Prop where
  len : ∀ vs H Q E, sp vs H Q E → vs.length = ps.length
  run : ∀ (A : Around) (outer : List Env) (s : Shared) (H : Hp) (args : Args) (us : List Value) (vs : List V) (Q : VK) (E : XK), A.guards = some [] → Room k A → Env0 P w K mg base A outer s H → BindsTo s fd args (ps.zip us) → Vals vs us → sp vs H Q E →
    codeAny (model P w) A (.call (.ref f) args) (CR CX0 outer P w H s Q E) s
section
variable {P : Program} {w : World} {K : PySem.W.Frag} {mg : Str → Option Value} {base : Heap}
theorem Fun.okG {x qual : Str} {st : Stmt} {f : Addr} {fd : FuncData} {N ps : List Str} {k : Nat} {sp : Sp} (F : Fun K x qual st f fd) (S : FnScope N ps (defScope st)) (len : ∀ vs H Q E, sp vs H Q E → vs.length = ps.length)
    (hbody : ∀ (cdv : Value) (A : Around) (outer : List Env) (s : Shared) (H : Hp) (vs : List V) (Q : VK) (E : XK), A.guards = some [] → Room k (A.deeper (envOfC qual (defScope st) s.heap.objs.size f cdv)) → sp vs H Q E →
      ∃ t, PSs (cxOf CX0 P w K mg base N qual (defScope st) f cdv A outer s H E).nox (defBody st) t ∧ t { nx := fun _ H' => Q .non H', rt := Q } (start N vs) H) : FnG P w K mg base (k + 1) f fd ps sp := by
  obtain ⟨oc, od, kV, doc, pm, an, cdv, ct, osl, rfl, lk, hcd⟩ := F.ex
  refine ⟨len, fun A outer s H args us vs Q E hg hr e0 hb r hsp => ?_⟩
  obtain ⟨t, ht, hq⟩ := hbody cdv A outer s H vs Q E hg (hr.deeper _) hsp
  have KX : K.In s.heap := e0.mod.kin.keeps fun b o z => (e0.bs b o z).1
  have inPar : ∀ y ∈ ps.zip us, (defScope st).names.lookup y.1 = some .local ∨ ((defScope st).names.lookup y.1 = some .cell ∧ ((cellsFrom (s.heap.objs.size + 1) (defScope st).names []).lookup y.1).isSome = true) := by
    intro y hy
    have hin : y.1 ∈ ps := (List.of_mem_zip (a := y.1) (b := y.2) hy).1
    rcases S.par y.1 hin with z | z
    · exact .inl z
    · exact .inr ⟨z, PySem.W.cellsFrom_some _ _ _ (.inl z)⟩
  refine codeAny_call_function hr.depth (KX _ _ lk) rfl S.co S.gen rfl (PySem.W.codeRec_of KX hcd) (hb _ _ _ _ ?_)
  refine wpAny_newFunctionEnv_cells S.kind inPar fun env he s1 ic => ?_
  subst he
  have I := inv_start (CX := CX0) (E := E) (cd := cdv) (qual := qual) (f := f) S hr.hd e0 (len _ _ _ _ hsp) r ic
  refine ⟨(e0.mod.nolimit.keeps fun b o z => (e0.bs b o z).1).keeps ic.toInCall.keep, codeAny_func ?_⟩
  refine wpAny_mono (ht.nox.run [] s1 (start N vs) H _ I hq) (fun fl s' q => ?_) fun _ _ z => z
  cases fl with
  | next =>
    obtain ⟨σ', H', J, z⟩ := q
    exact ⟨.non, H', J.os, J.bare, J.base, J.hok, rfl, z⟩
  | ret u =>
    obtain ⟨v, σ', H', J, rv, z⟩ := q
    exact ⟨v, H', J.os, J.bare, J.base, J.hok, rv, z⟩
  | brk =>
    obtain ⟨_, _, _, z⟩ := q
    exact z.elim
  | cont =>
    obtain ⟨_, _, _, z⟩ := q
    exact z.elim
end
section
variable {X : Cx} {k : Nat} {f : Addr} {fd : FuncData} {ps : List Str} {sp : Sp} {x : Str} {p pos : Pos} {e : Expr} {es : List Expr} {t : TA}
theorem pe_callG (F : FnG X.prog X.w X.K X.mg X.base k f fd ps sp) (hg : X.A.guards = some []) (hr : Room k X.A) (gl : Gl X x) (hm : X.mg x = some (.ref f)) (hk : PySem.W.keepIn X.K (.ref f) = true) (hb : Binds X.K fd ps []) (ha : PA X (e :: es) t)
    (hdb : (x == ("__debug__" : Str)) = false := by decide) (he : starEach (e :: es) X.env = (false, eval e X.env) :: starEach es X.env := by rfl) (hpl : (backTo pos (starEach es X.env)).any (·.1) = false := by rfl) :
    PE X (.Call (.Name x p) (e :: es) [] pos) (tCall sp [] E0 t) := by
  refine ⟨fun pins s σ H Q I h => ?_⟩
  refine wpAny_Call_Name_kw (ld_glob I gl hm ?_ hdb)
  refine PySem.W.callWith_K (h₀ := X.base) I.ok.mod.kin hk (thn (ha.run pos pins s σ H _ I h) fun us s1 hh => ?_) he hpl
  obtain ⟨vs, H1, I1, r, q⟩ := hh
  refine ⟨I1.kIn, ?_⟩
  have q' : sp vs H1 Q E0 := by
    have z : sp (vs ++ []) H1 Q E0 := q
    rw [List.append_nil] at z
    exact z
  have hl : us.length = ps.length := r.length.symm.trans (F.len _ _ _ _ q')
  have b := hb s1 us I1.kIn (by rw [List.append_nil]; exact hl)
  rw [List.append_nil] at b
  refine wpAny_call (codeAny_mono (F.run X.A X.stack s1 H1 ⟨us, []⟩ us vs Q E0 hg hr I1.env0 b r q') fun res s' z => ?_)
  cases res with
  | error er => exact False.elim z
  | ok fl =>
    cases fl with
    | ret u => exact I1.after z
    | next => exact False.elim z
    | brk => exact False.elim z
    | cont => exact False.elim z
end
end L2
set_option maxRecDepth 100000
set_option maxHeartbeats 4000000
namespace L2
open PySem PySem.Spec PyProof.Rows
/-! ### try: body, then clauses one behind another, each with or without a name -/
abbrev Cl3 := Value × Option Nat × (Addr → Value → Option Addr → TS)
/-- the wishes behind a suite, its name (slot i) gone -/
def gone (i : Nat) (D : Ends) : Ends := { nx := fun σ' H' => D.nx (σ'.set i none) H', rt := D.rt, bk := fun σ' H' => D.bk (σ'.set i none) H', ct := fun σ' H' => D.ct (σ'.set i none) H' }
def suiteOf (c : Cl3) (cls : Value) (d : Option Addr) (D : Ends) (σ : St) (H : Hp) : Prop := match c.2.1 with
  | none => ∀ a, H a = none → c.2.2 a cls d D σ H
  | some i => ∀ a, H a = none → c.2.2 a cls d (gone i D) (σ.set i (some (.ref a))) H
def wCl (K : PySem.W.Frag) (Wout : WX) (D : Ends) : List Cl3 → WX
  | [] => Wout
  | c :: r => fun cls d σ H => ∃ b, PySem.W.exmOne K cls c.1 = some b ∧ (b = true → suiteOf c cls d D σ H) ∧ (b = false → wCl K Wout D r cls d σ H)
inductive ClsOk (X : Cx) : List ExceptHandler → List Cl3 → Prop
  | nil : ClsOk X [] []
  | bare {x : Str} {c : Value} {ts : Addr → Value → Option Addr → TS} {b₀ : Stmt} {suite : List Stmt} {np pos' : Pos} {hds : List ExceptHandler} {l : List Cl3} (hc : Names X x c)
      (hsu : ∀ (a : Addr) (oe : Obj) (cls : Value) (d : Option Addr) (pn : List (Addr × Obj)), Zc cls d oe → (∃ vs, oe.data = .fields vs) → PSs (X.suite a ((a, oe) :: pn)) (b₀ :: suite) (ts a cls d)) (r : ClsOk X hds l) :
      ClsOk X (.ExceptHandler (some (.Name x np)) none (b₀ :: suite) pos' :: hds) ((c, none, ts) :: l)
  | named {x n : Str} {i : Nat} {c : Value} {ts : Addr → Value → Option Addr → TS} {b₀ : Stmt} {suite : List Stmt} {np pos' : Pos} {hds : List ExceptHandler} {l : List Cl3} (hc : Names X x c) (hi : X.N[i]? = some n) (hln : X.env.kindOf n = some .local)
      (hsu : ∀ (a : Addr) (oe : Obj) (cls : Value) (d : Option Addr) (pn : List (Addr × Obj)), Zc cls d oe → (∃ vs, oe.data = .fields vs) → PSs (X.suite a ((a, oe) :: pn)) (b₀ :: suite) (ts a cls d)) (r : ClsOk X hds l) :
      ClsOk X (.ExceptHandler (some (.Name x np)) (some n) (b₀ :: suite) pos' :: hds) ((c, some i, ts) :: l)
section
variable {X : Cx} {body : List Stmt} {h₀ : ExceptHandler} {hds : List ExceptHandler} {l : List Cl3} {pos : Pos} {tb : WX → TS} {Wout : WX}
theorem ps_try_cl (hs : X.stack = X.env :: X.outer) (hf : X.env.frame = some X.env.locals) (hN : X.N.Nodup) (tk : Takes X Wout)
    (hb : ∀ (W : WX) (pn : List (Addr × Obj)) (xe : Value → Shared → Prop), Takes (X.tr pn xe) W → PassesOwn (model X.prog X.w) X.A X.env xe → PSs (X.tr pn xe) body (tb W))
    (hh : ClsOk X (h₀ :: hds) l) : PS X (.Try body (h₀ :: hds) [] [] pos) (fun D σ H => tb (wCl X.K Wout D l) D σ H) := by
  refine ⟨fun pins s σ H D I h => ?_⟩
  have ok := I.ok
  have hfr : X.A.frames = some (X.env :: X.outer) := by rw [ok.frames, hs]
  refine wpAny_Try_except ?_
  have catches : Takes (X.tr (X.pn ++ pins) (fun e s₁ => wpAny (model X.prog X.w) X.A (noteFrame e X.env) (fun _ s₂ => wpAny (model X.prog X.w) X.A (setFlight e none) (fun _ s₃ => wpAny (model X.prog X.w) X.A (handleBy e X.env (h₀ :: hds)) (SP X pins D) X.xe s₃) X.xe s₂) X.xe s₁)) (wCl X.K Wout D l) := by
    intro u s' xx
    obtain ⟨a, B, sI, pins', σ', H', cls, d, rfl, J', nb, up, sky, na, os, ag, w⟩ := xx
    have J : Inv X pins σ' H' sI := J'.ofTry ok
    have sky' : Sky B (X.env :: X.outer) a (Zc cls d) X.env.locals s'.heap := by rw [← hs]; exact sky
    show wpAny (model X.prog X.w) X.A (noteFrame (.ref a) X.env) _ _ _
    refine Sky.land Zc.steady hfr hf sky' fun h3 fl3 up3 => ?_
    have J3 : Inv X pins σ' H' { s' with heap := h3 } := J.landed nb fl3.1 (up.trans up3) os ag
    obtain ⟨oe3, vs3, he3, hz3, hd3⟩ := fl3.there
    have offFrames : a ∉ frs (X.env :: X.outer) := fun hm => by
      obtain ⟨_, o', e', hnf⟩ := fl3.2.2.1.mem hm
      rw [he3] at e'
      cases e'
      exact hnf _ hd3
    have nL : a ≠ X.env.locals := fun z => offFrames (List.mem_filterMap.mpr ⟨X.env, List.mem_cons_self, by rw [hf, z]⟩)
    have nF : a ∉ X.fs := fun hm => by
      obtain ⟨e, he, q⟩ := List.mem_filterMap.mp hm
      exact offFrames (List.mem_filterMap.mpr ⟨e, List.mem_cons_of_mem _ he, q⟩)
    have S3 := J3.suite he3 hd3 na nL nF
    have LT : PySem.W.Looks (model X.prog X.w) h3 (typeOf (.ref a)) cls := fun A Q E s k q => wpAny_typeOf_ref (k _ _ he3) (by rw [hz3.1]; exact q)
    have named : ∀ {x : Str} {c : Value} {np : Pos} {Q : Value → Shared → Prop} {E : Value → Shared → Prop}, Names X x c → Q c { s' with heap := h3 } → wpAny (model X.prog X.w) (X.A.mark (some (.ref a))) (eval (.Name x np) X.env) Q E { s' with heap := h3 } := fun {x c np Q E} hc q => by
      obtain ⟨hg, hdbg, hm | ⟨hm, hv, hnn⟩⟩ := hc
      · exact ld_glob (X := X.suite a ((a, oe3) :: (X.pn ++ pins))) S3 hg hm q hdbg
      · exact ld_blt (X := X.suite a ((a, oe3) :: (X.pn ++ pins))) S3 hg hm hv q hnn hdbg
    have go : ∀ {hds' : List ExceptHandler} {l' : List Cl3}, ClsOk X hds' l' → wCl X.K Wout D l' cls d σ' H' → wpAny (model X.prog X.w) X.A (handleBy (.ref a) X.env hds') (SP X pins D) X.xe { s' with heap := h3 } := by
      intro hds' l' hk
      induction hk with
      | nil =>
        intro w
        refine wpAny_handleBy_nil ?_
        obtain ⟨k1, k2, k3, oe, vs, T, oT, ts', he, hz, hd, h1, hr⟩ := id fl3
        unfold PySem.passOn
        refine wpAny_bind (wpAny_field he hd h1 ?_)
        rw [if_neg (show ¬ ((Value.ref T == Value.none) = true) from by simp)]
        have fin : wpAny (model X.prog X.w) X.A (setFlight (.ref a) X.env.frame) (fun _ s4 => wpAny (model X.prog X.w) X.A (throw (.ref a) : Sem Flow) (SP X pins D) X.xe s4) X.xe { s' with heap := h3 } := by
          rw [hf]
          refine HandSPX.setFlight_upZ fl3 fun h4 hh4 up4 => wpAny_throw (tk _ _ ?_)
          exact ⟨a, B, sI, pins, σ', H', cls, d, rfl, J, nb, (up.trans up3).trans up4, .inr (.inr (by rw [hs]; exact hh4)), na, os, ag, w⟩
        first
          | exact wpAny_bind (wpAny_pure (wpAny_bind fin))
          | exact wpAny_bind fin
      | @bare x c ts b₀ suite np pos' hds2 l2 hc hsu r ih =>
        intro w
        obtain ⟨b, hb1, hyes, hno⟩ := w
        refine wpAny_handleBy_cons (codeAny_handlers_test ?_) (by intro q; cases q)
        have LM := PySem.W.exm_one (M := model X.prog X.w) (J3.kIn) LT hb1
        refine named hc (LM.here ?_)
        cases b with
        | true =>
          refine codeAny_handlers_suite ?_
          refine HandSPX.lands_againZ fl3 fun h4 fl4 up4 => ?_
          have J4 : Inv X pins σ' H' { s' with heap := h4 } := J.landed nb fl4.1 ((up.trans up3).trans up4) os ag
          obtain ⟨oe4, vs4, he4, hz4, hd4⟩ := fl4.there
          have S4 := J4.suite he4 hd4 na nL nF
          refine wpAny_mono ((hsu a oe4 cls d (X.pn ++ pins) hz4 ⟨_, hd4⟩).run [] _ _ H' _ S4 (hyes rfl a na)) (fun f s6 hsp => ?_) (fun _ _ z => False.elim z)
          cases f with
          | ret u =>
            obtain ⟨v6, σ6, H6, S6, r6, q6⟩ := hsp
            exact ⟨v6, σ6, H6, S6.unsuite ok, r6, q6⟩
          | next =>
            obtain ⟨σ6, H6, S6, q6⟩ := hsp
            exact ⟨σ6, H6, S6.unsuite ok, q6⟩
          | brk =>
            obtain ⟨σ6, H6, S6, q6⟩ := hsp
            exact ⟨σ6, H6, S6.unsuite ok, q6⟩
          | cont =>
            obtain ⟨σ6, H6, S6, q6⟩ := hsp
            exact ⟨σ6, H6, S6.unsuite ok, q6⟩
        | false =>
          show wpAny _ X.A (handleBy (.ref a) X.env hds2) _ _ _
          exact ih (hno rfl)
      | @named x n i c ts b₀ suite np pos' hds2 l2 hc hi hln hsu r ih =>
        intro w
        obtain ⟨b, hb1, hyes, hno⟩ := w
        refine wpAny_handleBy_cons (codeAny_handlers_test ?_) (by intro q; cases q)
        have LM := PySem.W.exm_one (M := model X.prog X.w) (J3.kIn) LT hb1
        refine named hc (LM.here ?_)
        cases b with
        | true =>
          refine codeAny_handlers_suite_as ?_
          refine HandSPX.lands_againZ fl3 fun h4 fl4 up4 => ?_
          have J4 : Inv X pins σ' H' { s' with heap := h4 } := J.landed nb fl4.1 ((up.trans up3).trans up4) os ag
          obtain ⟨oe4, vs4, he4, hz4, hd4⟩ := fl4.there
          have S4 := J4.suite he4 hd4 na nL nF
          refine store_ok (X := X.suite a ((a, oe4) :: (X.pn ++ pins))) (v := .ref a) S4 hN hi (.inl hln) rfl (fun s5 S5 => ?_) (.inr hln)
          refine wpAny_mono ((hsu a oe4 cls d (X.pn ++ pins) hz4 ⟨_, hd4⟩).run [] s5 _ H' _ S5 (hyes rfl a na)) (fun f s6 hsp => ?_) (fun _ _ z => False.elim z)
          have fin : ∀ {σ6 : St} {H6 : Hp} {Q : Shared → Prop}, Inv (X.suite a ((a, oe4) :: (X.pn ++ pins))) [] σ6 H6 s6 → (∀ s7, Inv X pins (σ6.set i none) H6 s7 → Q s7) →
              wpAny (model X.prog X.w) X.A (do bindName X.env n .none; unbindBehindTheSuite X.env n pos') (fun _ s7 => Q s7) X.xe s6 := fun {σ6 H6 Q} S6 hq => gone_ok (S6.unsuite ok) hN hi hln hq
          cases f with
          | ret u =>
            obtain ⟨v6, σ6, H6, S6, r6, q6⟩ := hsp
            exact fin S6 fun s7 J7 => ⟨v6, _, H6, J7, r6, q6⟩
          | next =>
            obtain ⟨σ6, H6, S6, q6⟩ := hsp
            exact fin S6 fun s7 J7 => ⟨_, H6, J7, q6⟩
          | brk =>
            obtain ⟨σ6, H6, S6, q6⟩ := hsp
            exact fin S6 fun s7 J7 => ⟨_, H6, J7, q6⟩
          | cont =>
            obtain ⟨σ6, H6, S6, q6⟩ := hsp
            exact fin S6 fun s7 J7 => ⟨_, H6, J7, q6⟩
        | false =>
          show wpAny _ X.A (handleBy (.ref a) X.env hds2) _ _ _
          exact ih (hno rfl)
    exact go hh w
  refine wpAny_mono ((hb (wCl X.K Wout D l) (X.pn ++ pins) _ catches PassesOwn.looking).run [] s σ H D (I.toTry _) h) (fun f s1 hsp => ?_) (fun e s1 he => he)
  cases f with
  | ret u =>
    obtain ⟨v, σ', H', J', r, q⟩ := hsp
    exact ⟨v, σ', H', J'.ofTry ok, r, q⟩
  | next =>
    obtain ⟨σ', H', J', q⟩ := hsp
    exact wpAny_execs_nil ⟨σ', H', J'.ofTry ok, q⟩
  | brk =>
    obtain ⟨σ', H', J', q⟩ := hsp
    exact ⟨σ', H', J'.ofTry ok, q⟩
  | cont =>
    obtain ⟨σ', H', J', q⟩ := hsp
    exact ⟨σ', H', J'.ofTry ok, q⟩
end
end L2
set_option maxRecDepth 100000
set_option maxHeartbeats 4000000
namespace L2
open PySem PySem.Spec PyProof.Rows
/-! ### data that a repr may show: no dict lies within a list or a tuple -/
mutual
inductive Th (H : Hp) : V → PyData → Prop
  | non : Th H .non .none
  | bl (b : Bool) : Th H (.bl b) (.bool b)
  | int (i : Int) : Th H (.int i) (.int i)
  | str (x : Str) : Th H (.str x) (.str x)
  | lst {a : Addr} {xs : List V} {ds : List PyData} : H a = some (.lst xs) → PyData.hasDictAll ds = false → ThAll H xs ds → Th H (.ref a) (.list ds)
  | tup {a : Addr} {xs : List V} {ds : List PyData} : H a = some (.tup xs) → PyData.hasDictAll ds = false → ThAll H xs ds → Th H (.ref a) (.tuple ds)
  | d0 {a : Addr} : H a = some (.dK []) → Th H (.ref a) (.dict [])
  | d1 {a : Addr} {x : Str} {i : Int} : H a = some (.dK [(Sum.inr x, .int i)]) → Th H (.ref a) (.dict [(.str x, .int i)])
inductive ThAll (H : Hp) : List V → List PyData → Prop
  | nil : ThAll H [] []
  | cons {v : V} {vs : List V} {d : PyData} {ds : List PyData} : Th H v d → ThAll H vs ds → ThAll H (v :: vs) (d :: ds)
end
mutual
theorem Th.same {H H' : Hp} (S : Same H H') : ∀ {v : V} {d : PyData}, Th H v d → Th H' v d
  | _, _, .non => .non
  | _, _, .bl b => .bl b
  | _, _, .int i => .int i
  | _, _, .str x => .str x
  | _, _, .lst h n t => .lst (S _ _ h) n (ThAll.same S t)
  | _, _, .tup h n t => .tup (S _ _ h) n (ThAll.same S t)
  | _, _, .d0 h => .d0 (S _ _ h)
  | _, _, .d1 h => .d1 (S _ _ h)
theorem ThAll.same {H H' : Hp} (S : Same H H') : ∀ {vs : List V} {ds : List PyData}, ThAll H vs ds → ThAll H' vs ds
  | _, _, .nil => .nil
  | _, _, .cons h t => .cons (Th.same S h) (ThAll.same S t)
end
section
variable {P : Program} {w : World} {H : Hp} {h : Heap}
mutual
theorem Th.reads (ok : HOk P w H h) : ∀ {v : V} {d : PyData} {u : Value}, Th H v d → RelV v u → ∃ as, Reads h u d as ∧ (d.hasDict = true → sysModules ∉ as)
  | _, _, _, .non, r => ⟨[], by cases r; exact .none, fun z => by simp [PyData.hasDict] at z⟩
  | _, _, _, .bl b, r => ⟨[], by cases r; exact .bool b, fun z => by simp [PyData.hasDict] at z⟩
  | _, _, _, .int i, r => ⟨[], by obtain ⟨t, rfl⟩ := r; exact .int i t, fun z => by simp [PyData.hasDict] at z⟩
  | _, _, _, .str x, r => ⟨[], by obtain ⟨t, rfl⟩ := r; exact .str x t, fun z => by simp [PyData.hasDict] at z⟩
  | _, _, _, .lst (a := a) (xs := xs) e n t, r => by
    cases r
    obtain ⟨_, its, m, rv, ho⟩ := (show ObjOk P w H h a (.lst xs) from ok a _ e)
    obtain ⟨as, ra⟩ := ThAll.reads ok t rv
    exact ⟨_, .list ho rfl rfl ra, fun z => by rw [PyData.hasDict, n] at z; cases z⟩
  | _, _, _, .tup (a := a) (xs := xs) e n t, r => by
    cases r
    obtain ⟨_, its, rv, o, ho, hc, m, hd⟩ := (show ObjOk P w H h a (.tup xs) from ok a _ e)
    obtain ⟨as, ra⟩ := ThAll.reads ok t rv
    exact ⟨_, .tuple ho hc hd ra, fun z => by rw [PyData.hasDict, n] at z; cases z⟩
  | _, _, _, .d0 (a := a) e, r => by
    cases r
    obtain ⟨_, ns, vs, kv, o, es, ep, ho, hx, hd, hk, hp, _⟩ := (show ObjOk P w H h a (.dK []) from ok a _ e)
    cases kv
    have e0 : es.toList = [] := by
      generalize es.toList = l at hp
      cases hp
      rfl
    refine ⟨a :: [] ++ [], .dict (kvs := []) ho hx.1 hd (by rw [e0]; exact .nil) (by rw [e0]; exact .nil), fun _ z => ?_⟩
    have z' : sysModules = a := by simpa using z
    rw [← z'] at ns
    simp at ns
  | _, _, _, .d1 (a := a) (x := x) (i := i) e, r => by
    cases r
    obtain ⟨_, ns, vs, kv, o, es, ep, ho, hx, hd, hk, hp, _⟩ := (show ObjOk P w H h a (.dK [(Sum.inr x, .int i)]) from ok a _ e)
    obtain ⟨q, rfl, ek, t, rv⟩ : ∃ q : Key × Value, vs = [q] ∧ Sum.inr x = q.1 ∧ ∃ t, q.2 = .int i t := by
      cases kv with
      | @cons _ q _ _ qk tl =>
        cases tl
        exact ⟨q, rfl, qk.1, qk.2⟩
    obtain ⟨k', v'⟩ := q
    dsimp only at ek rv
    subst ek rv
    obtain ⟨en, el, e1, t2, e2⟩ : ∃ en : DictEntry, es.toList = [en] ∧ en.val = .int i t ∧ ∃ t2, en.key = .str x t2 := by
      generalize es.toList = l at hp
      cases hp with
      | @cons en _ _ _ hk1 hv1 hr1 =>
        cases hr1
        refine ⟨en, rfl, hv1, ?_⟩
        rcases keyIs_shape (k := Sum.inr x) (v := en.key) hk1 with ⟨j, u, z, _⟩ | ⟨y, u, z, e⟩
        · cases z
        · cases z
          exact ⟨u, e⟩
    refine ⟨a :: ([] ++ []) ++ ([] ++ []), .dict (kvs := [(.str x, .int i)]) ho hx.1 hd ?_ ?_, fun _ z => ?_⟩
    · rw [el]
      show ReadsAll h [en.key] [.str x] _
      rw [e2]
      exact .cons (.str x t2) .nil
    · rw [el]
      show ReadsAll h [en.val] [.int i] _
      rw [e1]
      exact .cons (.int i t) .nil
    · have z' : sysModules = a := by simpa using z
      rw [← z'] at ns
      simp at ns
theorem ThAll.reads (ok : HOk P w H h) : ∀ {vs : List V} {ds : List PyData} {us : List Value}, ThAll H vs ds → Vals vs us → ∃ as, ReadsAll h us ds as
  | _, _, _, .nil, .nil => ⟨[], .nil⟩
  | _, _, _, .cons t ts, .cons r rs => by
    obtain ⟨as, ra, _⟩ := Th.reads ok t r
    obtain ⟨bs, rb⟩ := ThAll.reads ok ts rs
    exact ⟨as ++ bs, .cons ra rb⟩
end
end
/-! ### repr of such data; of a list of one thing many times -/
section
variable {X : Cx}
def rReprT (B : Nat) : List V → Hp → VK → Prop := fun xs H Q => ∃ v d, xs = [v] ∧ Th H v d ∧ d.showable = true ∧ d.depth ≤ 8 ∧ d.shown.length ≤ B ∧ Q (.str d.shown) H
theorem call_reprT (hg : X.A.guards = some []) (hu : X.A.units + 64 < cLine) {B : Nat} (hB : B ≤ sizeLine) : CallR X (.builtin "repr") (rReprT B) := by
  intro pins s σ H xs us Q I r h
  obtain ⟨v, d, rfl, th, hs, hd, hl, q⟩ := h
  obtain ⟨u, rfl, ru⟩ := vals1 r
  obtain ⟨as, rd, hsm⟩ := th.reads I.hok ru
  have hz : d.shown.length ≤ sizeLine := Nat.le_trans hl hB
  have leaf : ∀ {t : Str} {tk tok : Nat}, t = d.shown → EP X pins σ Q (.str t tok) { s with toks := tk } := fun {t tk tok} e => ⟨.str t, H, I.tok tk, ⟨_, rfl⟩, by rw [e]; exact q⟩
  cases rd with
  | none => exact PySem.P.repr_of_none (leaf (by simp only [PyData.shown]))
  | bool b => exact PySem.P.repr_of_bool (leaf (by simp only [PyData.shown]))
  | int i t => exact PySem.P.repr_of_int (by simpa [PyData.showable] using hs) (leaf (by simp only [PyData.shown]))
  | str x t => exact PySem.P.repr_of_str (leaf (by simp only [PyData.shown])) (by simpa only [PyData.shown] using hz)
  | list h1 h2 h3 h4 => exact repr_of_reads' (.list h1 h2 h3 h4) hs hsm hg (by omega) (fun _ _ e => e) (fun h' u tk k => ⟨.str _, H, I.kept (t' := tk) k, ⟨_, rfl⟩, q⟩) hz
  | tuple h1 h2 h3 h4 => exact repr_of_reads' (.tuple h1 h2 h3 h4) hs hsm hg (by omega) (fun _ _ e => e) (fun h' u tk k => ⟨.str _, H, I.kept (t' := tk) k, ⟨_, rfl⟩, q⟩) hz
  | dict h1 h2 h3 h4 h5 => exact repr_of_reads' (.dict h1 h2 h3 h4 h5) hs hsm hg (by omega) (fun _ _ e => e) (fun h' u tk k => ⟨.str _, H, I.kept (t' := tk) k, ⟨_, rfl⟩, q⟩) hz
end
end L2
set_option maxRecDepth 100000
set_option maxHeartbeats 4000000
namespace L2
open PySem PySem.Spec PyProof.Rows
section
variable {P : Program} {w : World} {H : Hp} {h : Heap}
theorem reads_rep (ok : HOk P w H h) {v : V} {d : PyData} (t : Th H v d) : ∀ (m : Nat) {us : List Value}, Vals (List.replicate m v) us → ∃ as, ReadsAll h us (List.replicate m d) as ∧ (d.hasDict = true → sysModules ∉ as) := by
  intro m
  induction m with
  | zero =>
    intro us r
    cases r
    exact ⟨[], .nil, fun _ z => nomatch z⟩
  | succ m ih =>
    intro us r
    cases r with
    | cons r1 r2 =>
      obtain ⟨as, ra, na⟩ := Th.reads ok t r1
      obtain ⟨bs, rb, nb⟩ := ih r2
      refine ⟨as ++ bs, .cons ra rb, fun z hm => ?_⟩
      rcases List.mem_append.mp hm with hm | hm
      · exact na z hm
      · exact nb z hm
end
theorem hasDict_rep (d : PyData) : ∀ m : Nat, PyData.hasDictAll (List.replicate m d) = true → d.hasDict = true := by
  intro m
  induction m with
  | zero =>
    intro z
    simp [PyData.hasDictAll] at z
  | succ m ih =>
    intro z
    rw [List.replicate_succ, PyData.hasDictAll, Bool.or_eq_true] at z
    rcases z with z | z
    · exact z
    · exact ih z
theorem showable_rep {d : PyData} (hs : d.showable = true) : ∀ m : Nat, PyData.showableAll (List.replicate m d) = true := by
  intro m
  induction m with
  | zero => simp [PyData.showableAll]
  | succ m ih => simp [List.replicate_succ, PyData.showableAll, hs, ih]
theorem shown_rep (d : PyData) : ∀ m : Nat, PyData.shownAll (List.replicate m d) = List.replicate m d.shown := by
  intro m
  induction m with
  | zero => simp [PyData.shownAll]
  | succ m ih => simp [List.replicate_succ, PyData.shownAll, ih]
theorem depth_rep (d : PyData) : ∀ m : Nat, PyData.depthAll (List.replicate m d) ≤ d.depth := by
  intro m
  induction m with
  | zero => simp [PyData.depthAll]
  | succ m ih =>
    rw [List.replicate_succ, PyData.depthAll]
    omega
theorem sum_rep (d : PyData) : ∀ m : Nat, ((List.replicate m d.shown).map (·.length)).sum = m * d.shown.length := by
  intro m
  induction m with
  | zero => simp
  | succ m ih =>
    rw [List.replicate_succ, List.map_cons, List.sum_cons, ih, Nat.succ_mul]
    omega
section
variable {X : Cx}
/-- repr of a list that holds one thing m + 1 times -/
def rReprL (B : Nat) : List V → Hp → VK → Prop := fun xs H Q => ∃ (p : Addr) (v : V) (d : PyData) (m : Nat), xs = [.ref p] ∧ H p = some (.lst (List.replicate (m + 1) v)) ∧ Th H v d ∧ d.showable = true ∧ d.depth ≤ 8 ∧ d.shown.length ≤ B ∧ m ≤ 100 ∧ Q (.str (listText (List.replicate (m + 1) d.shown))) H
theorem call_reprL (hg : X.A.guards = some []) (hu : X.A.units + 64 < cLine) {B : Nat} (hB : 101 * B + 300 ≤ sizeLine) : CallR X (.builtin "repr") (rReprL B) := by
  intro pins s σ H xs us Q I r h
  obtain ⟨p, v, d, m, rfl, hp, th, hs, hd, hl, hm, q⟩ := h
  obtain ⟨u, rfl, ru⟩ := vals1 r
  obtain rfl : u = Value.ref p := ru
  obtain ⟨_, its, na, rv, ho⟩ := (show ObjOk X.prog X.w H s.heap p (.lst (List.replicate (m + 1) v)) from I.hok p _ hp)
  obtain ⟨as, ra, hsm⟩ := reads_rep I.hok th (m + 1) rv
  have hz1 : d.shown.length ≤ sizeLine := by omega
  have hz : (listText (PyData.shownAll (List.replicate (m + 1) d))).length ≤ sizeLine := by
    rw [shown_rep]
    have z := listText_len_le (List.replicate (m + 1) d.shown)
    rw [sum_rep, List.length_replicate] at z
    have z2 : (m + 1) * d.shown.length ≤ 101 * B := Nat.mul_le_mul (by omega) hl
    omega
  obtain ⟨bs, hb, hk⟩ := ReprAllK.of_readsAll (prog := X.prog) (w := X.w) ra (showable_rep hs _) (fun hx => hsm (hasDict_rep d _ hx)) (fun t ht => Nat.le_trans (listText_mem_le ht) hz)
  have rl : Reads s.heap (.ref p) (.list (List.replicate (m + 1) d)) (p :: as) := .list ho rfl rfl ra
  have hna : p ∉ bs := not_mem_of_deeper rl (by simp only [PyData.depth]; omega) hb
  have dep := depth_rep d (m + 1)
  cases its with
  | nil =>
    rw [List.replicate_succ] at rv
    cases rv
  | cons x l =>
    refine call_repr_slot (by omega) ⟨_, ho, rfl⟩ F.slot_list_repr.toG ?_
    refine call_list_reprK (h₀ := s.heap) ho rfl rfl hna (by simpa using hk.length_eq) (fun i y e => hk.item i y (by simpa using e)) (A := X.A.in1) (g := []) hg (fun b _ => Clear.nil b) (by show X.A.units + 1 + (PyData.depthAll (List.replicate (m + 1) d) + 1) < cLine; omega) (fun _ _ e => e) (fun h' u tk k => ?_) hz
    refine ⟨_, _, rfl, .str _, H, I.kept (t' := tk) k, ⟨_, rfl⟩, ?_⟩
    rw [shown_rep]
    exact q
end
end L2
set_option maxRecDepth 100000
set_option maxHeartbeats 4000000
namespace L2
open PySem PySem.Spec PyProof.Rows
section
variable {P : Program} {w : World} {K : PySem.W.Frag} {mg mb : Str → Option Value} {k : Nat} {fa a : Addr} {fd : FuncData} {x : Str} {sp : Sp} {s1 : Shared} {vs : List Value} {ns : List Int}
/-- the law's call where at most the script is tracked (at a) -/
theorem callG_at (KX : K.In s1.heap) (hns : s1.heap.Ns mainGlobals mg) (hb : s1.heap.Ns builtinsNs mb) (hbb : ∀ x : Str, x ≠ "__name__" → mb x = bootBuiltins x) (hlim : s1.heap.NoLimit) (hg : s1.gens = #[])
    (ha : s1.heap.get? a = some { cls := .type "list", data := .seq vs.toArray }) (hr : Room k callerA) (F : ∀ base : Heap, K.In base → base.Ns mainGlobals mg → FnG P w K mg base k fa fd [x] sp)
    (hbind : ∀ (s : Shared) (u : Value), BindsTo s fd ⟨[u], []⟩ [(x, u)]) (H : Hp) (hO : Only H) (hok : HOk P w H s1.heap) (hA : ∀ b, H b ≠ none → b = a) (hK : H a ≠ none → K.lookup a = none)
    (hsp : sp [.ref a] H (fun v _ => v = .bl true) fun _ _ _ => False) :
    codeAny (model P w) callerA (.call (.ref fa) ⟨[.ref a], []⟩) (fun r s' => r = .ok (.ret (.bool true)) ∧ OldK s1.heap s'.heap ∧ s'.os = s1.os ∧ AllBare s'.gens) s1 := by
  have free : ∀ {b : Addr} {o : Obj}, s1.heap.get? b = some o → o.data ≠ .seq vs.toArray → H b = none := by
    intro b o e hd
    cases q : H b with
    | none => rfl
    | some u =>
      have eb := hA b (by rw [q]; exact fun z => nomatch z)
      rw [eb, ha] at e
      cases e
      exact absurd rfl hd
  have nsB : ∀ {b : Addr} {m : Str → Option Value}, s1.heap.Ns b m → (hidT s1.heap H).Ns b m := by
    intro b m hn
    refine hn.at fun o e => hidT_get e ?_
    obtain ⟨o', es, ep, e', d, -⟩ := hn
    rw [e] at e'
    cases e'
    exact free e (by rw [d]; exact fun z => nomatch z)
  have KB : K.In (hidT s1.heap H) := fun b o e => by
    refine hidT_get (KX b o e) ?_
    cases q : H b with
    | none => rfl
    | some u =>
      have hb0 : H b ≠ none := by rw [q]; exact fun z => nomatch z
      have eb := hA b hb0
      rw [eb] at hb0 e
      rw [hK hb0] at e
      cases e
  have M : Mod K mg (hidT s1.heap H) := ⟨KB, nsB hns, ⟨mb, nsB hb, hbb⟩, by obtain ⟨mc, h1, h2⟩ := hlim; exact ⟨mc, nsB h1, h2⟩⟩
  have e0 : Env0 P w K mg (hidT s1.heap H) callerA [] s1 H := ⟨rfl, M, fun _ _ e => of_hidT e, Nat.le_of_eq (hidT_size _ _), trivial, fun b z => absurd (show b ∈ ([] : List Addr) from z) (List.not_mem_nil), hok, .of_eq hg⟩
  refine codeAny_mono ((F _ KB (nsB hns)).run callerA [] s1 H ⟨[.ref a], []⟩ [.ref a] [.ref a] _ _ rfl hr e0 (hbind s1 (.ref a)) (.cons rfl .nil) hsp) fun r s' z => ?_
  cases r with
  | error e => exact False.elim z
  | ok fl =>
    cases fl with
    | next => exact False.elim z
    | brk => exact False.elim z
    | cont => exact False.elim z
    | ret u =>
      obtain ⟨v, H', os, bare, un, hok', rv, q⟩ := z
      have q' : v = .bl true := q
      subst q'
      obtain rfl : u = Value.bool true := rv
      refine ⟨rfl, OldK.of_keep fun b o e => ?_, os, bare⟩
      cases qb : H b with
      | none => exact un.keep b o e qb (fun z => absurd (show b ∈ ([] : List Addr) from z) (List.not_mem_nil)) (List.not_mem_nil)
      | some y =>
        rcases hO b with z | ⟨ob, xs, z⟩
        · rw [qb] at z
          cases z
        · have e1 := (hok b _ z).1
          have e2 := (hok' b _ (un.frzs b ob _ z)).1
          rw [e] at e1
          cases e1
          exact e2
end
theorem walk_G {l : PySem.W.OpenLaw} {n k : Nat} {q : Program} {loose : List Str} {XP : (Str → Option Value) → Heap → Prop} {YP : World → Heap → Prop} {d : DefRec} {K : Params → PySem.W.Frag} {sp : PySem.W.Frag → Sp} {x : Str}
    (hn : l.most = some n) (hn2 : n ≤ sizeLine) (hdf : d.params.defaults = []) (hr : Room k callerA) (hY : ∀ (w : World) (h : Heap), YP w h → (K w.params).In h)
    (F : ∀ (w : World) (mg : Str → Option Value) (fa : Addr) (h : Heap), (K w.params).In h → h.Ns mainGlobals mg → mg d.name = some (.ref fa) →
      ∃ fd : FuncData, (∀ (s : Shared) (u : Value), BindsTo s fd ⟨[u], []⟩ [(x, u)]) ∧ ∀ base : Heap, (K w.params).In base → base.Ns mainGlobals mg → FnG l.prog w (K w.params) mg base k fa fd [x] (sp (K w.params)))
    (hsp : ∀ (K : PySem.W.Frag) (H : Hp) (a : Addr) (ns : List Int), ns.length ≤ n → Only H → SqL K H a (ns.map V.int) → sp K [.ref a] H (fun v _ => v = .bl true) fun _ _ _ => False) :
    PySem.W.WalkO q loose XP YP l.row.toRowW d [] (fun f vs => PySem.call f vs) := by
  refine Att.attach_call hn hdf fun w s₀ s1 mg mb fa o pm cd doc a vs ns G Y ho hd hcd hmg hobj hints hlen hg => ?_
  have KX := hY w _ Y
  obtain ⟨fd, hb, hF⟩ := F w mg fa _ KX G.T.g hmg
  have hl : ns.length ≤ sizeLine := Nat.le_trans hlen hn2
  have rv := vals_ints hints
  cases hk : (K w.params).lookup a with
  | some oa =>
    have e := KX a oa hk
    rw [hobj] at e
    cases e
    refine callG_at KX G.T.g G.T.b G.T.builtins G.T.nolimit hg hobj hr hF hb (fun _ => none) (fun _ => .inl rfl) (fun b u z => nomatch z) (fun b z => absurd rfl z) (fun z => absurd rfl z) (hsp _ _ a ns hlen (fun _ => .inl rfl) ?_)
    exact .inr ⟨_, vs.toArray, _, hk, rfl, rfl, rfl, by rw [List.size_toArray, hints.length]; exact hl, by simpa using rv⟩
  | none =>
    let H : Hp := fun b => if b = a then some (.frz { cls := .type "list", data := .seq vs.toArray } (.lst (ns.map V.int))) else none
    have Ha : H a = some (.frz { cls := .type "list", data := .seq vs.toArray } (.lst (ns.map V.int))) := if_pos rfl
    have Hn : ∀ {b : Addr}, b ≠ a → H b = none := fun h => if_neg h
    have only : Only H := fun b => by
      by_cases hb : b = a
      · exact .inr ⟨_, _, by rw [hb]; exact Ha⟩
      · exact .inl (Hn hb)
    refine callG_at KX G.T.g G.T.b G.T.builtins G.T.nolimit hg hobj hr hF hb H only (fun b u z => ?_) (fun b z => ?_) (fun _ => hk) (hsp _ H a ns hlen only (.inl (.inr ⟨_, Ha⟩)))
    · by_cases hb : b = a
      · rw [hb, Ha] at z
        cases z
        rw [hb]
        exact ⟨hobj, by rw [List.length_map]; exact hl, vs, _, rv, hobj⟩
      · rw [Hn hb] at z
        cases z
    · by_cases hb : b = a
      · exact hb
      · exact absurd (Hn hb) z
end L2
set_option maxRecDepth 100000
set_option maxHeartbeats 4000000
namespace K1
open PySem PySem.Spec PyProof.Rows L2
/-! ### the text by places -/
def top (i : Nat) : Stmt := PySem.Challenge.pw_undrawn_k01_errors_made_by_hand.main.body.getD i (.Pass ⟨0, 0, 0, 0⟩)
abbrev sDeck : Stmt := top 18
abbrev sDraw : Stmt := top 19
abbrev sPick : Stmt := top 20
abbrev sValue : Stmt := top 21
abbrev sClasses : Stmt := top 22
abbrev sBases : Stmt := top 23
abbrev sByPos : Stmt := top 24
abbrev sByName : Stmt := top 25
abbrev sAttrs : Stmt := top 26
abbrev sRaised : Stmt := top 27
abbrev sCaught : Stmt := top 28
abbrev sRight : Stmt := top 29
abbrev sDue : Stmt := top 30
abbrev sLaw : Stmt := top 31
/-! ### the deck of choices -/
/-- a deck at p: its cells at q, the mixed number m, the count c -/
structure DeckAt (H : Hp) (p q : Addr) (ns : List Int) (m c : Int) : Prop where
  ob : H p = some (.lst [.ref q, .int m, .int c])
  ce : H q = some (.lst (ns.map V.int))
  m0 : 0 ≤ m
  m1 : m < 2147483629
  c0 : 0 ≤ c
  c1 : c ≤ 1000
  ln : ns.length ≤ 63
theorem DeckAt.ne {H : Hp} {p q : Addr} {ns : List Int} {m c : Int} (D : DeckAt H p q ns m c) : p ≠ q := fun e => by
  have z := D.ce
  rw [← e, D.ob] at z
  have z' := Option.some.inj z
  injection z' with z''
  cases ns with
  | nil => cases z''
  | cons a l => injection z'' with y _; cases y
theorem DeckAt.same {H H' : Hp} {p q : Addr} {ns : List Int} {m c : Int} (D : DeckAt H p q ns m c) (S : Same H H') : DeckAt H' p q ns m c := ⟨S _ _ D.ob, S _ _ D.ce, D.m0, D.m1, D.c0, D.c1, D.ln⟩
/-- what was tracked, but at p and q -/
def Off (p q : Addr) (H H' : Hp) : Prop := ∀ b o, H b = some o → b ≠ p → b ≠ q → H' b = some o
theorem Off.of_same {p q : Addr} {H H' : Hp} (S : Same H H') : Off p q H H' := fun b o e _ _ => S b o e
theorem Off.trans {p q : Addr} {H H1 H2 : Hp} (a : Off p q H H1) (b : Off p q H1 H2) : Off p q H H2 := fun c o e h1 h2 => b c o (a c o e h1 h2) h1 h2
theorem Off.refl {p q : Addr} {H : Hp} : Off p q H H := fun _ _ e _ _ => e
theorem same_new {H : Hp} {p : Addr} {o : HO} (h : H p = none) : Same H (upd H p o) := fun b u e => by rw [upd_ne (ne_of_none e h)]; exact e
theorem dp_ints {K : PySem.W.Frag} {H : Hp} : ∀ ns : List Int, DpAll K H (ns.map V.int) (ns.map PyData.int)
  | [] => .nil
  | a :: l => .cons (.int a) (dp_ints l)
theorem lay_ints : ∀ ns : List Int, PyData.canLayAll0 (ns.map PyData.int) = true
  | [] => by simp [PyData.canLayAll0]
  | a :: l => by simp [PyData.canLayAll0, PyData.canLay0, lay_ints l]
theorem depth_ints : ∀ ns : List Int, PyData.depthAll (ns.map PyData.int) = 0
  | [] => by simp [PyData.depthAll]
  | a :: l => by simp [PyData.depthAll, PyData.depth, depth_ints l]
theorem shaped_ints (ns : List Int) : SeqAt.shaped (.list (ns.map PyData.int)) = true := by
  have h2 : PyData.depth (.list (ns.map PyData.int)) ≤ 64 := by
    rw [PyData.depth, depth_ints]
    decide
  unfold SeqAt.shaped
  rw [Bool.and_eq_true, PyData.canLay0]
  exact ⟨lay_ints ns, decide_eq_true h2⟩
def spDeck (K : PySem.W.Frag) : Sp := fun vs H Q _ => ∃ (a : Addr) (ns : List Int), vs = [.ref a] ∧ SqL K H a (ns.map V.int) ∧ ns.length ≤ 63 ∧
  ∀ (p q : Addr) (ms : List Int) (m : Int) (H' : Hp), Same H H' → H p = none → H q = none → DeckAt H' p q ms m 0 → Q (.ref p) H'
def spDraw : Sp := fun vs H Q _ => ∃ (p q : Addr) (ns : List Int) (m c n : Int), vs = [.ref p, .int n] ∧ 0 < n ∧ n ≤ 1000000 ∧ DeckAt H p q ns m c ∧ c + 1 ≤ 1000 ∧
  ∀ (i : Int) (ns' : List Int) (H' : Hp), 0 ≤ i → i < n → Off p q H H' → DeckAt H' p q ns' m (c + 1) → Q (.int i) H'
/-- what the module says that these defs use -/
structure Nm (mg : Str → Option Value) : Prop where
  list : mg "list" = none
  len : mg "len" = none
  repr : mg "repr" = none
  range : mg "range" = none
  enumerate : mg "enumerate" = none
  isinstance : mg "isinstance" = none
  sup : mg "super" = none
section
variable {P : Program} {w : World} {K : PySem.W.Frag} {mg : Str → Option Value} {base : Heap}
theorem scDeck : FnScope ["_law_script", "_law_cells", "_law_mix", "_law_cell"] ["_law_script"] (defScope sDeck) := ⟨rfl, rfl, rfl, by decide +kernel, rfl, by decide +kernel, by decide +kernel⟩
theorem ok_deck {f : Addr} {fd : FuncData} (F : Fun K "_law_deck" "_law_deck" sDeck f fd) (T : Nm mg) : FnOk P w K mg base CX0 1 f fd ["_law_script"] (spDeck K) := by
  refine F.ok scDeck (fun vs H Q E h => ?_) (fun cdv A outer s H vs Q E hr h => ?_)
  · obtain ⟨a, ns, rfl, _⟩ := h
    rfl
  · obtain ⟨a, ns, rfl, hS, hl, k⟩ := h
    refine ⟨_, pss_cons (ps_par (i := 1) (j := 2) rfl scDeck.nd rfl rfl (by decide) rfl rfl (pa_cons (pe_callTy call_list_of (by rfl) T.list (by decide +kernel) (pa_cons (pe_slice sl_list (pv 0) po_none (po_some pe_int)) pa_nil)) (pa_cons pe_int pa_nil)) (by rfl))
      (pss_cons (ps_for PassesOwn.never rfl (pi_list (pv 1)) (pg_name (i := 3) scDeck.nd rfl (Or.inl rfl))
        (pss_one (ps_set (i := 2) scDeck.nd rfl (Or.inl rfl) (pe_op op_mod (pe_op op_add (pe_op op_add (pe_op op_mul (pv 2) pe_int) (pe_op op_mod (pv 3) pe_int)) pe_int) pe_int))))
      (pss_one (ps_ret (pe_lst (pa_cons (pe_revL (pv 1)) (pa_cons (pv 2) (pa_cons pe_int pa_nil))))))), ?_⟩
    -- script[:63]; list(..)
    refine ⟨_, rfl, 63, rfl, a, _, rfl, hS, fun p1 np1 => ?_⟩
    have hcut : (cutV (ns.map V.int) none (some 63)).length ≤ 63 := by
      have z := cutV_length (ns.map V.int) none (some 63)
      rw [List.length_map] at z
      omega
    obtain ⟨cs, hcs, hcl⟩ : ∃ cs : List Int, cutV (ns.map V.int) none (some 63) = cs.map V.int ∧ cs.length ≤ 63 := by
      refine ⟨(ns.drop (HT.sIx ns.length 0 none)).take (HT.sIx ns.length ns.length (some 63) - HT.sIx ns.length 0 none), ?_, ?_⟩
      · unfold cutV
        rw [List.length_map, List.map_take, List.map_drop]
      · rw [List.length_take, List.length_drop]
        omega
    rw [hcs]
    refine ⟨p1, _, rfl, .inl (.inl (.inl upd_same)), fun q1 nq1 => ⟨_, _, rfl, ?_⟩⟩
    have s1 : Same H (upd (upd H p1 (.lst (cs.map V.int))) q1 (.lst (cs.map V.int))) := (same_new np1).trans (same_new nq1)
    -- the loop
    refine ⟨_, rfl, q1, rfl, ⟨_, .inl (.inl upd_same)⟩, for_list (K := K) (a := q1) (xs := cs.map V.int) (fun i σ H' => ∃ (m : Int) (v : Option V), σ = [some (.ref a), some (.ref q1), some (.int m), v] ∧ H' = upd (upd H p1 (.lst (cs.map V.int))) q1 (.lst (cs.map V.int)) ∧ 0 ≤ m ∧ m < 2147483629)
      ⟨60101, none, rfl, rfl, by decide, by decide⟩ (fun i σ H' _ ⟨_, _, _, e, _⟩ => by rw [e]; exact .inl (.inl upd_same)) ?_ ?_⟩
    · rintro i y σ H' hi ⟨m, v, rfl, rfl, h0, h1⟩
      obtain ⟨z, rfl⟩ : ∃ z, y = V.int z := by
        rw [List.getElem?_map] at hi
        cases e : cs[i]? with
        | none =>
          rw [e] at hi
          cases hi
        | some z =>
          rw [e] at hi
          exact ⟨z, (Option.some.inj hi).symm⟩
      refine ⟨_, rfl, _, _, rfl, rfl, .inl ⟨by omega, by omega⟩, ?_⟩
      refine ⟨_, rfl, _, _, rfl, rfl, (by decide : (0 : Int) < 2147483587), _, _, rfl, rfl, _, _, rfl, rfl, _, _, rfl, rfl, (by decide : (0 : Int) < 2147483629), ?_⟩
      exact ⟨_, _, rfl, rfl, Int.emod_nonneg _ (by decide), Int.emod_lt_of_pos _ (by decide)⟩
    · rintro σ H' ⟨m, v, rfl, rfl, h0, h1⟩
      refine ⟨_, rfl, q1, _, rfl, .inl (.inl upd_same), fun r1 nr1 => ⟨_, rfl, (by show 3 ≤ sizeLine; decide), fun d nd => ?_⟩⟩
      rw [← List.map_reverse] at nd ⊢
      refine k d r1 cs.reverse m _ ((s1.trans (same_new nr1)).trans (same_new nd)) ?_ ?_ ⟨upd_same, ?_, h0, h1, by decide, by decide, by rw [List.length_reverse]; exact hcl⟩
      · exact ((s1.trans (same_new nr1))).free nd
      · exact s1.free nr1
      · rw [upd_ne (ne_of_none upd_same nd), upd_same]
theorem scDraw : FnScope ["_law_deck_here", "_law_many", "_law_cell", "_law_mixed"] ["_law_deck_here", "_law_many"] (defScope sDraw) := ⟨rfl, rfl, rfl, by decide +kernel, rfl, by decide +kernel, by decide +kernel⟩
theorem ok_draw {f : Addr} {fd : FuncData} (F : Fun K "_law_draw" "_law_draw" sDraw f fd) : FnOk P w K mg base CX0 1 f fd ["_law_deck_here", "_law_many"] spDraw := by
  refine F.ok scDraw (fun vs H Q E h => ?_) (fun cdv A outer s H vs Q E hr h => ?_)
  · obtain ⟨p, q, ns, m, c, n, rfl, _⟩ := h
    rfl
  · obtain ⟨p, q, ns, m, c, n, rfl, hn0, hn1, D, hc, k⟩ := h
    have hu := hr.units
    have hpq := D.ne
    refine ⟨_, pss_cons (ps_asg (pe_op op_add (pe_ix ix_list (pv 0) pe_int (fun _ _ => rfl)) pe_int) (pg_sub (pv 0) pe_int set_list (fun _ => rfl)))
      (pss_cons (ps_set (i := 2) scDraw.nd rfl (Or.inl rfl) (pe_ix ix_list (pv 0) pe_int (fun _ _ => rfl)))
      (C8.pss_cut (ps_if (pt_cmpR (op_neD hu) (pe_ix ix_list (pv 0) pe_int (fun _ _ => rfl)) (pe_lst pa_nil) (nomark _))
          (pss_cons (ps_set (i := 2) scDraw.nd rfl (Or.inl rfl) (pe_bm0 PySem.F.plainAttrs_list PySem.F.slot_list_pop PySem.F.type_list_pop mt_pop (pe_ix ix_list (pv 0) pe_int (fun _ _ => rfl))))
          (pss_cons (ps_if (pt_cmpR op_ge (pv 2) (pe_op op_pow pe_int pe_int) (nomark _))
              (pss_cons (ps_expr (pe_bm PySem.F.plainAttrs_list PySem.F.slot_list_append PySem.F.type_list_append mt_append (pe_ix ix_list (pv 0) pe_int (fun _ _ => rfl)) (pa_cons (pe_op op_fdivN (pv 2) (pv 1)) pa_nil)))
              (pss_one (ps_ret (pe_op op_mod (pv 2) (pv 1))))) pss_nil)
          (pss_one (ps_set (i := 2) scDraw.nd rfl (Or.inl rfl) (pe_op op_add (pv 2) (pe_ix ix_list (pv 0) pe_int (fun _ _ => rfl))))))) pss_nil)
      (pss_cons (ps_set (i := 3) scDraw.nd rfl (Or.inl rfl) (pe_op op_mod (pe_op op_mul (pe_op op_add (pe_op op_add (pe_op op_mod (pv 2) pe_int) (pe_op op_mul (pe_op op_mul pe_int (pe_ix ix_list (pv 0) pe_int (fun _ _ => rfl))) (pe_ix ix_list (pv 0) pe_int (fun _ _ => rfl)))) pe_int) pe_int) pe_int))
      (pss_cons (ps_set (i := 3) scDraw.nd rfl (Or.inl rfl) (pe_op op_mod (pe_op op_add (pe_op op_add (pe_op op_mul (pv 3) (pv 3)) (pe_op op_mul pe_int (pe_ix ix_list (pv 0) pe_int (fun _ _ => rfl)))) pe_int) pe_int))
      (pss_one (ps_ret (pe_op op_mod (pe_op op_fdiv (pe_op op_mod (pe_op op_mul (pv 3) pe_int) pe_int) pe_int) (pv 1)))))))), ?_⟩
    have c2 : ∀ {x y z : V}, atI [x, y, z] 2 = some z := fun {x y z} => atI_nat (xs := [x, y, z]) (j := 2) rfl
    have c1 : ∀ {x y z : V}, atI [x, y, z] 1 = some y := fun {x y z} => atI_nat (xs := [x, y, z]) (j := 1) rfl
    have c0 : ∀ {x y z : V}, atI [x, y, z] 0 = some x := fun {x y z} => atI_nat (xs := [x, y, z]) (j := 0) rfl
    -- deck[2] = deck[2] + 1
    refine ⟨_, rfl, p, _, _, _, rfl, rfl, SqL.of D.ob, c2, _, _, rfl, rfl, _, rfl, p, _, _, 2, rfl, rfl, D.ob, rfl, ?_⟩
    have eset : ([V.ref q, V.int m, V.int c].set 2 (V.int (c + 1))) = [V.ref q, V.int m, V.int (c + 1)] := rfl
    rw [eset]
    have D1 : DeckAt (upd H p (.lst [.ref q, .int m, .int (c + 1)])) p q ns m (c + 1) :=
      ⟨upd_same, by rw [upd_ne hpq.symm]; exact D.ce, D.m0, D.m1, by have := D.c0; omega, hc, D.ln⟩
    have off1 : Off p q H (upd H p (.lst [.ref q, .int m, .int (c + 1)])) := fun b o e h1 _ => by rw [upd_ne h1]; exact e
    -- cell = deck[1]
    refine ⟨_, rfl, p, _, _, _, rfl, rfl, SqL.of D1.ob, c1, ?_⟩
    -- if deck[0] != []: .. ; what follows holds for any cell
    refine ⟨fun σ H' => ∃ (z : Int) (ns' : List Int), σ = [some (.ref p), some (.int n), some (.int z), none] ∧ Off p q H H' ∧ DeckAt H' p q ns' m (c + 1), ?_, ?_⟩
    · refine ⟨_, rfl, p, _, _, _, rfl, rfl, SqL.of D1.ob, c0, (by show 0 ≤ sizeLine; decide), fun e ne => ?_⟩
      have D2 : DeckAt (upd (upd H p (.lst [.ref q, .int m, .int (c + 1)])) e (.lst [])) p q ns m (c + 1) := D1.same (same_new ne)
      have off2 : Off p q H (upd (upd H p (.lst [.ref q, .int m, .int (c + 1)])) e (.lst [])) := off1.trans (.of_same (same_new ne))
      refine ⟨.list (ns.map .int), .list [], .lst (SqL.of D2.ce) (dp_ints ns), .lst (SqL.of upd_same) .nil, shaped_ints ns, shaped_ints [], _, rfl, ?_⟩
      generalize hH2 : upd (upd H p (.lst [.ref q, .int m, .int (c + 1)])) e (.lst []) = H2 at D2 off2 ⊢
      cases hns : ns with
      | nil =>
        have e0 : PyData.eqv (.list (([] : List Int).map PyData.int)) (.list []) = true := by simp [PyData.eqv, PyData.eqvAll]
        rw [e0]
        refine iteF ?_
        exact ⟨m, [], rfl, off2, by rw [hns] at D2; exact D2⟩
      | cons a l =>
        have e0 : PyData.eqv (.list ((a :: l).map PyData.int)) (.list []) = false := by simp [PyData.eqv, PyData.eqvAll]
        rw [e0]
        refine iteT ?_
        rw [hns] at D2
        -- cell = deck[0].pop()
        obtain ⟨l', z, hz⟩ : ∃ (l' : List Int) (z : Int), a :: l = l' ++ [z] := ⟨(a :: l).dropLast, (a :: l).getLast (by simp), (List.dropLast_concat_getLast (by simp)).symm⟩
        rw [hz] at D2
        have hln : l'.length + 1 ≤ 63 := by
          have z1 := D2.ln
          rw [List.length_append] at z1
          exact z1
        have elast : ((l' ++ [z]).map V.int)[((l' ++ [z]).map V.int).length - 1]? = some (.int z) := by simp
        have edrop : ((l' ++ [z]).map V.int).dropLast = l'.map V.int := by simp
        refine ⟨_, rfl, p, _, _, _, rfl, rfl, SqL.of D2.ob, c0, .inl ⟨rfl, _, SqL.of D2.ce⟩, q, _, _, rfl, rfl, D2.ce, elast, ?_⟩
        rw [edrop]
        have D3 : DeckAt (upd H2 q (.lst (l'.map V.int))) p q l' m (c + 1) := ⟨by rw [upd_ne hpq]; exact D2.ob, upd_same, D2.m0, D2.m1, D2.c0, D2.c1, by omega⟩
        have off3 : Off p q H (upd H2 q (.lst (l'.map V.int))) := off2.trans fun b o e _ h2 => by rw [upd_ne h2]; exact e
        generalize upd H2 q (.lst (l'.map V.int)) = H3 at D3 off3 ⊢
        -- if cell >= 10 ** 18
        refine ⟨_, rfl, _, _, rfl, rfl, ⟨by decide, by decide, by decide⟩, _, _, rfl, rfl, _, rfl, ?_⟩
        refine ite2 (fun _ => ?_) (fun _ => ?_)
        · refine ⟨_, rfl, p, _, _, _, rfl, rfl, SqL.of D3.ob, c0, .inl ⟨rfl, _, SqL.of D3.ce⟩, _, rfl, _, rfl, _, _, rfl, rfl, ⟨by omega, by omega⟩, q, _, _, rfl, rfl, D3.ce, (by rw [List.length_map, sizeLine_eq]; omega), ?_⟩
          have eapp : l'.map V.int ++ [V.int (z.fdiv n)] = (l' ++ [z.fdiv n]).map V.int := by simp
          rw [eapp]
          have D4 : DeckAt (upd H3 q (.lst ((l' ++ [z.fdiv n]).map V.int))) p q (l' ++ [z.fdiv n]) m (c + 1) :=
            ⟨by rw [upd_ne hpq]; exact D3.ob, upd_same, D3.m0, D3.m1, D3.c0, D3.c1, by rw [List.length_append]; exact hln⟩
          refine ⟨_, rfl, _, rfl, _, _, rfl, rfl, hn0, ?_⟩
          exact k _ _ _ (Int.emod_nonneg _ (by omega)) (Int.emod_lt_of_pos _ hn0) (off3.trans fun b o e _ h2 => by rw [upd_ne h2]; exact e) D4
        · refine ⟨_, rfl, _, rfl, p, _, _, _, rfl, rfl, SqL.of D3.ob, c1, _, _, rfl, rfl, ?_⟩
          exact ⟨_, l', rfl, off3, D3⟩
    · rintro σ' H' ⟨z, ns', rfl, off', D'⟩
      have ix2 := fun (g : Hp → Prop) => g
      refine ⟨_, rfl, _, _, rfl, rfl, (by decide : (0 : Int) < 2147483563), _, rfl, p, _, _, _, rfl, rfl, SqL.of D'.ob, c2, _, _, rfl, rfl, .inl ⟨by decide, by decide⟩, _, rfl, p, _, _, _, rfl, rfl, SqL.of D'.ob, c2, _, _, rfl, rfl, .inl ⟨by have := D'.c0; omega, by have := D'.c1; omega⟩,
        _, _, rfl, rfl, _, _, rfl, rfl, _, _, rfl, rfl, .inr ⟨by decide, by decide⟩, _, _, rfl, rfl, (by decide : (0 : Int) < 2147483647), ?_⟩
      generalize hx : (z % 2147483563 + 73727 * (c + 1) * (c + 1) + 23) * 48271 % 2147483647 = x
      have x0 : 0 ≤ x := by rw [← hx]; exact Int.emod_nonneg _ (by decide)
      have x1 : x < 2147483647 := by rw [← hx]; exact Int.emod_lt_of_pos _ (by decide)
      refine ⟨_, rfl, _, rfl, _, _, rfl, rfl, .inl ⟨by omega, by omega⟩, _, rfl, p, _, _, _, rfl, rfl, SqL.of D'.ob, c2, _, _, rfl, rfl, .inl ⟨by decide, by decide⟩, _, _, rfl, rfl, _, _, rfl, rfl, _, _, rfl, rfl, (by decide : (0 : Int) < 2147483629), ?_⟩
      refine ⟨_, rfl, _, _, rfl, rfl, .inr ⟨by decide, by decide⟩, _, _, rfl, rfl, (by decide : (0 : Int) < 2147483587), _, _, rfl, rfl, ⟨by decide, by decide⟩, _, rfl, _, _, rfl, rfl, hn0, ?_⟩
      exact k _ ns' H' (Int.emod_nonneg _ (by omega)) (Int.emod_lt_of_pos _ hn0) off' D'
theorem scPick : FnScope ["_law_deck_here", "_law_items"] ["_law_deck_here", "_law_items"] (defScope sPick) := ⟨rfl, rfl, rfl, by decide +kernel, rfl, by decide +kernel, by decide +kernel⟩
/-- one of the items, at some place -/
def spPick : Sp := fun vs H Q _ => ∃ (p q t : Addr) (ns : List Int) (m c : Int) (xs : List V), vs = [.ref p, .ref t] ∧ H t = some (.lst xs) ∧ t ≠ p ∧ t ≠ q ∧ 0 < xs.length ∧ xs.length ≤ 1000 ∧ DeckAt H p q ns m c ∧ c + 1 ≤ 1000 ∧
  ∀ (j : Nat) (x : V) (ns' : List Int) (H' : Hp), xs[j]? = some x → Off p q H H' → DeckAt H' p q ns' m (c + 1) → Q x H'
theorem ok_pick {f fD : Addr} {fd fdD : FuncData} (F : Fun K "_law_pick" "_law_pick" sPick f fd) (T : Nm mg) (FD : Fun K "_law_draw" "_law_draw" sDraw fD fdD) (bD : Binds K fdD ["_law_deck_here", "_law_many"] []) (gD : mg "_law_draw" = some (.ref fD)) :
    FnOk P w K mg base CX0 2 f fd ["_law_deck_here", "_law_items"] spPick := by
  have GD : FnOk P w K mg base CX0 1 fD fdD ["_law_deck_here", "_law_many"] spDraw := ok_draw FD
  refine F.ok scPick (fun vs H Q E h => ?_) (fun cdv A outer s H vs Q E hr h => ?_)
  · obtain ⟨p, q, t, ns, m, c, xs, rfl, _⟩ := h
    rfl
  · obtain ⟨p, q, t, ns, m, c, xs, rfl, ht, tp, tq, hx0, hx1, D, hc, k⟩ := h
    refine ⟨_, pss_one (ps_ret (pe_ix ix_list (pv 1) (pe_call GD hr rfl gD FD.kp bD .nil pass0 (pa_cons (pv 0) (pa_cons (pe_callB call_len_seq (by rfl) T.len PySem.boot_len (pa_cons (pv 1) pa_nil)) pa_nil))) (fun _ _ => rfl))), ?_⟩
    refine ⟨_, rfl, _, rfl, _, rfl, t, _, rfl, .inl (SqL.of ht), p, q, ns, m, c, (xs.length : Int), rfl, by omega, by omega, D, hc, fun i ns' H' h0 h1 off D' => ?_⟩
    obtain ⟨j, rfl⟩ : ∃ j : Nat, i = (j : Int) := ⟨i.toNat, by omega⟩
    have hj : j < xs.length := by omega
    exact ⟨t, xs, _, xs[j], rfl, rfl, SqL.of (off _ _ ht tp tq), atI_nat (List.getElem?_eq_getElem hj), k j _ ns' H' (List.getElem?_eq_getElem hj) off D'⟩
end
end K1
set_option maxRecDepth 100000
set_option maxHeartbeats 8000000
namespace K1
open PySem PySem.Spec PyProof.Rows L2
/-! ### the values of the menu -/
def ds0 : List PyData := [.int 0, .int (-1), .int 7, .int (10 ^ 39), .str "", .str "cycle 4", .none, .bool true, .bool false, .tuple [], .tuple [.int 0, .int 3], .tuple [.tuple [], .str "select", .int 2], .tuple [.str "cycle", .int 4],
  .list [], .dict [], .list [.int 1, .tuple [.int 2]], .dict [(.str "a", .int 1)], .tuple [.tuple [.str "a", .int 2], .tuple [.str "b", .int 1]]]
/-- small enough to be shown -/
structure Good (d : PyData) : Prop where
  sh : d.showable = true
  dp : d.depth ≤ 8
  ln : d.shown.length ≤ 200
theorem good0 : ∀ d ∈ ds0, d.showable = true ∧ d.depth ≤ 8 ∧ d.shown.length ≤ 200 := by
  decide +kernel
theorem good_int {i : Int} (h0 : 0 ≤ i) (h1 : i < 1000) : Good (.int i) := by
  refine ⟨?_, by simp [PyData.depth], ?_⟩
  · have z : i.natAbs.log2 < 1920 := by
      have y : i.natAbs < 2 ^ 1920 := Nat.lt_of_lt_of_le (show i.natAbs < 1000 by omega) (by decide +kernel)
      exact log2_small y
    simpa [PyData.showable] using z
  · exact Nat.le_trans (PyData.shown_int_le (i := i) (Nat.lt_of_lt_of_le (show i.natAbs < 1000 by omega) (by decide))) (by decide)
theorem ThAll.append {H : Hp} : ∀ {xs ys : List V} {ds es : List PyData}, ThAll H xs ds → ThAll H ys es → ThAll H (xs ++ ys) (ds ++ es)
  | _, _, _, _, .nil, s => s
  | _, _, _, _, .cons t ts, s => .cons t (ThAll.append ts s)
theorem ThAll.get {H : Hp} : ∀ {xs : List V} {ds : List PyData} {j : Nat} {x : V}, ThAll H xs ds → xs[j]? = some x → ∃ d, ds[j]? = some d ∧ Th H x d
  | _, _, _, _, .nil, e => by simp at e
  | _, _, 0, _, .cons t _, e => by
    simp at e
    subst e
    exact ⟨_, rfl, t⟩
  | _, _, j + 1, x, .cons _ ts, e => by
    obtain ⟨d, h1, h2⟩ := ThAll.get (j := j) (x := x) ts (by simpa using e)
    exact ⟨d, by simpa using h1, h2⟩
/-- the heap without the deck and without the list at r -/
def Hid (p q r : Addr) (H : Hp) : Hp := fun b => if b = p ∨ b = q ∨ b = r then none else H b
theorem hid_at {p q r b : Addr} {H : Hp} {o : HO} (h : H b = some o) (h1 : b ≠ p) (h2 : b ≠ q) (h3 : b ≠ r) : Hid p q r H b = some o := by
  unfold Hid
  rw [if_neg fun z => z.elim h1 fun z => z.elim h2 h3]
  exact h
theorem hid_of {p q r b : Addr} {H : Hp} {o : HO} (h : Hid p q r H b = some o) : H b = some o ∧ b ≠ p ∧ b ≠ q ∧ b ≠ r := by
  unfold Hid at h
  by_cases z : b = p ∨ b = q ∨ b = r
  · rw [if_pos z] at h
    cases h
  · rw [if_neg z] at h
    exact ⟨h, fun e => z (.inl e), fun e => z (.inr (.inl e)), fun e => z (.inr (.inr e))⟩
theorem Off.hid {p q r : Addr} {H H' : Hp} (o : Off p q H H') : Same (Hid p q r H) (Hid p q r H') := fun b u e => by
  obtain ⟨h, h1, h2, h3⟩ := hid_of e
  exact hid_at (o b u h h1 h2) h1 h2 h3
theorem hid_same {p q r : Addr} {H : Hp} : Same (Hid p q r H) H := fun b u e => (hid_of e).1
theorem hid_upd {p q r : Addr} {H : Hp} {o : HO} : Same (Hid p q r H) (Hid p q r (upd H r o)) := fun b u e => by
  obtain ⟨h, h1, h2, h3⟩ := hid_of e
  exact hid_at (by rw [upd_ne h3]; exact h) h1 h2 h3
/-- the deck, and some object at r that is none of it -/
structure DeckR (H : Hp) (p q r : Addr) (o : HO) (ns : List Int) (m c : Int) : Prop where
  d : DeckAt H p q ns m c
  er : H r = some o
  rp : r ≠ p
  rq : r ≠ q
theorem DeckR.same {H H' : Hp} {p q r : Addr} {o : HO} {ns : List Int} {m c : Int} (D : DeckR H p q r o ns m c) (S : Same H H') : DeckR H' p q r o ns m c := ⟨D.d.same S, S _ _ D.er, D.rp, D.rq⟩
theorem DeckR.off {H H' : Hp} {p q r : Addr} {o : HO} {ns ns' : List Int} {m c m' c' : Int} (D : DeckR H p q r o ns m c) (S : Off p q H H') (D' : DeckAt H' p q ns' m' c') : DeckR H' p q r o ns' m' c' := ⟨D', S _ _ D.er D.rp D.rq, D.rp, D.rq⟩
/-- a new address is none of the deck's -/
theorem DeckR.new {H : Hp} {p q r a : Addr} {o : HO} {ns : List Int} {m c : Int} (D : DeckR H p q r o ns m c) (h : H a = none) : a ≠ p ∧ a ≠ q ∧ a ≠ r := by
  refine ⟨fun e => ?_, fun e => ?_, fun e => ?_⟩
  · rw [e, D.d.ob] at h
    cases h
  · rw [e, D.d.ce] at h
    cases h
  · rw [e, D.er] at h
    cases h
theorem hid_new {H : Hp} {p q r a : Addr} {o1 : HO} {ns : List Int} {m c : Int} {o : HO} (D : DeckR H p q r o1 ns m c) (h : H a = none) : Hid p q r (upd H a o) a = some o := hid_at upd_same (D.new h).1 (D.new h).2.1 (D.new h).2.2
def spValue : Sp := fun vs H Q _ => ∃ (p q r : Addr) (o : HO) (ns : List Int) (m c : Int), vs = [.ref p] ∧ DeckR H p q r o ns m c ∧ c + 2 ≤ 1000 ∧
  ∀ (v : V) (d : PyData) (ns' : List Int) (H' : Hp), Th (Hid p q r H') v d → Good d → Off p q H H' → DeckAt H' p q ns' m (c + 2) → Q v H'
/-- a step: a new object -/
theorem same2 {H0 H : Hp} {p : Addr} {o : HO} (S : Same H0 H) (h : H p = none) : Same H0 (upd H p o) := S.trans (same_new h)
section
variable {P : Program} {w : World} {K : PySem.W.Frag} {mg : Str → Option Value} {base : Heap}
theorem scValue : FnScope ["_law_deck_here", "_law_items"] ["_law_deck_here"] (defScope sValue) := ⟨rfl, rfl, rfl, by decide +kernel, rfl, by decide +kernel, by decide +kernel⟩
theorem ok_value {f fD fP : Addr} {fd fdD fdP : FuncData} (F : Fun K "_law_value" "_law_value" sValue f fd) (T : Nm mg) (FD : Fun K "_law_draw" "_law_draw" sDraw fD fdD) (bD : Binds K fdD ["_law_deck_here", "_law_many"] []) (gD : mg "_law_draw" = some (.ref fD))
    (FP : Fun K "_law_pick" "_law_pick" sPick fP fdP) (bP : Binds K fdP ["_law_deck_here", "_law_items"] []) (gP : mg "_law_pick" = some (.ref fP)) :
    FnOk P w K mg base CX0 3 f fd ["_law_deck_here"] spValue := by
  have GD : FnOk P w K mg base CX0 1 fD fdD ["_law_deck_here", "_law_many"] spDraw := ok_draw FD
  have GP : FnOk P w K mg base CX0 2 fP fdP ["_law_deck_here", "_law_items"] spPick := ok_pick FP T FD bD gD
  refine F.ok scValue (fun vs H Q E h => ?_) (fun cdv A outer s H vs Q E hr h => ?_)
  · obtain ⟨p, q, r, o, ns, m, c, rfl, _⟩ := h
    rfl
  · obtain ⟨p, q, r, o, ns, m, c, rfl, D, hc, k⟩ := h
    have hr1 : Room 1 _ := hr.mono (by decide)
    refine ⟨_, pss_cons (ps_set (i := 1) scValue.nd rfl (Or.inl rfl) (pe_lst (pa_cons pe_int (pa_cons (pe_un un_neg pe_int) (pa_cons pe_int (pa_cons (pe_op op_pow pe_int pe_int) (pa_cons pe_str (pa_cons pe_str (pa_cons pe_non (pa_cons pe_bl (pa_cons pe_bl (pa_cons (pe_tup pa_nil)
        (pa_cons (pe_tup (pa_cons pe_int (pa_cons pe_int pa_nil))) (pa_cons (pe_tup (pa_cons (pe_tup pa_nil) (pa_cons pe_str (pa_cons pe_int pa_nil)))) (pa_cons (pe_tup (pa_cons pe_str (pa_cons pe_int pa_nil))) pa_nil)))))))))))))))
      (pss_cons (ps_set (i := 1) scValue.nd rfl (Or.inl rfl) (pe_op op_cat (pv 1) (pe_lst (pa_cons (pe_lst pa_nil) (pa_cons pe_dnewK (pa_cons (pe_lst (pa_cons pe_int (pa_cons (pe_tup (pa_cons pe_int pa_nil)) pa_nil))) (pa_cons (pe_disp (pps_cons pe_str pe_int pps_nil) (by rfl) (by rfl) (fun z => by cases z) (by decide))
        (pa_cons (pe_tup (pa_cons (pe_tup (pa_cons pe_str (pa_cons pe_int pa_nil))) (pa_cons (pe_tup (pa_cons pe_str (pa_cons pe_int pa_nil))) pa_nil))) (pa_cons (pe_call GD hr1 rfl gD FD.kp bD .nil pass0 (pa_cons (pv 0) (pa_cons pe_int pa_nil))) pa_nil)))))))))
      (pss_one (ps_ret (pe_call GP hr rfl gP FP.kp bP .nil pass0 (pa_cons (pv 0) (pa_cons (pv 1) pa_nil)))))), ?_⟩
    have two : (2 : Nat) ≤ sizeLine := by decide
    -- the first list
    have DH := D
    refine ⟨_, rfl, _, _, rfl, rfl, ⟨by decide, by decide, by decide⟩, (by show 0 ≤ sizeLine; decide), fun a1 n1 => ?_⟩
    have S1 := same_new (o := HO.tup []) n1
    have t1 : Hid p q r (upd H a1 (.tup [])) a1 = some (.tup []) := hid_new DH n1
    have DN1 := DH.same S1
    generalize upd H a1 (.tup []) = H1 at S1 t1 DN1 ⊢
    have O1 := (Off.of_same (p := p) (q := q) S1).hid (r := r)
    have DH1 := DN1
    refine ⟨two, fun a2 n2 => ?_⟩
    have S2 := same_new (o := HO.tup [.int 0, .int 3]) n2
    have t2 : Hid p q r (upd H1 a2 (.tup [.int 0, .int 3])) a2 = some (.tup [.int 0, .int 3]) := hid_new DH1 n2
    have DN2 := DH1.same S2
    generalize upd H1 a2 (.tup [.int 0, .int 3]) = H2 at S2 t2 DN2 ⊢
    have O2 := (Off.of_same (p := p) (q := q) S2).hid (r := r)
    have DH2 := DN2
    refine ⟨(by show 0 ≤ sizeLine; decide), fun a3 n3 => ?_⟩
    have S3 := same_new (o := HO.tup []) n3
    have t3 : Hid p q r (upd H2 a3 (.tup [])) a3 = some (.tup []) := hid_new DH2 n3
    have DN3 := DH2.same S3
    generalize upd H2 a3 (.tup []) = H3 at S3 t3 DN3 ⊢
    have O3 := (Off.of_same (p := p) (q := q) S3).hid (r := r)
    have DH3 := DN3
    refine ⟨(by show 3 ≤ sizeLine; decide), fun a4 n4 => ?_⟩
    have S4 := same_new (o := HO.tup [.ref a3, .str "select", .int 2]) n4
    have t4 : Hid p q r (upd H3 a4 (.tup [.ref a3, .str "select", .int 2])) a4 = some (.tup [.ref a3, .str "select", .int 2]) := hid_new DH3 n4
    have DN4 := DH3.same S4
    generalize upd H3 a4 (.tup [.ref a3, .str "select", .int 2]) = H4 at S4 t4 DN4 ⊢
    have O4 := (Off.of_same (p := p) (q := q) S4).hid (r := r)
    have DH4 := DN4
    refine ⟨two, fun a5 n5 => ?_⟩
    have S5 := same_new (o := HO.tup [.str "cycle", .int 4]) n5
    have t5 : Hid p q r (upd H4 a5 (.tup [.str "cycle", .int 4])) a5 = some (.tup [.str "cycle", .int 4]) := hid_new DH4 n5
    have DN5 := DH4.same S5
    generalize upd H4 a5 (.tup [.str "cycle", .int 4]) = H5 at S5 t5 DN5 ⊢
    have O5 := (Off.of_same (p := p) (q := q) S5).hid (r := r)
    have DH5 := DN5
    refine ⟨(by show 13 ≤ sizeLine; decide), fun l1 m1 => ?_⟩
    have X1 : ThAll (Hid p q r H5) [.int 0, .int (-1), .int 7, .int (10 ^ 39), .str "", .str "cycle 4", .non, .bl true, .bl false, .ref a1, .ref a2, .ref a4, .ref a5] [.int 0, .int (-1), .int 7, .int (10 ^ 39), .str "", .str "cycle 4", .none, .bool true, .bool false, .tuple [], .tuple [.int 0, .int 3], .tuple [.tuple [], .str "select", .int 2], .tuple [.str "cycle", .int 4]] := by
      have h1 := (((O2.trans O3).trans O4).trans O5) _ _ t1
      have h2 := ((O3.trans O4).trans O5) _ _ t2
      have h3 := (O4.trans O5) _ _ t3
      have h4 := O5 _ _ t4
      exact .cons (.int _) (.cons (.int _) (.cons (.int _) (.cons (.int _) (.cons (.str _) (.cons (.str _) (.cons .non (.cons (.bl _) (.cons (.bl _) (.cons (.tup h1 rfl .nil) (.cons (.tup h2 rfl (.cons (.int _) (.cons (.int _) .nil)))
        (.cons (.tup h4 rfl (.cons (.tup h3 rfl .nil) (.cons (.str _) (.cons (.int _) .nil)))) (.cons (.tup t5 rfl (.cons (.str _) (.cons (.int _) .nil))) .nil))))))))))))
    have R5 : Same H H5 := (((S1.trans S2).trans S3).trans S4).trans S5
    have D5 := DH5
    have S6 := same_new (o := HO.lst [.int 0, .int (-1), .int 7, .int (10 ^ 39), .str "", .str "cycle 4", .non, .bl true, .bl false, .ref a1, .ref a2, .ref a4, .ref a5]) m1
    have t6 : (upd H5 l1 (.lst [.int 0, .int (-1), .int 7, .int (10 ^ 39), .str "", .str "cycle 4", .non, .bl true, .bl false, .ref a1, .ref a2, .ref a4, .ref a5])) l1 = some (.lst [.int 0, .int (-1), .int 7, .int (10 ^ 39), .str "", .str "cycle 4", .non, .bl true, .bl false, .ref a1, .ref a2, .ref a4, .ref a5]) := upd_same
    have hG : ∀ G : Hp → Prop, (∀ H6, H6 = upd H5 l1 (.lst [.int 0, .int (-1), .int 7, .int (10 ^ 39), .str "", .str "cycle 4", .non, .bl true, .bl false, .ref a1, .ref a2, .ref a4, .ref a5]) → G H6) → G (upd H5 l1 (.lst [.int 0, .int (-1), .int 7, .int (10 ^ 39), .str "", .str "cycle 4", .non, .bl true, .bl false, .ref a1, .ref a2, .ref a4, .ref a5])) := fun G h => h _ rfl
    refine hG _ fun H6 e6 => ?_
    rw [← e6] at S6 t6
    clear e6 hG
    have O6 := (Off.of_same (p := p) (q := q) S6).hid (r := r)
    have DH6 := D5.same S6
    -- the second list
    refine ⟨_, rfl, (by show 0 ≤ sizeLine; decide), fun a6 n6 => ?_⟩
    have S7 := same_new (o := HO.lst []) n6
    have t7 : Hid p q r (upd H6 a6 (.lst [])) a6 = some (.lst []) := hid_new DH6 n6
    have DN7 := DH6.same S7
    generalize upd H6 a6 (.lst []) = H7 at S7 t7 DN7 ⊢
    have O7 := (Off.of_same (p := p) (q := q) S7).hid (r := r)
    have DH7 := DN7
    intro a7 n7
    have S8 := same_new (o := HO.dK []) n7
    have t8 : Hid p q r (upd H7 a7 (.dK [])) a7 = some (.dK []) := hid_new DH7 n7
    have DN8 := DH7.same S8
    generalize upd H7 a7 (.dK []) = H8 at S8 t8 DN8 ⊢
    have O8 := (Off.of_same (p := p) (q := q) S8).hid (r := r)
    have DH8 := DN8
    refine ⟨(by show 1 ≤ sizeLine; decide), fun a8 n8 => ?_⟩
    have S9 := same_new (o := HO.tup [.int 2]) n8
    have t9 : Hid p q r (upd H8 a8 (.tup [.int 2])) a8 = some (.tup [.int 2]) := hid_new DH8 n8
    have DN9 := DH8.same S9
    generalize upd H8 a8 (.tup [.int 2]) = H9 at S9 t9 DN9 ⊢
    have O9 := (Off.of_same (p := p) (q := q) S9).hid (r := r)
    have DH9 := DN9
    refine ⟨two, fun a9 n9 => ?_⟩
    have S10 := same_new (o := HO.lst [.int 1, .ref a8]) n9
    have t10 : Hid p q r (upd H9 a9 (.lst [.int 1, .ref a8])) a9 = some (.lst [.int 1, .ref a8]) := hid_new DH9 n9
    have DN10 := DH9.same S10
    generalize upd H9 a9 (.lst [.int 1, .ref a8]) = H10 at S10 t10 DN10 ⊢
    have O10 := (Off.of_same (p := p) (q := q) S10).hid (r := r)
    have DH10 := DN10
    intro a10 n10
    refine ⟨upd_same, [(Sum.inr "a", .int 1)], rfl, by decide, ?_⟩
    have eu : upd (upd H10 a10 (.dK [])) a10 (.dK (mergeK [] [(Sum.inr "a", .int 1)])) = upd H10 a10 (.dK [(Sum.inr "a", .int 1)]) := upd_upd
    rw [eu]
    have S11 := same_new (o := HO.dK [(Sum.inr "a", .int 1)]) n10
    have t11 : Hid p q r (upd H10 a10 (.dK [(Sum.inr "a", .int 1)])) a10 = some (.dK [(Sum.inr "a", .int 1)]) := hid_new DH10 n10
    have DN11 := DH10.same S11
    generalize upd H10 a10 (.dK [(Sum.inr "a", .int 1)]) = H11 at S11 t11 DN11 ⊢
    have O11 := (Off.of_same (p := p) (q := q) S11).hid (r := r)
    have DH11 := DN11
    refine ⟨two, fun a11 n11 => ?_⟩
    have S12 := same_new (o := HO.tup [.str "a", .int 2]) n11
    have t12 : Hid p q r (upd H11 a11 (.tup [.str "a", .int 2])) a11 = some (.tup [.str "a", .int 2]) := hid_new DH11 n11
    have DN12 := DH11.same S12
    generalize upd H11 a11 (.tup [.str "a", .int 2]) = H12 at S12 t12 DN12 ⊢
    have O12 := (Off.of_same (p := p) (q := q) S12).hid (r := r)
    have DH12 := DN12
    refine ⟨two, fun a12 n12 => ?_⟩
    have S13 := same_new (o := HO.tup [.str "b", .int 1]) n12
    have t13 : Hid p q r (upd H12 a12 (.tup [.str "b", .int 1])) a12 = some (.tup [.str "b", .int 1]) := hid_new DH12 n12
    have DN13 := DH12.same S13
    generalize upd H12 a12 (.tup [.str "b", .int 1]) = H13 at S13 t13 DN13 ⊢
    have O13 := (Off.of_same (p := p) (q := q) S13).hid (r := r)
    have DH13 := DN13
    refine ⟨two, fun a13 n13 => ?_⟩
    have S14 := same_new (o := HO.tup [.ref a11, .ref a12]) n13
    have t14 : Hid p q r (upd H13 a13 (.tup [.ref a11, .ref a12])) a13 = some (.tup [.ref a11, .ref a12]) := hid_new DH13 n13
    have DN14 := DH13.same S14
    generalize upd H13 a13 (.tup [.ref a11, .ref a12]) = H14 at S14 t14 DN14 ⊢
    have O14 := (Off.of_same (p := p) (q := q) S14).hid (r := r)
    have DH14 := DN14
    have R12 := O13.trans O14
    have R11 := O12.trans R12
    have R10 := O11.trans R11
    have R9 := O10.trans R10
    have R8 := O9.trans R9
    have R7 := O8.trans R8
    have R6 := O7.trans R7
    have Z6 : Same H6 H14 := (((((((S7.trans S8).trans S9).trans S10).trans S11).trans S12).trans S13).trans S14)
    have X2 : ThAll (Hid p q r H14) [.ref a6, .ref a7, .ref a9, .ref a10, .ref a13] [.list [], .dict [], .list [.int 1, .tuple [.int 2]], .dict [(.str "a", .int 1)], .tuple [.tuple [.str "a", .int 2], .tuple [.str "b", .int 1]]] :=
      .cons (.lst (R7 _ _ t7) rfl .nil) (.cons (.d0 (R8 _ _ t8)) (.cons (.lst (R10 _ _ t10) rfl (.cons (.int _) (.cons (.tup (R9 _ _ t9) rfl (.cons (.int _) .nil)) .nil))) (.cons (.d1 (R11 _ _ t11))
        (.cons (.tup t14 rfl (.cons (.tup (R12 _ _ t12) rfl (.cons (.str _) (.cons (.int _) .nil))) (.cons (.tup (O14 _ _ t13) rfl (.cons (.str _) (.cons (.int _) .nil))) .nil))) .nil))))
    have D14 : DeckR H14 p q r o ns m c := DH14
    have X1' := X1.same (O6.trans R6)
    have l1n := D5.new m1
    -- draw(deck, 1000)
    refine ⟨_, rfl, p, q, ns, m, c, 1000, rfl, by decide, by decide, D14.d, by omega, fun i ns' H15 h0 h1 off D0 => ?_⟩
    have D' := D14.off off D0
    have X1a := X1'.same (off.hid (r := r))
    have X2a := X2.same (off.hid (r := r))
    refine ⟨(by show 6 ≤ sizeLine; decide), fun l2 m2 => ?_⟩
    have S16 := same_new (o := HO.lst [.ref a6, .ref a7, .ref a9, .ref a10, .ref a13, .int i]) m2
    have hl2 : (upd H15 l2 (.lst [.ref a6, .ref a7, .ref a9, .ref a10, .ref a13, .int i])) l2 = some (.lst [.ref a6, .ref a7, .ref a9, .ref a10, .ref a13, .int i]) := upd_same
    have l2n := D'.new m2
    have D16 := D'.same S16
    have O16 := (Off.of_same (p := p) (q := q) S16).hid (r := r)
    have hl1 := S16 _ _ (off _ _ (Z6 _ _ t6) l1n.1 l1n.2.1)
    generalize upd H15 l2 (.lst [.ref a6, .ref a7, .ref a9, .ref a10, .ref a13, .int i]) = H16 at S16 hl2 D16 O16 hl1 ⊢
    refine ⟨l1, l2, _, _, rfl, rfl, hl1, hl2, (by show 19 ≤ sizeLine; decide), fun l3 m3 => ?_⟩
    have S17 := same_new (o := HO.lst ([.int 0, .int (-1), .int 7, .int (10 ^ 39), .str "", .str "cycle 4", .non, .bl true, .bl false, .ref a1, .ref a2, .ref a4, .ref a5] ++ [.ref a6, .ref a7, .ref a9, .ref a10, .ref a13, .int i])) m3
    have hl3 : (upd H16 l3 (.lst ([.int 0, .int (-1), .int 7, .int (10 ^ 39), .str "", .str "cycle 4", .non, .bl true, .bl false, .ref a1, .ref a2, .ref a4, .ref a5] ++ [.ref a6, .ref a7, .ref a9, .ref a10, .ref a13, .int i]))) l3 = some (.lst ([.int 0, .int (-1), .int 7, .int (10 ^ 39), .str "", .str "cycle 4", .non, .bl true, .bl false, .ref a1, .ref a2, .ref a4, .ref a5] ++ [.ref a6, .ref a7, .ref a9, .ref a10, .ref a13, .int i])) := upd_same
    have l3n := D16.new m3
    have D17 := D16.same S17
    have O17 := (Off.of_same (p := p) (q := q) S17).hid (r := r)
    generalize upd H16 l3 (.lst ([.int 0, .int (-1), .int 7, .int (10 ^ 39), .str "", .str "cycle 4", .non, .bl true, .bl false, .ref a1, .ref a2, .ref a4, .ref a5] ++ [.ref a6, .ref a7, .ref a9, .ref a10, .ref a13, .int i])) = H17 at S17 hl3 D17 O17 ⊢
    -- pick(deck, items)
    refine ⟨_, rfl, _, rfl, p, q, l3, ns', m, c + 1, _, rfl, hl3, l3n.1, l3n.2.1, (by show 0 < 19; decide), (by show 19 ≤ 1000; decide), D17.d, by omega, fun j x ns2 H18 hj off2 D18 => ?_⟩
    have X3 := ((ThAll.append X1a (ThAll.append X2a (.cons (.int i) .nil))).same (O16.trans O17)).same (off2.hid (r := r))
    obtain ⟨d, hd, th⟩ := ThAll.get X3 hj
    have e2 : c + 1 + 1 = c + 2 := by omega
    rw [e2] at D18
    have oAll : Off p q H H18 := (((((Off.of_same R5).trans (.of_same S6)).trans (.of_same Z6)).trans off).trans (.of_same (S16.trans S17))).trans off2
    refine k x d ns2 H18 th ?_ oAll D18
    have hm : d ∈ ds0 ++ [.int i] := List.mem_of_getElem? hd
    rcases List.mem_append.mp hm with hm | hm
    · exact ⟨(good0 d hm).1, (good0 d hm).2.1, (good0 d hm).2.2⟩
    · rw [List.mem_singleton] at hm
      rw [hm]
      exact good_int h0 h1
end
end K1
set_option maxRecDepth 100000
set_option maxHeartbeats 4000000
namespace K1
open PySem PySem.Spec PyProof.Rows L2
/-! ### the twelve classes, by their number -/
def xs12 : List Str := ["InvalidSpace", "InvalidQuery", "InvalidObservation", "NoMatch", "InvalidSeed", "InvalidUsers", "TooManyAnswers", "InvalidAction", "InvalidLine", "ParseError", "InvalidRewind", "UnknownUser"]
def fs12 : List Str := ["value", "value", "index", "observations", "bound", "value", "limit", "value", "line", "message", "length", "name"]
def xAt (k : Nat) : Str := xs12.getD k ""
def fAt (k : Nat) : Str := fs12.getD k ""
/-- what stands behind a class in its chain -/
def bmAt (S : Addr) (k : Nat) : List Value :=
  if k < 10 then [.ref S, .type "ValueError", .type "Exception", .type "BaseException", .type "object"]
  else if k = 10 then [.type "IndexError", .type "LookupError", .type "Exception", .type "BaseException", .type "object"]
  else [.type "KeyError", .type "LookupError", .type "Exception", .type "BaseException", .type "object"]
/-- what is known of one of them -/
structure ErrX (P : Program) (K : PySem.W.Frag) (mg : Str → Option Value) (S : Addr) (k : Nat) (C : Addr) : Prop where
  own : ∃ (nB newId i0 : String) (b0 : List Value) (B initId : String) (bmS : List Value) (fI : Addr), U1.OwnC K nB newId i0 b0 B initId bmS C fI (fAt k) ∧ U1.InitT P K C fI (fAt k)
  g : mg (xAt k) = some (.ref C)
  kp : PySem.W.keepIn K (.ref C) = true
  ga : PySem.W.findIn K (.ref C) "__getattribute__" = some (some (.builtin "BaseException.__getattribute__"))
  gg : PySem.W.findIn K (.ref C) "__getattr__" = some none
  ca : PySem.W.findIn K (.ref C) "__class__" = some (some (.builtin "object.__class__"))
  nf : PySem.W.findIn K (.ref C) (fAt k) = some none
  ty : PySem.W.typeIn K (.ref C) = some (.type "type")
  cd : ∃ cd, PySem.W.clsIn K C = some cd ∧ cd.name = xAt k ∧ cd.mro = .ref C :: bmAt S k
/-- what is known of all -/
structure Kit (P : Program) (K : PySem.W.Frag) (mg : Str → Option Value) (S : Addr) (C : Nat → Addr) : Prop where
  nm : Nm mg
  e : ∀ k, k < 12 → ErrX P K mg S k (C k)
  cg : PySem.W.specialIn K (.builtin "object.__class__") "__get__" = some (some (.builtin "getset_descriptor.__get__"))
  ct : PySem.W.takesIn K (.builtin "object.__class__") = some true
  gS : mg "SamplerError" = some (.ref S)
  tS : PySem.W.typeIn K (.ref S) = some (.type "type")
  cS : ∃ cd, PySem.W.clsIn K S = some cd ∧ cd.name = "SamplerError"
  sS : PySem.W.subIn K (.ref S) (.type "BaseException") = some true
  bV : mg "ValueError" = none
  bL : mg "LookupError" = none
  bI : mg "IndexError" = none
  bK : mg "KeyError" = none
theorem xAt_inj : ∀ j, j < 12 → ∀ k, k < 12 → xAt j = xAt k → j = k := by decide +kernel
theorem xAt_S : ∀ k, k < 12 → xAt k ≠ "SamplerError" := by decide +kernel
section
variable {P : Program} {K : PySem.W.Frag} {mg : Str → Option Value} {S : Addr} {C : Nat → Addr}
theorem Kit.inj (T : Kit P K mg S C) {j k : Nat} (hj : j < 12) (hk : k < 12) (h : C j = C k) : j = k := by
  obtain ⟨c1, e1, n1, _⟩ := (T.e j hj).cd
  obtain ⟨c2, e2, n2, _⟩ := (T.e k hk).cd
  rw [h, e2] at e1
  cases e1
  exact xAt_inj j hj k hk (n1.symm.trans n2)
theorem Kit.neS (T : Kit P K mg S C) {k : Nat} (hk : k < 12) : C k ≠ S := fun h => by
  obtain ⟨c1, e1, n1, _⟩ := (T.e k hk).cd
  obtain ⟨c2, e2, n2⟩ := T.cS
  rw [h, e2] at e1
  cases e1
  exact xAt_S k hk (n1.symm.trans n2)
theorem Kit.sub (T : Kit P K mg S C) {k : Nat} (hk : k < 12) (b : Value) : PySem.W.subIn K (.ref (C k)) b = some ((Value.ref (C k) :: bmAt S k).contains b) := by
  obtain ⟨c1, e1, _, m1⟩ := (T.e k hk).cd
  show PySem.W.mroIn K (C k) b = _
  unfold PySem.W.mroIn
  rw [e1]
  show (if c1.mro.isEmpty = true then none else some (c1.mro.contains b)) = _
  rw [m1]
  rfl
theorem Kit.subT (T : Kit P K mg S C) {k : Nat} (hk : k < 12) (n : String) : PySem.W.subIn K (.ref (C k)) (.type n) = some ((bmAt S k).contains (.type n)) := by
  rw [T.sub hk, List.contains_cons]
  rfl
theorem bm_cases {Q : List Value → Prop} {S : Addr} {k : Nat} (h1 : k < 10 → Q [.ref S, .type "ValueError", .type "Exception", .type "BaseException", .type "object"]) (h2 : k = 10 → Q [.type "IndexError", .type "LookupError", .type "Exception", .type "BaseException", .type "object"])
    (h3 : ¬ k < 10 → k ≠ 10 → Q [.type "KeyError", .type "LookupError", .type "Exception", .type "BaseException", .type "object"]) : Q (bmAt S k) := by
  unfold bmAt
  by_cases z : k < 10
  · rw [if_pos z]
    exact h1 z
  · rw [if_neg z]
    by_cases y : k = 10
    · rw [if_pos y]
      exact h2 y
    · rw [if_neg y]
      exact h3 z y
theorem bm_B {S : Addr} {k : Nat} : (bmAt S k).contains (.type "BaseException") = true := bm_cases (Q := fun l => l.contains (.type "BaseException") = true) (fun _ => rfl) (fun _ => rfl) fun _ _ => rfl
theorem bm_O {S : Addr} {k : Nat} : (bmAt S k).contains (.type "object") = true := bm_cases (Q := fun l => l.contains (.type "object") = true) (fun _ => rfl) (fun _ => rfl) fun _ _ => rfl
theorem Kit.isC (T : Kit P K mg S C) {k : Nat} (hk : k < 12) : IsC K (C k) := by
  have E := T.e k hk
  refine ⟨?_, E.ga, E.gg, ?_, E.ca, T.cg, T.ct, ?_⟩
  · obtain ⟨c1, e1, _⟩ := E.cd
    rw [e1]
    rfl
  · rw [T.subT hk, bm_B]
  · show PySem.W.subIn K (.ref (C k)) (.type "object") = some true
    rw [T.subT hk, bm_O]
theorem Kit.xf (T : Kit P K mg S C) {k : Nat} (hk : k < 12) : XfC K (C k) := by
  have E := T.e k hk
  obtain ⟨_, _, _, _, _, _, _, _, O, _⟩ := E.own
  exact ⟨E.ga, E.gg, (T.isC hk).sb, O.hd⟩
theorem kit_ref {t : Value} {D : Addr} {b : Bool} (hc : (PySem.W.clsIn K D).isSome = true) (ht : PySem.W.typeIn K (.ref D) = some (.type "type")) (hs : PySem.W.subIn K t (.ref D) = some b) : PySem.W.kitCls K t (.ref D) = some b := by
  show (if ((PySem.W.clsIn K D).isSome && PySem.W.typeIn K (.ref D) == some (.type "type")) = true then PySem.W.subIn K t (.ref D) else none) = some b
  rw [hc, ht]
  exact hs
theorem Kit.sub1 (T : Kit P K mg S C) {j k : Nat} (hk : k < 12) (hj : j < 12) : PySem.W.subIn K (.ref (C k)) (.ref (C j)) = some (decide (j = k)) := by
  rw [T.sub hk, List.contains_cons]
  congr 1
  by_cases z : j = k
  · subst z
    simp
  · have n1 : (Value.ref (C j) == Value.ref (C k)) = false := by
      rw [beq_eq_false_iff_ne]
      intro e
      injection e with e
      exact z (T.inj hj hk e)
    have n2 : (Value.ref (C j) == Value.ref S) = false := by
      rw [beq_eq_false_iff_ne]
      intro e
      injection e with e
      exact T.neS hj e
    rw [n1, Bool.false_or, decide_eq_false z]
    refine bm_cases (Q := fun l => l.contains (.ref (C j)) = false) (fun _ => ?_) (fun _ => rfl) fun _ _ => rfl
    rw [List.contains_cons, n2]
    rfl
theorem Kit.subS (T : Kit P K mg S C) {k : Nat} (hk : k < 12) : PySem.W.subIn K (.ref (C k)) (.ref S) = some (decide (k < 10)) := by
  rw [T.sub hk, List.contains_cons]
  have n1 : (Value.ref S == Value.ref (C k)) = false := by
    rw [beq_eq_false_iff_ne]
    intro e
    injection e with e
    exact T.neS hk e.symm
  rw [n1, Bool.false_or]
  congr 1
  refine bm_cases (Q := fun l => l.contains (.ref S) = decide (k < 10)) (fun h => ?_) (fun h => ?_) fun h _ => ?_
  · rw [decide_eq_true h, List.contains_cons]
    simp
  · rw [h]
    rfl
  · rw [decide_eq_false h]
    rfl
theorem Kit.one (T : Kit P K mg S C) {j k : Nat} (hk : k < 12) (hj : j < 12) : PySem.W.kitOne K (.ref (C k)) (.ref (C j)) = some (decide (j = k)) := by
  have z := kit_ref (K := K) (t := .ref (C k)) (T.isC hj).cl (T.e j hj).ty (T.sub1 hk hj)
  unfold PySem.W.kitOne
  by_cases e : (Value.ref (C k) == Value.ref (C j)) = true
  · rw [if_pos e]
    have e' := beq_iff_eq.mp e
    injection e' with e'
    rw [decide_eq_true (T.inj hk hj e').symm]
  · rw [if_neg e]
    exact z
theorem Kit.oneS (T : Kit P K mg S C) {k : Nat} (hk : k < 12) : PySem.W.kitOne K (.ref (C k)) (.ref S) = some (decide (k < 10)) := by
  have cS : (PySem.W.clsIn K S).isSome = true := by
    obtain ⟨c2, e2, _⟩ := T.cS
    rw [e2]
    rfl
  have z := kit_ref (K := K) (t := .ref (C k)) cS T.tS (T.subS hk)
  unfold PySem.W.kitOne
  have e : ¬ (Value.ref (C k) == Value.ref S) = true := fun e => by
    have e' := beq_iff_eq.mp e
    injection e' with e'
    exact T.neS hk e'
  rw [if_neg e]
  exact z
theorem Kit.oneT (T : Kit P K mg S C) {k : Nat} (hk : k < 12) {n : String} (hm : PySem.W.kitMeta n = true) {b : Bool} (h1 : k < 10 → ([.ref S, .type "ValueError", .type "Exception", .type "BaseException", .type "object"] : List Value).contains (.type n) = b)
    (h2 : k = 10 → ([.type "IndexError", .type "LookupError", .type "Exception", .type "BaseException", .type "object"] : List Value).contains (.type n) = b) (h3 : k = 11 → ([.type "KeyError", .type "LookupError", .type "Exception", .type "BaseException", .type "object"] : List Value).contains (.type n) = b) :
    PySem.W.kitOne K (.ref (C k)) (.type n) = some b := by
  show PySem.W.kitCls K (.ref (C k)) (.type n) = some b
  show (if PySem.W.kitMeta n = true then PySem.W.subIn K (.ref (C k)) (.type n) else none) = some b
  rw [if_pos hm, T.subT hk]
  congr 1
  exact bm_cases (Q := fun l => l.contains (.type n) = b) h1 h2 fun z y => h3 (by omega)
theorem Kit.oneV (T : Kit P K mg S C) {k : Nat} (hk : k < 12) : PySem.W.kitOne K (.ref (C k)) (.type "ValueError") = some (decide (k < 10)) :=
  T.oneT hk (by decide +kernel) (fun h => by rw [decide_eq_true h]; rfl) (fun h => by rw [h]; rfl) (fun h => by rw [h]; rfl)
theorem Kit.oneL (T : Kit P K mg S C) {k : Nat} (hk : k < 12) : PySem.W.kitOne K (.ref (C k)) (.type "LookupError") = some (decide (10 ≤ k)) :=
  T.oneT hk (by decide +kernel) (fun h => by rw [decide_eq_false (by omega)]; rfl) (fun h => by rw [h]; rfl) (fun h => by rw [h]; rfl)
theorem Kit.oneI (T : Kit P K mg S C) {k : Nat} (hk : k < 12) : PySem.W.kitOne K (.ref (C k)) (.type "IndexError") = some (decide (k = 10)) :=
  T.oneT hk (by decide +kernel) (fun h => by rw [decide_eq_false (by omega)]; rfl) (fun h => by rw [h]; rfl) (fun h => by rw [h]; rfl)
theorem Kit.oneK (T : Kit P K mg S C) {k : Nat} (hk : k < 12) : PySem.W.kitOne K (.ref (C k)) (.type "KeyError") = some (decide (k = 11)) :=
  T.oneT hk (by decide +kernel) (fun h => by rw [decide_eq_false (by omega)]; rfl) (fun h => by rw [h]; rfl) (fun h => by rw [h]; rfl)
/-- which handlers take an error -/
theorem Kit.exm (T : Kit P K mg S C) {j k : Nat} (hk : k < 12) (hj : j < 12) : PySem.W.exmOne K (.ref (C k)) (.ref (C j)) = some (decide (j = k)) := by
  have z := kit_ref (K := K) (t := .ref (C k)) (T.isC hj).cl (T.e j hj).ty (T.sub1 hk hj)
  unfold PySem.W.exmOne
  rw [(T.isC hj).sb]
  exact z
theorem Kit.exmS (T : Kit P K mg S C) {k : Nat} (hk : k < 12) : PySem.W.exmOne K (.ref (C k)) (.ref S) = some (decide (k < 10)) := by
  have cS : (PySem.W.clsIn K S).isSome = true := by
    obtain ⟨c2, e2, _⟩ := T.cS
    rw [e2]
    rfl
  have z := kit_ref (K := K) (t := .ref (C k)) cS T.tS (T.subS hk)
  unfold PySem.W.exmOne
  rw [T.sS]
  exact z
end
section
variable {X : Cx} {S : Addr} {C : Nat → Addr} {k j : Nat} {e : Expr} {ta : TA} {x n : Str} {p pos kpos : Pos}
theorem pe_newE (T : Kit X.prog X.K X.mg S C) (hk : k < 12) (hr : Room j X.A) (ha : PA X [e] ta) (hx : xAt k = x := by rfl) (hg : Gl X x := by rfl)
    (he : starEach (e :: []) X.env = (false, eval e X.env) :: starEach [] X.env := by rfl) (hpl : (backTo pos (starEach [] X.env)).any (·.1) = false := by rfl) (hdb : (x == ("__debug__" : Str)) = false := by decide) :
    PE X (.Call (.Name x p) [e] [] pos) (tNew (C k) (fAt k) ta) := by
  obtain ⟨_, _, _, _, _, _, _, _, O, N⟩ := (T.e k hk).own
  exact pe_new O N T.nm.sup hr (T.e k hk).kp (by rw [← hx]; exact (T.e k hk).g) ha hg he hpl hdb
theorem pe_newKE (T : Kit X.prog X.K X.mg S C) (hk : k < 12) (hr : Room j X.A) (ha : PK X [⟨some n, e, kpos⟩] ta) (hx : xAt k = x := by rfl) (hn : fAt k = n := by rfl) (hg : Gl X x := by rfl) (hdb : (x == ("__debug__" : Str)) = false := by decide) :
    PE X (.Call (.Name x p) [] [⟨some n, e, kpos⟩] pos) (tNew (C k) (fAt k) ta) := by
  obtain ⟨_, _, _, _, _, _, _, _, O, N⟩ := (T.e k hk).own
  subst hn
  exact pe_newK O N T.nm.sup hr (T.e k hk).kp (by rw [← hx]; exact (T.e k hk).g) ha hg hdb
theorem pmk_newE (T : Kit X.prog X.K X.mg S C) (hk : k < 12) (hr : Room j X.A) (ha : PA X [e] ta) (hx : xAt k = x := by rfl) (hg : Gl X x := by rfl)
    (he : starEach (e :: []) X.env = (false, eval e X.env) :: starEach [] X.env := by rfl) (hpl : (backTo pos (starEach [] X.env)).any (·.1) = false := by rfl) (hdb : (x == ("__debug__" : Str)) = false := by decide) :
    PMk X (.Call (.Name x p) [e] [] pos) (tMkN (C k) (fAt k) ta) := by
  obtain ⟨_, _, _, _, _, _, _, _, O, N⟩ := (T.e k hk).own
  exact pmk_new O N T.nm.sup hr (T.e k hk).kp (by rw [← hx]; exact (T.e k hk).g) (raises_own (T.isC hk).sb (T.e k hk).ty) ha hg he hpl hdb
end
/-! ### an error, the twelve errors -/
def ErrAt (C : Nat → Addr) (H : Hp) (k : Nat) (v x : V) : Prop := ∃ (a d : Addr) (u : V), x = .ref a ∧ H a = some (exo a (C k) (some d)) ∧ H d = some (exd d [(fAt k, u)]) ∧ (k ≠ 9 → u = v)
theorem ErrAt.same {C : Nat → Addr} {H H' : Hp} {k : Nat} {v x : V} (S : Same H H') (e : ErrAt C H k v x) : ErrAt C H' k v x := by
  obtain ⟨a, d, u, h1, h2, h3, h4⟩ := e
  exact ⟨a, d, u, h1, S _ _ h2, S _ _ h3, h4⟩
def ErrsAt (C : Nat → Addr) (H : Hp) (t : Addr) (v : V) : Prop := ∃ as : List V, H t = some (.lst as) ∧ as.length = 12 ∧ ∀ k x, as[k]? = some x → ErrAt C H k v x
theorem ErrsAt.same {C : Nat → Addr} {H H' : Hp} {t : Addr} {v : V} (S : Same H H') (e : ErrsAt C H t v) : ErrsAt C H' t v := by
  obtain ⟨as, h1, h2, h3⟩ := e
  exact ⟨as, S _ _ h1, h2, fun k x h => (h3 k x h).same S⟩
/-- what of H' is new -/
def NewH (H H' : Hp) : Hp := fun b => if H b = none then H' b else none
theorem newH_at {H H' : Hp} {b : Addr} {o : HO} (h : H b = none) (e : H' b = some o) : NewH H H' b = some o := by
  unfold NewH
  rw [if_pos h]
  exact e
theorem newH_of {H H' : Hp} {b : Addr} {o : HO} (e : NewH H H' b = some o) : H b = none ∧ H' b = some o := by
  unfold NewH at e
  by_cases h : H b = none
  · rw [if_pos h] at e
    exact ⟨h, e⟩
  · rw [if_neg h] at e
    cases e
theorem newH_same {H H1 H2 : Hp} (S : Same H1 H2) : Same (NewH H H1) (NewH H H2) := fun b u e => newH_at (newH_of e).1 (S b u (newH_of e).2)
theorem newH_old {H H' : Hp} : Same (NewH H H') H' := fun b u e => (newH_of e).2
theorem none_of {H H' : Hp} {b : Addr} (S : Same H H') (h : H' b = none) : H b = none := by
  cases e : H b with
  | none => rfl
  | some u =>
    rw [S _ _ e] at h
    cases h
/-- one made -/
theorem err_step {C : Nat → Addr} {H Hk : Hp} {k : Nat} {v u : V} {a d : Addr} (S : Same H Hk) (ha : Hk a = none) (hd : Hk d = none) (hne : d ≠ a) (hu : k ≠ 9 → u = v) :
    ErrAt C (NewH H (upd (upd Hk d (exd d [(fAt k, u)])) a (exo a (C k) (some d)))) k v (.ref a) ∧ Same Hk (upd (upd Hk d (exd d [(fAt k, u)])) a (exo a (C k) (some d))) := by
  refine ⟨⟨a, d, u, rfl, newH_at (none_of S ha) upd_same, newH_at (none_of S hd) (by rw [upd_ne hne, upd_same]), hu⟩, fun b o e => ?_⟩
  rw [upd_ne (ne_of_none e ha), upd_ne (ne_of_none e hd)]
  exact e
end K1
set_option maxRecDepth 100000
set_option maxHeartbeats 8000000
namespace K1
open PySem PySem.Spec PyProof.Rows L2
/-! ### which classes, which bases -/
def boolsL (k : Nat) : List V := (List.range 12).map fun j => .bl (decide (j = k))
def basesL (k : Nat) : List V := [.bl (decide (k < 10)), .bl (decide (k < 10)), .bl (decide (10 ≤ k)), .bl (decide (k = 10)), .bl (decide (k = 11))]
def spClasses (C : Nat → Addr) : Sp := fun vs H Q _ => ∃ (k : Nat) (v x : V), vs = [x] ∧ k < 12 ∧ ErrAt C H k v x ∧ ∀ t H', Same H H' → H t = none → H' t = some (.lst (boolsL k)) → Q (.ref t) H'
def spBases (C : Nat → Addr) : Sp := fun vs H Q _ => ∃ (k : Nat) (v x : V), vs = [x] ∧ k < 12 ∧ ErrAt C H k v x ∧ ∀ t H', Same H H' → H t = none → H' t = some (.lst (basesL k)) → Q (.ref t) H'
def spErrs (C : Nat → Addr) : Sp := fun vs H Q _ => ∃ v : V, vs = [v] ∧ ∀ t H', Same H H' → H t = none → ErrsAt C (NewH H H') t v → Q (.ref t) H'
def spAttrs (C : Nat → Addr) : Sp := fun vs H Q _ => ∃ (t : Addr) (v : V), vs = [.ref t] ∧ ErrsAt C H t v ∧ ∀ l H', Same H H' → H l = none → H' l = some (.lst (List.replicate 11 v)) → Q (.ref l) H'
def spDue : Sp := fun vs H Q _ => ∃ k : Nat, vs = [.int k] ∧ k < 12 ∧ ∀ t H', Same H H' → H t = none → H' t = some (.lst (basesL k)) → Q (.ref t) H'
section
variable {P : Program} {w : World} {K : PySem.W.Frag} {mg : Str → Option Value} {base : Heap} {S : Addr} {C : Nat → Addr}
theorem scClasses : FnScope ["_law_e", "_law_found"] ["_law_e"] (defScope sClasses) := ⟨rfl, rfl, rfl, by decide +kernel, rfl, by decide +kernel, by decide +kernel⟩
theorem ok_classes {f : Addr} {fd : FuncData} (F : Fun K "_law_classes" "_law_classes" sClasses f fd) (T : Kit P K mg S C) : FnOk P w K mg base CX0 1 f fd ["_law_e"] (spClasses C) := by
  refine F.ok scClasses (fun vs H Q E h => ?_) (fun cdv A outer s H vs Q E hr h => ?_)
  · obtain ⟨k, v, x, rfl, _⟩ := h
    rfl
  · obtain ⟨k, v, x, rfl, hk, ⟨a, d, u, rfl, ea, ed, _⟩, q⟩ := h
    refine ⟨_, pss_cons (ps_set (i := 1) scClasses.nd rfl (Or.inl rfl) (pe_lst (pa_cons (pe_callB call_isX (by rfl) T.nm.isinstance boot_isinstance (pa_cons (pv 0) (pa_cons (pe_glob (v := .ref (C 0)) rfl (T.e 0 (by decide)).g rfl) pa_nil))) (pa_cons (pe_callB call_isX (by rfl) T.nm.isinstance boot_isinstance (pa_cons (pv 0) (pa_cons (pe_glob (v := .ref (C 1)) rfl (T.e 1 (by decide)).g rfl) pa_nil))) (pa_cons (pe_callB call_isX (by rfl) T.nm.isinstance boot_isinstance (pa_cons (pv 0) (pa_cons (pe_glob (v := .ref (C 2)) rfl (T.e 2 (by decide)).g rfl) pa_nil))) pa_nil)))))
      (pss_cons (ps_set (i := 1) scClasses.nd rfl (Or.inl rfl) (pe_op op_cat (pv 1) (pe_lst (pa_cons (pe_callB call_isX (by rfl) T.nm.isinstance boot_isinstance (pa_cons (pv 0) (pa_cons (pe_glob (v := .ref (C 3)) rfl (T.e 3 (by decide)).g rfl) pa_nil))) (pa_cons (pe_callB call_isX (by rfl) T.nm.isinstance boot_isinstance (pa_cons (pv 0) (pa_cons (pe_glob (v := .ref (C 4)) rfl (T.e 4 (by decide)).g rfl) pa_nil))) (pa_cons (pe_callB call_isX (by rfl) T.nm.isinstance boot_isinstance (pa_cons (pv 0) (pa_cons (pe_glob (v := .ref (C 5)) rfl (T.e 5 (by decide)).g rfl) pa_nil))) pa_nil))))))
      (pss_cons (ps_set (i := 1) scClasses.nd rfl (Or.inl rfl) (pe_op op_cat (pv 1) (pe_lst (pa_cons (pe_callB call_isX (by rfl) T.nm.isinstance boot_isinstance (pa_cons (pv 0) (pa_cons (pe_glob (v := .ref (C 6)) rfl (T.e 6 (by decide)).g rfl) pa_nil))) (pa_cons (pe_callB call_isX (by rfl) T.nm.isinstance boot_isinstance (pa_cons (pv 0) (pa_cons (pe_glob (v := .ref (C 7)) rfl (T.e 7 (by decide)).g rfl) pa_nil))) (pa_cons (pe_callB call_isX (by rfl) T.nm.isinstance boot_isinstance (pa_cons (pv 0) (pa_cons (pe_glob (v := .ref (C 8)) rfl (T.e 8 (by decide)).g rfl) pa_nil))) pa_nil))))))
      (pss_one (ps_ret (pe_op op_cat (pv 1) (pe_lst (pa_cons (pe_callB call_isX (by rfl) T.nm.isinstance boot_isinstance (pa_cons (pv 0) (pa_cons (pe_glob (v := .ref (C 9)) rfl (T.e 9 (by decide)).g rfl) pa_nil))) (pa_cons (pe_callB call_isX (by rfl) T.nm.isinstance boot_isinstance (pa_cons (pv 0) (pa_cons (pe_glob (v := .ref (C 10)) rfl (T.e 10 (by decide)).g rfl) pa_nil))) (pa_cons (pe_callB call_isX (by rfl) T.nm.isinstance boot_isinstance (pa_cons (pv 0) (pa_cons (pe_glob (v := .ref (C 11)) rfl (T.e 11 (by decide)).g rfl) pa_nil))) pa_nil))))))))), ?_⟩
    have is := T.isC hk
    have S0 : Same H H := fun _ _ e => e
    refine ⟨_, rfl, a, C k, d, _, _, .ref (C 0), _, rfl, is, S0 _ _ ea, S0 _ _ ed, fun u h => h, T.one hk (by decide), ?_⟩
    refine ⟨_, rfl, a, C k, d, _, _, .ref (C 1), _, rfl, is, S0 _ _ ea, S0 _ _ ed, fun u h => h, T.one hk (by decide), ?_⟩
    refine ⟨_, rfl, a, C k, d, _, _, .ref (C 2), _, rfl, is, S0 _ _ ea, S0 _ _ ed, fun u h => h, T.one hk (by decide), ?_⟩
    refine ⟨(by show 3 ≤ sizeLine; decide), fun l0 n0 => ?_⟩
    have t0 : upd H l0 (.lst [.bl (decide (0 = k)), .bl (decide (1 = k)), .bl (decide (2 = k))]) l0 = some (.lst [.bl (decide (0 = k)), .bl (decide (1 = k)), .bl (decide (2 = k))]) := upd_same
    have R0 := S0.trans (same_new (o := HO.lst [.bl (decide (0 = k)), .bl (decide (1 = k)), .bl (decide (2 = k))]) n0)
    have D0 := same_new (o := HO.lst [.bl (decide (0 = k)), .bl (decide (1 = k)), .bl (decide (2 = k))]) n0
    have m0 := none_of S0 n0
    generalize upd H l0 (.lst [.bl (decide (0 = k)), .bl (decide (1 = k)), .bl (decide (2 = k))]) = H0 at t0 R0 D0 ⊢
    refine ⟨_, rfl, ?_⟩
    refine ⟨_, rfl, a, C k, d, _, _, .ref (C 3), _, rfl, is, R0 _ _ ea, R0 _ _ ed, fun u h => h, T.one hk (by decide), ?_⟩
    refine ⟨_, rfl, a, C k, d, _, _, .ref (C 4), _, rfl, is, R0 _ _ ea, R0 _ _ ed, fun u h => h, T.one hk (by decide), ?_⟩
    refine ⟨_, rfl, a, C k, d, _, _, .ref (C 5), _, rfl, is, R0 _ _ ea, R0 _ _ ed, fun u h => h, T.one hk (by decide), ?_⟩
    refine ⟨(by show 3 ≤ sizeLine; decide), fun l1 n1 => ?_⟩
    have t1 : upd H0 l1 (.lst [.bl (decide (3 = k)), .bl (decide (4 = k)), .bl (decide (5 = k))]) l1 = some (.lst [.bl (decide (3 = k)), .bl (decide (4 = k)), .bl (decide (5 = k))]) := upd_same
    have R1 := R0.trans (same_new (o := HO.lst [.bl (decide (3 = k)), .bl (decide (4 = k)), .bl (decide (5 = k))]) n1)
    have D1 := same_new (o := HO.lst [.bl (decide (3 = k)), .bl (decide (4 = k)), .bl (decide (5 = k))]) n1
    have m1 := none_of R0 n1
    generalize upd H0 l1 (.lst [.bl (decide (3 = k)), .bl (decide (4 = k)), .bl (decide (5 = k))]) = H1 at t1 R1 D1 ⊢
    refine ⟨l0, l1, _, _, rfl, rfl, D1 _ _ t0, t1, (by show 6 ≤ sizeLine; decide), fun l2 n2 => ?_⟩
    have t2 : upd H1 l2 (.lst [.bl (decide (0 = k)), .bl (decide (1 = k)), .bl (decide (2 = k)), .bl (decide (3 = k)), .bl (decide (4 = k)), .bl (decide (5 = k))]) l2 = some (.lst [.bl (decide (0 = k)), .bl (decide (1 = k)), .bl (decide (2 = k)), .bl (decide (3 = k)), .bl (decide (4 = k)), .bl (decide (5 = k))]) := upd_same
    have R2 := R1.trans (same_new (o := HO.lst [.bl (decide (0 = k)), .bl (decide (1 = k)), .bl (decide (2 = k)), .bl (decide (3 = k)), .bl (decide (4 = k)), .bl (decide (5 = k))]) n2)
    have hG : ∀ G : Hp → Prop, (∀ Z, Z = upd H1 l2 (.lst [.bl (decide (0 = k)), .bl (decide (1 = k)), .bl (decide (2 = k)), .bl (decide (3 = k)), .bl (decide (4 = k)), .bl (decide (5 = k))]) → G Z) → G (upd H1 l2 (.lst [.bl (decide (0 = k)), .bl (decide (1 = k)), .bl (decide (2 = k)), .bl (decide (3 = k)), .bl (decide (4 = k)), .bl (decide (5 = k))])) := fun G h => h _ rfl
    refine hG _ fun H2 e2 => ?_
    rw [← e2] at t2 R2
    clear e2 hG
    refine ⟨_, rfl, ?_⟩
    refine ⟨_, rfl, a, C k, d, _, _, .ref (C 6), _, rfl, is, R2 _ _ ea, R2 _ _ ed, fun u h => h, T.one hk (by decide), ?_⟩
    refine ⟨_, rfl, a, C k, d, _, _, .ref (C 7), _, rfl, is, R2 _ _ ea, R2 _ _ ed, fun u h => h, T.one hk (by decide), ?_⟩
    refine ⟨_, rfl, a, C k, d, _, _, .ref (C 8), _, rfl, is, R2 _ _ ea, R2 _ _ ed, fun u h => h, T.one hk (by decide), ?_⟩
    refine ⟨(by show 3 ≤ sizeLine; decide), fun l3 n3 => ?_⟩
    have t3 : upd H2 l3 (.lst [.bl (decide (6 = k)), .bl (decide (7 = k)), .bl (decide (8 = k))]) l3 = some (.lst [.bl (decide (6 = k)), .bl (decide (7 = k)), .bl (decide (8 = k))]) := upd_same
    have R3 := R2.trans (same_new (o := HO.lst [.bl (decide (6 = k)), .bl (decide (7 = k)), .bl (decide (8 = k))]) n3)
    have D3 := same_new (o := HO.lst [.bl (decide (6 = k)), .bl (decide (7 = k)), .bl (decide (8 = k))]) n3
    have m3 := none_of R2 n3
    generalize upd H2 l3 (.lst [.bl (decide (6 = k)), .bl (decide (7 = k)), .bl (decide (8 = k))]) = H3 at t3 R3 D3 ⊢
    refine ⟨l2, l3, _, _, rfl, rfl, D3 _ _ t2, t3, (by show 9 ≤ sizeLine; decide), fun l4 n4 => ?_⟩
    have t4 : upd H3 l4 (.lst [.bl (decide (0 = k)), .bl (decide (1 = k)), .bl (decide (2 = k)), .bl (decide (3 = k)), .bl (decide (4 = k)), .bl (decide (5 = k)), .bl (decide (6 = k)), .bl (decide (7 = k)), .bl (decide (8 = k))]) l4 = some (.lst [.bl (decide (0 = k)), .bl (decide (1 = k)), .bl (decide (2 = k)), .bl (decide (3 = k)), .bl (decide (4 = k)), .bl (decide (5 = k)), .bl (decide (6 = k)), .bl (decide (7 = k)), .bl (decide (8 = k))]) := upd_same
    have R4 := R3.trans (same_new (o := HO.lst [.bl (decide (0 = k)), .bl (decide (1 = k)), .bl (decide (2 = k)), .bl (decide (3 = k)), .bl (decide (4 = k)), .bl (decide (5 = k)), .bl (decide (6 = k)), .bl (decide (7 = k)), .bl (decide (8 = k))]) n4)
    have hG : ∀ G : Hp → Prop, (∀ Z, Z = upd H3 l4 (.lst [.bl (decide (0 = k)), .bl (decide (1 = k)), .bl (decide (2 = k)), .bl (decide (3 = k)), .bl (decide (4 = k)), .bl (decide (5 = k)), .bl (decide (6 = k)), .bl (decide (7 = k)), .bl (decide (8 = k))]) → G Z) → G (upd H3 l4 (.lst [.bl (decide (0 = k)), .bl (decide (1 = k)), .bl (decide (2 = k)), .bl (decide (3 = k)), .bl (decide (4 = k)), .bl (decide (5 = k)), .bl (decide (6 = k)), .bl (decide (7 = k)), .bl (decide (8 = k))])) := fun G h => h _ rfl
    refine hG _ fun H4 e4 => ?_
    rw [← e4] at t4 R4
    clear e4 hG
    refine ⟨_, rfl, ?_⟩
    refine ⟨_, rfl, a, C k, d, _, _, .ref (C 9), _, rfl, is, R4 _ _ ea, R4 _ _ ed, fun u h => h, T.one hk (by decide), ?_⟩
    refine ⟨_, rfl, a, C k, d, _, _, .ref (C 10), _, rfl, is, R4 _ _ ea, R4 _ _ ed, fun u h => h, T.one hk (by decide), ?_⟩
    refine ⟨_, rfl, a, C k, d, _, _, .ref (C 11), _, rfl, is, R4 _ _ ea, R4 _ _ ed, fun u h => h, T.one hk (by decide), ?_⟩
    refine ⟨(by show 3 ≤ sizeLine; decide), fun l5 n5 => ?_⟩
    have t5 : upd H4 l5 (.lst [.bl (decide (9 = k)), .bl (decide (10 = k)), .bl (decide (11 = k))]) l5 = some (.lst [.bl (decide (9 = k)), .bl (decide (10 = k)), .bl (decide (11 = k))]) := upd_same
    have R5 := R4.trans (same_new (o := HO.lst [.bl (decide (9 = k)), .bl (decide (10 = k)), .bl (decide (11 = k))]) n5)
    have D5 := same_new (o := HO.lst [.bl (decide (9 = k)), .bl (decide (10 = k)), .bl (decide (11 = k))]) n5
    have m5 := none_of R4 n5
    generalize upd H4 l5 (.lst [.bl (decide (9 = k)), .bl (decide (10 = k)), .bl (decide (11 = k))]) = H5 at t5 R5 D5 ⊢
    refine ⟨l4, l5, _, _, rfl, rfl, D5 _ _ t4, t5, (by show 12 ≤ sizeLine; decide), fun l6 n6 => ?_⟩
    exact q l6 _ (R5.trans (same_new n6)) (none_of R5 n6) upd_same
end
end K1
set_option maxRecDepth 100000
set_option maxHeartbeats 8000000
namespace K1
open PySem PySem.Spec PyProof.Rows L2
theorem lk1 {n : Str} {v : V} : List.lookup n [(n, v)] = some v := by simp [List.lookup]
theorem ErrsAt.get {C : Nat → Addr} {H : Hp} {t : Addr} {v : V} (e : ErrsAt C H t v) : ∃ as : List V, H t = some (.lst as) ∧ ∀ k, k < 12 → k ≠ 9 → ∃ a d : Addr, as[k]? = some (.ref a) ∧ H a = some (exo a (C k) (some d)) ∧ H d = some (exd d [(fAt k, v)]) := by
  obtain ⟨as, h1, h2, h3⟩ := e
  refine ⟨as, h1, fun k hk h9 => ?_⟩
  have z : as[k]? = some as[k] := List.getElem?_eq_getElem (by omega)
  obtain ⟨a, d, u, y1, y2, y3, y4⟩ := h3 k _ z
  rw [y4 h9] at y3
  exact ⟨a, d, by rw [z, y1], y2, y3⟩
section
variable {P : Program} {w : World} {K : PySem.W.Frag} {mg : Str → Option Value} {base : Heap} {S : Addr} {C : Nat → Addr}
theorem scBases : FnScope ["_law_e", "_law_found"] ["_law_e"] (defScope sBases) := ⟨rfl, rfl, rfl, by decide +kernel, rfl, by decide +kernel, by decide +kernel⟩
theorem scByPos : FnScope ["_law_thing", "_law_found"] ["_law_thing"] (defScope sByPos) := ⟨rfl, rfl, rfl, by decide +kernel, rfl, by decide +kernel, by decide +kernel⟩
theorem scByName : FnScope ["_law_thing", "_law_found"] ["_law_thing"] (defScope sByName) := ⟨rfl, rfl, rfl, by decide +kernel, rfl, by decide +kernel, by decide +kernel⟩
theorem scAttrs : FnScope ["_law_errors", "_law_found"] ["_law_errors"] (defScope sAttrs) := ⟨rfl, rfl, rfl, by decide +kernel, rfl, by decide +kernel, by decide +kernel⟩
theorem scDue : FnScope ["_law_k"] ["_law_k"] (defScope sDue) := ⟨rfl, rfl, rfl, by decide +kernel, rfl, by decide +kernel, by decide +kernel⟩
theorem ok_bases {f : Addr} {fd : FuncData} (F : Fun K "_law_bases" "_law_bases" sBases f fd) (T : Kit P K mg S C) : FnOk P w K mg base CX0 1 f fd ["_law_e"] (spBases C) := by
  refine F.ok scBases (fun vs H Q E h => ?_) (fun cdv A outer s H vs Q E hr h => ?_)
  · obtain ⟨k, v, x, rfl, _⟩ := h
    rfl
  · obtain ⟨k, v, x, rfl, hk, ⟨a, d, u, rfl, ea, ed, _⟩, q⟩ := h
    refine ⟨_, pss_cons (ps_set (i := 1) scBases.nd rfl (Or.inl rfl) (pe_lst (pa_cons (pe_callB call_isX (by rfl) T.nm.isinstance boot_isinstance (pa_cons (pv 0) (pa_cons (pe_glob (v := .ref S) rfl T.gS rfl) pa_nil))) (pa_cons (pe_callB call_isX (by rfl) T.nm.isinstance boot_isinstance (pa_cons (pv 0) (pa_cons (pe_bltn (v := .ty "ValueError") rfl T.bV (by decide +kernel) rfl) pa_nil))) (pa_cons (pe_callB call_isX (by rfl) T.nm.isinstance boot_isinstance (pa_cons (pv 0) (pa_cons (pe_bltn (v := .ty "LookupError") rfl T.bL (by decide +kernel) rfl) pa_nil))) pa_nil)))))
      (pss_one (ps_ret (pe_op op_cat (pv 1) (pe_lst (pa_cons (pe_callB call_isX (by rfl) T.nm.isinstance boot_isinstance (pa_cons (pv 0) (pa_cons (pe_bltn (v := .ty "IndexError") rfl T.bI (by decide +kernel) rfl) pa_nil))) (pa_cons (pe_callB call_isX (by rfl) T.nm.isinstance boot_isinstance (pa_cons (pv 0) (pa_cons (pe_bltn (v := .ty "KeyError") rfl T.bK (by decide +kernel) rfl) pa_nil))) pa_nil)))))), ?_⟩
    have is := T.isC hk
    have S0 : Same H H := fun _ _ e => e
    refine ⟨_, rfl, a, C k, d, _, _, .ref S, _, rfl, is, S0 _ _ ea, S0 _ _ ed, fun u h => h, T.oneS hk, ?_⟩
    refine ⟨_, rfl, a, C k, d, _, _, .type "ValueError", _, rfl, is, S0 _ _ ea, S0 _ _ ed, fun u h => h, T.oneV hk, ?_⟩
    refine ⟨_, rfl, a, C k, d, _, _, .type "LookupError", _, rfl, is, S0 _ _ ea, S0 _ _ ed, fun u h => h, T.oneL hk, ?_⟩
    refine ⟨(by show 3 ≤ sizeLine; decide), fun l0 n0 => ?_⟩
    have t0 : upd H l0 (.lst [.bl (decide (k < 10)), .bl (decide (k < 10)), .bl (decide (10 ≤ k))]) l0 = some (.lst [.bl (decide (k < 10)), .bl (decide (k < 10)), .bl (decide (10 ≤ k))]) := upd_same
    have D0 := same_new (o := HO.lst [.bl (decide (k < 10)), .bl (decide (k < 10)), .bl (decide (10 ≤ k))]) n0
    have R0 := S0.trans D0
    have m0 := none_of S0 n0
    have hG : ∀ G : Hp → Prop, (∀ Z, Z = upd H l0 (.lst [.bl (decide (k < 10)), .bl (decide (k < 10)), .bl (decide (10 ≤ k))]) → G Z) → G (upd H l0 (.lst [.bl (decide (k < 10)), .bl (decide (k < 10)), .bl (decide (10 ≤ k))])) := fun G h => h _ rfl
    refine hG _ fun H0 e0 => ?_
    rw [← e0] at t0 D0 R0
    clear e0 hG
    refine ⟨_, rfl, ?_⟩
    refine ⟨_, rfl, a, C k, d, _, _, .type "IndexError", _, rfl, is, R0 _ _ ea, R0 _ _ ed, fun u h => h, T.oneI hk, ?_⟩
    refine ⟨_, rfl, a, C k, d, _, _, .type "KeyError", _, rfl, is, R0 _ _ ea, R0 _ _ ed, fun u h => h, T.oneK hk, ?_⟩
    refine ⟨(by show 2 ≤ sizeLine; decide), fun l1 n1 => ?_⟩
    have t1 : upd H0 l1 (.lst [.bl (decide (k = 10)), .bl (decide (k = 11))]) l1 = some (.lst [.bl (decide (k = 10)), .bl (decide (k = 11))]) := upd_same
    have D1 := same_new (o := HO.lst [.bl (decide (k = 10)), .bl (decide (k = 11))]) n1
    have R1 := R0.trans D1
    have m1 := none_of R0 n1
    have hG : ∀ G : Hp → Prop, (∀ Z, Z = upd H0 l1 (.lst [.bl (decide (k = 10)), .bl (decide (k = 11))]) → G Z) → G (upd H0 l1 (.lst [.bl (decide (k = 10)), .bl (decide (k = 11))])) := fun G h => h _ rfl
    refine hG _ fun H1 e1 => ?_
    rw [← e1] at t1 D1 R1
    clear e1 hG
    refine ⟨l0, l1, _, _, rfl, rfl, D1 _ _ t0, t1, (by show 5 ≤ sizeLine; decide), fun l2 n2 => ?_⟩
    exact q l2 _ (R1.trans (same_new n2)) (none_of R1 n2) upd_same
theorem ok_by_position {f : Addr} {fd : FuncData} (F : Fun K "_law_by_position" "_law_by_position" sByPos f fd) (T : Kit P K mg S C) : FnOk P w K mg base CX0 1 f fd ["_law_thing"] (spErrs C) := by
  refine F.ok scByPos (fun vs H Q E h => ?_) (fun cdv A outer s H vs Q E hr h => ?_)
  · obtain ⟨v, rfl, _⟩ := h
    rfl
  · obtain ⟨v, rfl, q⟩ := h
    refine ⟨_, pss_cons (ps_set (i := 1) scByPos.nd rfl (Or.inl rfl) (pe_lst (pa_cons (pe_newE (k := 0) T (by decide) hr (pa_cons (pv 0) pa_nil)) (pa_cons (pe_newE (k := 1) T (by decide) hr (pa_cons (pv 0) pa_nil)) (pa_cons (pe_newE (k := 2) T (by decide) hr (pa_cons (pv 0) pa_nil)) (pa_cons (pe_newE (k := 3) T (by decide) hr (pa_cons (pv 0) pa_nil)) (pa_cons (pe_newE (k := 4) T (by decide) hr (pa_cons (pv 0) pa_nil)) pa_nil)))))))
      (pss_cons (ps_set (i := 1) scByPos.nd rfl (Or.inl rfl) (pe_op op_cat (pv 1) (pe_lst (pa_cons (pe_newE (k := 5) T (by decide) hr (pa_cons (pv 0) pa_nil)) (pa_cons (pe_newE (k := 6) T (by decide) hr (pa_cons (pv 0) pa_nil)) (pa_cons (pe_newE (k := 7) T (by decide) hr (pa_cons (pv 0) pa_nil)) (pa_cons (pe_newE (k := 8) T (by decide) hr (pa_cons (pv 0) pa_nil)) pa_nil)))))))
      (pss_one (ps_ret (pe_op op_cat (pv 1) (pe_lst (pa_cons (pe_newE (k := 9) T (by decide) hr (pa_cons pe_str pa_nil)) (pa_cons (pe_newE (k := 10) T (by decide) hr (pa_cons (pv 0) pa_nil)) (pa_cons (pe_newE (k := 11) T (by decide) hr (pa_cons (pv 0) pa_nil)) pa_nil)))))))), ?_⟩
    have S0 : Same H H := fun _ _ e => e
    refine ⟨_, rfl, _, rfl, fun a0 d0 na0 nd0 ne0 => ?_⟩
    obtain ⟨E0, Z0⟩ := err_step (C := C) (k := 0) (v := v) (u := v) S0 na0 nd0 ne0 (fun z => by first | rfl | exact absurd rfl z)
    have Y0 := S0.trans Z0
    generalize upd (upd H d0 (exd d0 [(fAt 0, v)])) a0 (exo a0 (C 0) (some d0)) = J0 at E0 Z0 Y0 ⊢
    refine ⟨_, rfl, _, rfl, fun a1 d1 na1 nd1 ne1 => ?_⟩
    obtain ⟨E1, Z1⟩ := err_step (C := C) (k := 1) (v := v) (u := v) Y0 na1 nd1 ne1 (fun z => by first | rfl | exact absurd rfl z)
    have Y1 := Y0.trans Z1
    generalize upd (upd J0 d1 (exd d1 [(fAt 1, v)])) a1 (exo a1 (C 1) (some d1)) = J1 at E1 Z1 Y1 ⊢
    refine ⟨_, rfl, _, rfl, fun a2 d2 na2 nd2 ne2 => ?_⟩
    obtain ⟨E2, Z2⟩ := err_step (C := C) (k := 2) (v := v) (u := v) Y1 na2 nd2 ne2 (fun z => by first | rfl | exact absurd rfl z)
    have Y2 := Y1.trans Z2
    generalize upd (upd J1 d2 (exd d2 [(fAt 2, v)])) a2 (exo a2 (C 2) (some d2)) = J2 at E2 Z2 Y2 ⊢
    refine ⟨_, rfl, _, rfl, fun a3 d3 na3 nd3 ne3 => ?_⟩
    obtain ⟨E3, Z3⟩ := err_step (C := C) (k := 3) (v := v) (u := v) Y2 na3 nd3 ne3 (fun z => by first | rfl | exact absurd rfl z)
    have Y3 := Y2.trans Z3
    generalize upd (upd J2 d3 (exd d3 [(fAt 3, v)])) a3 (exo a3 (C 3) (some d3)) = J3 at E3 Z3 Y3 ⊢
    refine ⟨_, rfl, _, rfl, fun a4 d4 na4 nd4 ne4 => ?_⟩
    obtain ⟨E4, Z4⟩ := err_step (C := C) (k := 4) (v := v) (u := v) Y3 na4 nd4 ne4 (fun z => by first | rfl | exact absurd rfl z)
    have Y4 := Y3.trans Z4
    generalize upd (upd J3 d4 (exd d4 [(fAt 4, v)])) a4 (exo a4 (C 4) (some d4)) = J4 at E4 Z4 Y4 ⊢
    refine ⟨(by show 5 ≤ sizeLine; decide), fun l0 n0 => ?_⟩
    have t0 : upd J4 l0 (.lst [.ref a0, .ref a1, .ref a2, .ref a3, .ref a4]) l0 = some (.lst [.ref a0, .ref a1, .ref a2, .ref a3, .ref a4]) := upd_same
    have D0 := same_new (o := HO.lst [.ref a0, .ref a1, .ref a2, .ref a3, .ref a4]) n0
    have R0 := Y4.trans D0
    have m0 := none_of Y4 n0
    have hG : ∀ G : Hp → Prop, (∀ Z, Z = upd J4 l0 (.lst [.ref a0, .ref a1, .ref a2, .ref a3, .ref a4]) → G Z) → G (upd J4 l0 (.lst [.ref a0, .ref a1, .ref a2, .ref a3, .ref a4])) := fun G h => h _ rfl
    refine hG _ fun H0 e0 => ?_
    rw [← e0] at t0 D0 R0
    clear e0 hG
    refine ⟨_, rfl, ?_⟩
    refine ⟨_, rfl, _, rfl, fun a5 d5 na5 nd5 ne5 => ?_⟩
    obtain ⟨E5, Z5⟩ := err_step (C := C) (k := 5) (v := v) (u := v) R0 na5 nd5 ne5 (fun z => by first | rfl | exact absurd rfl z)
    have Y5 := R0.trans Z5
    generalize upd (upd H0 d5 (exd d5 [(fAt 5, v)])) a5 (exo a5 (C 5) (some d5)) = J5 at E5 Z5 Y5 ⊢
    refine ⟨_, rfl, _, rfl, fun a6 d6 na6 nd6 ne6 => ?_⟩
    obtain ⟨E6, Z6⟩ := err_step (C := C) (k := 6) (v := v) (u := v) Y5 na6 nd6 ne6 (fun z => by first | rfl | exact absurd rfl z)
    have Y6 := Y5.trans Z6
    generalize upd (upd J5 d6 (exd d6 [(fAt 6, v)])) a6 (exo a6 (C 6) (some d6)) = J6 at E6 Z6 Y6 ⊢
    refine ⟨_, rfl, _, rfl, fun a7 d7 na7 nd7 ne7 => ?_⟩
    obtain ⟨E7, Z7⟩ := err_step (C := C) (k := 7) (v := v) (u := v) Y6 na7 nd7 ne7 (fun z => by first | rfl | exact absurd rfl z)
    have Y7 := Y6.trans Z7
    generalize upd (upd J6 d7 (exd d7 [(fAt 7, v)])) a7 (exo a7 (C 7) (some d7)) = J7 at E7 Z7 Y7 ⊢
    refine ⟨_, rfl, _, rfl, fun a8 d8 na8 nd8 ne8 => ?_⟩
    obtain ⟨E8, Z8⟩ := err_step (C := C) (k := 8) (v := v) (u := v) Y7 na8 nd8 ne8 (fun z => by first | rfl | exact absurd rfl z)
    have Y8 := Y7.trans Z8
    generalize upd (upd J7 d8 (exd d8 [(fAt 8, v)])) a8 (exo a8 (C 8) (some d8)) = J8 at E8 Z8 Y8 ⊢
    refine ⟨(by show 4 ≤ sizeLine; decide), fun l1 n1 => ?_⟩
    have t1 : upd J8 l1 (.lst [.ref a5, .ref a6, .ref a7, .ref a8]) l1 = some (.lst [.ref a5, .ref a6, .ref a7, .ref a8]) := upd_same
    have D1 := same_new (o := HO.lst [.ref a5, .ref a6, .ref a7, .ref a8]) n1
    have R1 := Y8.trans D1
    have m1 := none_of Y8 n1
    have hG : ∀ G : Hp → Prop, (∀ Z, Z = upd J8 l1 (.lst [.ref a5, .ref a6, .ref a7, .ref a8]) → G Z) → G (upd J8 l1 (.lst [.ref a5, .ref a6, .ref a7, .ref a8])) := fun G h => h _ rfl
    refine hG _ fun H1 e1 => ?_
    rw [← e1] at t1 D1 R1
    clear e1 hG
    refine ⟨l0, l1, _, _, rfl, rfl, ((((Z5.trans Z6).trans Z7).trans Z8).trans D1) _ _ t0, t1, (by show 9 ≤ sizeLine; decide), fun l2 n2 => ?_⟩
    have t2 : upd H1 l2 (.lst [.ref a0, .ref a1, .ref a2, .ref a3, .ref a4, .ref a5, .ref a6, .ref a7, .ref a8]) l2 = some (.lst [.ref a0, .ref a1, .ref a2, .ref a3, .ref a4, .ref a5, .ref a6, .ref a7, .ref a8]) := upd_same
    have D2 := same_new (o := HO.lst [.ref a0, .ref a1, .ref a2, .ref a3, .ref a4, .ref a5, .ref a6, .ref a7, .ref a8]) n2
    have R2 := R1.trans D2
    have m2 := none_of R1 n2
    have hG : ∀ G : Hp → Prop, (∀ Z, Z = upd H1 l2 (.lst [.ref a0, .ref a1, .ref a2, .ref a3, .ref a4, .ref a5, .ref a6, .ref a7, .ref a8]) → G Z) → G (upd H1 l2 (.lst [.ref a0, .ref a1, .ref a2, .ref a3, .ref a4, .ref a5, .ref a6, .ref a7, .ref a8])) := fun G h => h _ rfl
    refine hG _ fun H2 e2 => ?_
    rw [← e2] at t2 D2 R2
    clear e2 hG
    refine ⟨_, rfl, ?_⟩
    refine ⟨_, rfl, fun a9 d9 na9 nd9 ne9 => ?_⟩
    obtain ⟨E9, Z9⟩ := err_step (C := C) (k := 9) (v := v) (u := (.str "a message")) R2 na9 nd9 ne9 (fun z => by first | rfl | exact absurd rfl z)
    have Y9 := R2.trans Z9
    generalize upd (upd H2 d9 (exd d9 [(fAt 9, (.str "a message"))])) a9 (exo a9 (C 9) (some d9)) = J9 at E9 Z9 Y9 ⊢
    refine ⟨_, rfl, _, rfl, fun a10 d10 na10 nd10 ne10 => ?_⟩
    obtain ⟨E10, Z10⟩ := err_step (C := C) (k := 10) (v := v) (u := v) Y9 na10 nd10 ne10 (fun z => by first | rfl | exact absurd rfl z)
    have Y10 := Y9.trans Z10
    generalize upd (upd J9 d10 (exd d10 [(fAt 10, v)])) a10 (exo a10 (C 10) (some d10)) = J10 at E10 Z10 Y10 ⊢
    refine ⟨_, rfl, _, rfl, fun a11 d11 na11 nd11 ne11 => ?_⟩
    obtain ⟨E11, Z11⟩ := err_step (C := C) (k := 11) (v := v) (u := v) Y10 na11 nd11 ne11 (fun z => by first | rfl | exact absurd rfl z)
    have Y11 := Y10.trans Z11
    generalize upd (upd J10 d11 (exd d11 [(fAt 11, v)])) a11 (exo a11 (C 11) (some d11)) = J11 at E11 Z11 Y11 ⊢
    refine ⟨(by show 3 ≤ sizeLine; decide), fun l3 n3 => ?_⟩
    have t3 : upd J11 l3 (.lst [.ref a9, .ref a10, .ref a11]) l3 = some (.lst [.ref a9, .ref a10, .ref a11]) := upd_same
    have D3 := same_new (o := HO.lst [.ref a9, .ref a10, .ref a11]) n3
    have R3 := Y11.trans D3
    have m3 := none_of Y11 n3
    have hG : ∀ G : Hp → Prop, (∀ Z, Z = upd J11 l3 (.lst [.ref a9, .ref a10, .ref a11]) → G Z) → G (upd J11 l3 (.lst [.ref a9, .ref a10, .ref a11])) := fun G h => h _ rfl
    refine hG _ fun H3 e3 => ?_
    rw [← e3] at t3 D3 R3
    clear e3 hG
    refine ⟨l2, l3, _, _, rfl, rfl, (((Z9.trans Z10).trans Z11).trans D3) _ _ t2, t3, (by show 12 ≤ sizeLine; decide), fun l4 n4 => ?_⟩
    have W4 := same_new (o := HO.lst [.ref a0, .ref a1, .ref a2, .ref a3, .ref a4, .ref a5, .ref a6, .ref a7, .ref a8, .ref a9, .ref a10, .ref a11]) n4
    have VD3 := D3.trans W4
    have F11 := E11.same (newH_same VD3)
    have VZ11 := Z11.trans VD3
    have F10 := E10.same (newH_same VZ11)
    have VZ10 := Z10.trans VZ11
    have F9 := E9.same (newH_same VZ10)
    have VZ9 := Z9.trans VZ10
    have VD2 := D2.trans VZ9
    have VD1 := D1.trans VD2
    have F8 := E8.same (newH_same VD1)
    have VZ8 := Z8.trans VD1
    have F7 := E7.same (newH_same VZ8)
    have VZ7 := Z7.trans VZ8
    have F6 := E6.same (newH_same VZ7)
    have VZ6 := Z6.trans VZ7
    have F5 := E5.same (newH_same VZ6)
    have VZ5 := Z5.trans VZ6
    have VD0 := D0.trans VZ5
    have F4 := E4.same (newH_same VD0)
    have VZ4 := Z4.trans VD0
    have F3 := E3.same (newH_same VZ4)
    have VZ3 := Z3.trans VZ4
    have F2 := E2.same (newH_same VZ3)
    have VZ2 := Z2.trans VZ3
    have F1 := E1.same (newH_same VZ2)
    have VZ1 := Z1.trans VZ2
    have F0 := E0.same (newH_same VZ1)
    have VZ0 := Z0.trans VZ1
    refine q l4 _ (R3.trans W4) (none_of R3 n4) ⟨_, newH_at (none_of R3 n4) upd_same, rfl, fun k x hx => ?_⟩
    match k, hx with
    | 0, hx => exact Option.some.inj hx ▸ F0
    | 1, hx => exact Option.some.inj hx ▸ F1
    | 2, hx => exact Option.some.inj hx ▸ F2
    | 3, hx => exact Option.some.inj hx ▸ F3
    | 4, hx => exact Option.some.inj hx ▸ F4
    | 5, hx => exact Option.some.inj hx ▸ F5
    | 6, hx => exact Option.some.inj hx ▸ F6
    | 7, hx => exact Option.some.inj hx ▸ F7
    | 8, hx => exact Option.some.inj hx ▸ F8
    | 9, hx => exact Option.some.inj hx ▸ F9
    | 10, hx => exact Option.some.inj hx ▸ F10
    | 11, hx => exact Option.some.inj hx ▸ F11
    | k + 12, hx => cases hx
theorem ok_by_name {f : Addr} {fd : FuncData} (F : Fun K "_law_by_name" "_law_by_name" sByName f fd) (T : Kit P K mg S C) : FnOk P w K mg base CX0 1 f fd ["_law_thing"] (spErrs C) := by
  refine F.ok scByName (fun vs H Q E h => ?_) (fun cdv A outer s H vs Q E hr h => ?_)
  · obtain ⟨v, rfl, _⟩ := h
    rfl
  · obtain ⟨v, rfl, q⟩ := h
    refine ⟨_, pss_cons (ps_set (i := 1) scByName.nd rfl (Or.inl rfl) (pe_lst (pa_cons (pe_newKE (k := 0) T (by decide) hr (pk_cons (pv 0) pk_nil)) (pa_cons (pe_newKE (k := 1) T (by decide) hr (pk_cons (pv 0) pk_nil)) (pa_cons (pe_newKE (k := 2) T (by decide) hr (pk_cons (pv 0) pk_nil)) pa_nil)))))
      (pss_cons (ps_set (i := 1) scByName.nd rfl (Or.inl rfl) (pe_op op_cat (pv 1) (pe_lst (pa_cons (pe_newKE (k := 3) T (by decide) hr (pk_cons (pv 0) pk_nil)) (pa_cons (pe_newKE (k := 4) T (by decide) hr (pk_cons (pv 0) pk_nil)) (pa_cons (pe_newKE (k := 5) T (by decide) hr (pk_cons (pv 0) pk_nil)) pa_nil))))))
      (pss_cons (ps_set (i := 1) scByName.nd rfl (Or.inl rfl) (pe_op op_cat (pv 1) (pe_lst (pa_cons (pe_newKE (k := 6) T (by decide) hr (pk_cons (pv 0) pk_nil)) (pa_cons (pe_newKE (k := 7) T (by decide) hr (pk_cons (pv 0) pk_nil)) (pa_cons (pe_newKE (k := 8) T (by decide) hr (pk_cons (pv 0) pk_nil)) pa_nil))))))
      (pss_one (ps_ret (pe_op op_cat (pv 1) (pe_lst (pa_cons (pe_newE (k := 9) T (by decide) hr (pa_cons pe_str pa_nil)) (pa_cons (pe_newKE (k := 10) T (by decide) hr (pk_cons (pv 0) pk_nil)) (pa_cons (pe_newKE (k := 11) T (by decide) hr (pk_cons (pv 0) pk_nil)) pa_nil))))))))), ?_⟩
    have S0 : Same H H := fun _ _ e => e
    refine ⟨_, rfl, _, rfl, fun a0 d0 na0 nd0 ne0 => ?_⟩
    obtain ⟨E0, Z0⟩ := err_step (C := C) (k := 0) (v := v) (u := v) S0 na0 nd0 ne0 (fun z => by first | rfl | exact absurd rfl z)
    have Y0 := S0.trans Z0
    generalize upd (upd H d0 (exd d0 [(fAt 0, v)])) a0 (exo a0 (C 0) (some d0)) = J0 at E0 Z0 Y0 ⊢
    refine ⟨_, rfl, _, rfl, fun a1 d1 na1 nd1 ne1 => ?_⟩
    obtain ⟨E1, Z1⟩ := err_step (C := C) (k := 1) (v := v) (u := v) Y0 na1 nd1 ne1 (fun z => by first | rfl | exact absurd rfl z)
    have Y1 := Y0.trans Z1
    generalize upd (upd J0 d1 (exd d1 [(fAt 1, v)])) a1 (exo a1 (C 1) (some d1)) = J1 at E1 Z1 Y1 ⊢
    refine ⟨_, rfl, _, rfl, fun a2 d2 na2 nd2 ne2 => ?_⟩
    obtain ⟨E2, Z2⟩ := err_step (C := C) (k := 2) (v := v) (u := v) Y1 na2 nd2 ne2 (fun z => by first | rfl | exact absurd rfl z)
    have Y2 := Y1.trans Z2
    generalize upd (upd J1 d2 (exd d2 [(fAt 2, v)])) a2 (exo a2 (C 2) (some d2)) = J2 at E2 Z2 Y2 ⊢
    refine ⟨(by show 3 ≤ sizeLine; decide), fun l0 n0 => ?_⟩
    have t0 : upd J2 l0 (.lst [.ref a0, .ref a1, .ref a2]) l0 = some (.lst [.ref a0, .ref a1, .ref a2]) := upd_same
    have D0 := same_new (o := HO.lst [.ref a0, .ref a1, .ref a2]) n0
    have R0 := Y2.trans D0
    have m0 := none_of Y2 n0
    have hG : ∀ G : Hp → Prop, (∀ Z, Z = upd J2 l0 (.lst [.ref a0, .ref a1, .ref a2]) → G Z) → G (upd J2 l0 (.lst [.ref a0, .ref a1, .ref a2])) := fun G h => h _ rfl
    refine hG _ fun H0 e0 => ?_
    rw [← e0] at t0 D0 R0
    clear e0 hG
    refine ⟨_, rfl, ?_⟩
    refine ⟨_, rfl, _, rfl, fun a3 d3 na3 nd3 ne3 => ?_⟩
    obtain ⟨E3, Z3⟩ := err_step (C := C) (k := 3) (v := v) (u := v) R0 na3 nd3 ne3 (fun z => by first | rfl | exact absurd rfl z)
    have Y3 := R0.trans Z3
    generalize upd (upd H0 d3 (exd d3 [(fAt 3, v)])) a3 (exo a3 (C 3) (some d3)) = J3 at E3 Z3 Y3 ⊢
    refine ⟨_, rfl, _, rfl, fun a4 d4 na4 nd4 ne4 => ?_⟩
    obtain ⟨E4, Z4⟩ := err_step (C := C) (k := 4) (v := v) (u := v) Y3 na4 nd4 ne4 (fun z => by first | rfl | exact absurd rfl z)
    have Y4 := Y3.trans Z4
    generalize upd (upd J3 d4 (exd d4 [(fAt 4, v)])) a4 (exo a4 (C 4) (some d4)) = J4 at E4 Z4 Y4 ⊢
    refine ⟨_, rfl, _, rfl, fun a5 d5 na5 nd5 ne5 => ?_⟩
    obtain ⟨E5, Z5⟩ := err_step (C := C) (k := 5) (v := v) (u := v) Y4 na5 nd5 ne5 (fun z => by first | rfl | exact absurd rfl z)
    have Y5 := Y4.trans Z5
    generalize upd (upd J4 d5 (exd d5 [(fAt 5, v)])) a5 (exo a5 (C 5) (some d5)) = J5 at E5 Z5 Y5 ⊢
    refine ⟨(by show 3 ≤ sizeLine; decide), fun l1 n1 => ?_⟩
    have t1 : upd J5 l1 (.lst [.ref a3, .ref a4, .ref a5]) l1 = some (.lst [.ref a3, .ref a4, .ref a5]) := upd_same
    have D1 := same_new (o := HO.lst [.ref a3, .ref a4, .ref a5]) n1
    have R1 := Y5.trans D1
    have m1 := none_of Y5 n1
    have hG : ∀ G : Hp → Prop, (∀ Z, Z = upd J5 l1 (.lst [.ref a3, .ref a4, .ref a5]) → G Z) → G (upd J5 l1 (.lst [.ref a3, .ref a4, .ref a5])) := fun G h => h _ rfl
    refine hG _ fun H1 e1 => ?_
    rw [← e1] at t1 D1 R1
    clear e1 hG
    refine ⟨l0, l1, _, _, rfl, rfl, (((Z3.trans Z4).trans Z5).trans D1) _ _ t0, t1, (by show 6 ≤ sizeLine; decide), fun l2 n2 => ?_⟩
    have t2 : upd H1 l2 (.lst [.ref a0, .ref a1, .ref a2, .ref a3, .ref a4, .ref a5]) l2 = some (.lst [.ref a0, .ref a1, .ref a2, .ref a3, .ref a4, .ref a5]) := upd_same
    have D2 := same_new (o := HO.lst [.ref a0, .ref a1, .ref a2, .ref a3, .ref a4, .ref a5]) n2
    have R2 := R1.trans D2
    have m2 := none_of R1 n2
    have hG : ∀ G : Hp → Prop, (∀ Z, Z = upd H1 l2 (.lst [.ref a0, .ref a1, .ref a2, .ref a3, .ref a4, .ref a5]) → G Z) → G (upd H1 l2 (.lst [.ref a0, .ref a1, .ref a2, .ref a3, .ref a4, .ref a5])) := fun G h => h _ rfl
    refine hG _ fun H2 e2 => ?_
    rw [← e2] at t2 D2 R2
    clear e2 hG
    refine ⟨_, rfl, ?_⟩
    refine ⟨_, rfl, _, rfl, fun a6 d6 na6 nd6 ne6 => ?_⟩
    obtain ⟨E6, Z6⟩ := err_step (C := C) (k := 6) (v := v) (u := v) R2 na6 nd6 ne6 (fun z => by first | rfl | exact absurd rfl z)
    have Y6 := R2.trans Z6
    generalize upd (upd H2 d6 (exd d6 [(fAt 6, v)])) a6 (exo a6 (C 6) (some d6)) = J6 at E6 Z6 Y6 ⊢
    refine ⟨_, rfl, _, rfl, fun a7 d7 na7 nd7 ne7 => ?_⟩
    obtain ⟨E7, Z7⟩ := err_step (C := C) (k := 7) (v := v) (u := v) Y6 na7 nd7 ne7 (fun z => by first | rfl | exact absurd rfl z)
    have Y7 := Y6.trans Z7
    generalize upd (upd J6 d7 (exd d7 [(fAt 7, v)])) a7 (exo a7 (C 7) (some d7)) = J7 at E7 Z7 Y7 ⊢
    refine ⟨_, rfl, _, rfl, fun a8 d8 na8 nd8 ne8 => ?_⟩
    obtain ⟨E8, Z8⟩ := err_step (C := C) (k := 8) (v := v) (u := v) Y7 na8 nd8 ne8 (fun z => by first | rfl | exact absurd rfl z)
    have Y8 := Y7.trans Z8
    generalize upd (upd J7 d8 (exd d8 [(fAt 8, v)])) a8 (exo a8 (C 8) (some d8)) = J8 at E8 Z8 Y8 ⊢
    refine ⟨(by show 3 ≤ sizeLine; decide), fun l3 n3 => ?_⟩
    have t3 : upd J8 l3 (.lst [.ref a6, .ref a7, .ref a8]) l3 = some (.lst [.ref a6, .ref a7, .ref a8]) := upd_same
    have D3 := same_new (o := HO.lst [.ref a6, .ref a7, .ref a8]) n3
    have R3 := Y8.trans D3
    have m3 := none_of Y8 n3
    have hG : ∀ G : Hp → Prop, (∀ Z, Z = upd J8 l3 (.lst [.ref a6, .ref a7, .ref a8]) → G Z) → G (upd J8 l3 (.lst [.ref a6, .ref a7, .ref a8])) := fun G h => h _ rfl
    refine hG _ fun H3 e3 => ?_
    rw [← e3] at t3 D3 R3
    clear e3 hG
    refine ⟨l2, l3, _, _, rfl, rfl, (((Z6.trans Z7).trans Z8).trans D3) _ _ t2, t3, (by show 9 ≤ sizeLine; decide), fun l4 n4 => ?_⟩
    have t4 : upd H3 l4 (.lst [.ref a0, .ref a1, .ref a2, .ref a3, .ref a4, .ref a5, .ref a6, .ref a7, .ref a8]) l4 = some (.lst [.ref a0, .ref a1, .ref a2, .ref a3, .ref a4, .ref a5, .ref a6, .ref a7, .ref a8]) := upd_same
    have D4 := same_new (o := HO.lst [.ref a0, .ref a1, .ref a2, .ref a3, .ref a4, .ref a5, .ref a6, .ref a7, .ref a8]) n4
    have R4 := R3.trans D4
    have m4 := none_of R3 n4
    have hG : ∀ G : Hp → Prop, (∀ Z, Z = upd H3 l4 (.lst [.ref a0, .ref a1, .ref a2, .ref a3, .ref a4, .ref a5, .ref a6, .ref a7, .ref a8]) → G Z) → G (upd H3 l4 (.lst [.ref a0, .ref a1, .ref a2, .ref a3, .ref a4, .ref a5, .ref a6, .ref a7, .ref a8])) := fun G h => h _ rfl
    refine hG _ fun H4 e4 => ?_
    rw [← e4] at t4 D4 R4
    clear e4 hG
    refine ⟨_, rfl, ?_⟩
    refine ⟨_, rfl, fun a9 d9 na9 nd9 ne9 => ?_⟩
    obtain ⟨E9, Z9⟩ := err_step (C := C) (k := 9) (v := v) (u := (.str "another message")) R4 na9 nd9 ne9 (fun z => by first | rfl | exact absurd rfl z)
    have Y9 := R4.trans Z9
    generalize upd (upd H4 d9 (exd d9 [(fAt 9, (.str "another message"))])) a9 (exo a9 (C 9) (some d9)) = J9 at E9 Z9 Y9 ⊢
    refine ⟨_, rfl, _, rfl, fun a10 d10 na10 nd10 ne10 => ?_⟩
    obtain ⟨E10, Z10⟩ := err_step (C := C) (k := 10) (v := v) (u := v) Y9 na10 nd10 ne10 (fun z => by first | rfl | exact absurd rfl z)
    have Y10 := Y9.trans Z10
    generalize upd (upd J9 d10 (exd d10 [(fAt 10, v)])) a10 (exo a10 (C 10) (some d10)) = J10 at E10 Z10 Y10 ⊢
    refine ⟨_, rfl, _, rfl, fun a11 d11 na11 nd11 ne11 => ?_⟩
    obtain ⟨E11, Z11⟩ := err_step (C := C) (k := 11) (v := v) (u := v) Y10 na11 nd11 ne11 (fun z => by first | rfl | exact absurd rfl z)
    have Y11 := Y10.trans Z11
    generalize upd (upd J10 d11 (exd d11 [(fAt 11, v)])) a11 (exo a11 (C 11) (some d11)) = J11 at E11 Z11 Y11 ⊢
    refine ⟨(by show 3 ≤ sizeLine; decide), fun l5 n5 => ?_⟩
    have t5 : upd J11 l5 (.lst [.ref a9, .ref a10, .ref a11]) l5 = some (.lst [.ref a9, .ref a10, .ref a11]) := upd_same
    have D5 := same_new (o := HO.lst [.ref a9, .ref a10, .ref a11]) n5
    have R5 := Y11.trans D5
    have m5 := none_of Y11 n5
    have hG : ∀ G : Hp → Prop, (∀ Z, Z = upd J11 l5 (.lst [.ref a9, .ref a10, .ref a11]) → G Z) → G (upd J11 l5 (.lst [.ref a9, .ref a10, .ref a11])) := fun G h => h _ rfl
    refine hG _ fun H5 e5 => ?_
    rw [← e5] at t5 D5 R5
    clear e5 hG
    refine ⟨l4, l5, _, _, rfl, rfl, (((Z9.trans Z10).trans Z11).trans D5) _ _ t4, t5, (by show 12 ≤ sizeLine; decide), fun l6 n6 => ?_⟩
    have W6 := same_new (o := HO.lst [.ref a0, .ref a1, .ref a2, .ref a3, .ref a4, .ref a5, .ref a6, .ref a7, .ref a8, .ref a9, .ref a10, .ref a11]) n6
    have VD5 := D5.trans W6
    have F11 := E11.same (newH_same VD5)
    have VZ11 := Z11.trans VD5
    have F10 := E10.same (newH_same VZ11)
    have VZ10 := Z10.trans VZ11
    have F9 := E9.same (newH_same VZ10)
    have VZ9 := Z9.trans VZ10
    have VD4 := D4.trans VZ9
    have VD3 := D3.trans VD4
    have F8 := E8.same (newH_same VD3)
    have VZ8 := Z8.trans VD3
    have F7 := E7.same (newH_same VZ8)
    have VZ7 := Z7.trans VZ8
    have F6 := E6.same (newH_same VZ7)
    have VZ6 := Z6.trans VZ7
    have VD2 := D2.trans VZ6
    have VD1 := D1.trans VD2
    have F5 := E5.same (newH_same VD1)
    have VZ5 := Z5.trans VD1
    have F4 := E4.same (newH_same VZ5)
    have VZ4 := Z4.trans VZ5
    have F3 := E3.same (newH_same VZ4)
    have VZ3 := Z3.trans VZ4
    have VD0 := D0.trans VZ3
    have F2 := E2.same (newH_same VD0)
    have VZ2 := Z2.trans VD0
    have F1 := E1.same (newH_same VZ2)
    have VZ1 := Z1.trans VZ2
    have F0 := E0.same (newH_same VZ1)
    have VZ0 := Z0.trans VZ1
    refine q l6 _ (R5.trans W6) (none_of R5 n6) ⟨_, newH_at (none_of R5 n6) upd_same, rfl, fun k x hx => ?_⟩
    match k, hx with
    | 0, hx => exact Option.some.inj hx ▸ F0
    | 1, hx => exact Option.some.inj hx ▸ F1
    | 2, hx => exact Option.some.inj hx ▸ F2
    | 3, hx => exact Option.some.inj hx ▸ F3
    | 4, hx => exact Option.some.inj hx ▸ F4
    | 5, hx => exact Option.some.inj hx ▸ F5
    | 6, hx => exact Option.some.inj hx ▸ F6
    | 7, hx => exact Option.some.inj hx ▸ F7
    | 8, hx => exact Option.some.inj hx ▸ F8
    | 9, hx => exact Option.some.inj hx ▸ F9
    | 10, hx => exact Option.some.inj hx ▸ F10
    | 11, hx => exact Option.some.inj hx ▸ F11
    | k + 12, hx => cases hx
theorem ok_attrs {f : Addr} {fd : FuncData} (F : Fun K "_law_attributes" "_law_attributes" sAttrs f fd) (T : Kit P K mg S C) : FnOk P w K mg base CX0 1 f fd ["_law_errors"] (spAttrs C) := by
  refine F.ok scAttrs (fun vs H Q E h => ?_) (fun cdv A outer s H vs Q E hr h => ?_)
  · obtain ⟨t, v, rfl, _⟩ := h
    rfl
  · obtain ⟨t, v, rfl, er, q⟩ := h
    refine ⟨_, pss_cons (ps_set (i := 1) scAttrs.nd rfl (Or.inl rfl) (pe_lst (pa_cons (pe_xat (pe_ix ix_list (pv 0) pe_int (fun _ _ => rfl))) (pa_cons (pe_xat (pe_ix ix_list (pv 0) pe_int (fun _ _ => rfl))) (pa_cons (pe_xat (pe_ix ix_list (pv 0) pe_int (fun _ _ => rfl))) (pa_cons (pe_xat (pe_ix ix_list (pv 0) pe_int (fun _ _ => rfl))) (pa_cons (pe_xat (pe_ix ix_list (pv 0) pe_int (fun _ _ => rfl))) pa_nil)))))))
      (pss_cons (ps_set (i := 1) scAttrs.nd rfl (Or.inl rfl) (pe_op op_cat (pv 1) (pe_lst (pa_cons (pe_xat (pe_ix ix_list (pv 0) pe_int (fun _ _ => rfl))) (pa_cons (pe_xat (pe_ix ix_list (pv 0) pe_int (fun _ _ => rfl))) (pa_cons (pe_xat (pe_ix ix_list (pv 0) pe_int (fun _ _ => rfl))) (pa_cons (pe_xat (pe_ix ix_list (pv 0) pe_int (fun _ _ => rfl))) pa_nil)))))))
      (pss_one (ps_ret (pe_op op_cat (pv 1) (pe_lst (pa_cons (pe_xat (pe_ix ix_list (pv 0) pe_int (fun _ _ => rfl))) (pa_cons (pe_xat (pe_ix ix_list (pv 0) pe_int (fun _ _ => rfl))) pa_nil))))))), ?_⟩
    obtain ⟨as, ht, hall⟩ := er.get
    have S0 : Same H H := fun _ _ e => e
    obtain ⟨a0, d0, i0, ea0, ed0⟩ := hall 0 (by decide) (by decide)
    obtain ⟨a1, d1, i1, ea1, ed1⟩ := hall 1 (by decide) (by decide)
    obtain ⟨a2, d2, i2, ea2, ed2⟩ := hall 2 (by decide) (by decide)
    obtain ⟨a3, d3, i3, ea3, ed3⟩ := hall 3 (by decide) (by decide)
    obtain ⟨a4, d4, i4, ea4, ed4⟩ := hall 4 (by decide) (by decide)
    obtain ⟨a5, d5, i5, ea5, ed5⟩ := hall 5 (by decide) (by decide)
    obtain ⟨a6, d6, i6, ea6, ed6⟩ := hall 6 (by decide) (by decide)
    obtain ⟨a7, d7, i7, ea7, ed7⟩ := hall 7 (by decide) (by decide)
    obtain ⟨a8, d8, i8, ea8, ed8⟩ := hall 8 (by decide) (by decide)
    obtain ⟨a10, d10, i10, ea10, ed10⟩ := hall 10 (by decide) (by decide)
    obtain ⟨a11, d11, i11, ea11, ed11⟩ := hall 11 (by decide) (by decide)
    refine ⟨_, rfl, t, _, _, _, rfl, rfl, SqL.of (S0 _ _ ht), atI_nat (j := 0) i0, a0, C 0, d0, _, v, rfl, T.xf (by decide), (T.e 0 (by decide)).nf, S0 _ _ ea0, S0 _ _ ed0, lk1, ?_⟩
    refine ⟨_, rfl, t, _, _, _, rfl, rfl, SqL.of (S0 _ _ ht), atI_nat (j := 1) i1, a1, C 1, d1, _, v, rfl, T.xf (by decide), (T.e 1 (by decide)).nf, S0 _ _ ea1, S0 _ _ ed1, lk1, ?_⟩
    refine ⟨_, rfl, t, _, _, _, rfl, rfl, SqL.of (S0 _ _ ht), atI_nat (j := 2) i2, a2, C 2, d2, _, v, rfl, T.xf (by decide), (T.e 2 (by decide)).nf, S0 _ _ ea2, S0 _ _ ed2, lk1, ?_⟩
    refine ⟨_, rfl, t, _, _, _, rfl, rfl, SqL.of (S0 _ _ ht), atI_nat (j := 3) i3, a3, C 3, d3, _, v, rfl, T.xf (by decide), (T.e 3 (by decide)).nf, S0 _ _ ea3, S0 _ _ ed3, lk1, ?_⟩
    refine ⟨_, rfl, t, _, _, _, rfl, rfl, SqL.of (S0 _ _ ht), atI_nat (j := 4) i4, a4, C 4, d4, _, v, rfl, T.xf (by decide), (T.e 4 (by decide)).nf, S0 _ _ ea4, S0 _ _ ed4, lk1, ?_⟩
    refine ⟨(by show 5 ≤ sizeLine; decide), fun l0 n0 => ?_⟩
    have t0 : upd H l0 (.lst [v, v, v, v, v]) l0 = some (.lst [v, v, v, v, v]) := upd_same
    have D0 := same_new (o := HO.lst [v, v, v, v, v]) n0
    have R0 := S0.trans D0
    have m0 := none_of S0 n0
    have hG : ∀ G : Hp → Prop, (∀ Z, Z = upd H l0 (.lst [v, v, v, v, v]) → G Z) → G (upd H l0 (.lst [v, v, v, v, v])) := fun G h => h _ rfl
    refine hG _ fun H0 e0 => ?_
    rw [← e0] at t0 D0 R0
    clear e0 hG
    refine ⟨_, rfl, ?_⟩
    refine ⟨_, rfl, t, _, _, _, rfl, rfl, SqL.of (R0 _ _ ht), atI_nat (j := 5) i5, a5, C 5, d5, _, v, rfl, T.xf (by decide), (T.e 5 (by decide)).nf, R0 _ _ ea5, R0 _ _ ed5, lk1, ?_⟩
    refine ⟨_, rfl, t, _, _, _, rfl, rfl, SqL.of (R0 _ _ ht), atI_nat (j := 6) i6, a6, C 6, d6, _, v, rfl, T.xf (by decide), (T.e 6 (by decide)).nf, R0 _ _ ea6, R0 _ _ ed6, lk1, ?_⟩
    refine ⟨_, rfl, t, _, _, _, rfl, rfl, SqL.of (R0 _ _ ht), atI_nat (j := 7) i7, a7, C 7, d7, _, v, rfl, T.xf (by decide), (T.e 7 (by decide)).nf, R0 _ _ ea7, R0 _ _ ed7, lk1, ?_⟩
    refine ⟨_, rfl, t, _, _, _, rfl, rfl, SqL.of (R0 _ _ ht), atI_nat (j := 8) i8, a8, C 8, d8, _, v, rfl, T.xf (by decide), (T.e 8 (by decide)).nf, R0 _ _ ea8, R0 _ _ ed8, lk1, ?_⟩
    refine ⟨(by show 4 ≤ sizeLine; decide), fun l1 n1 => ?_⟩
    have t1 : upd H0 l1 (.lst [v, v, v, v]) l1 = some (.lst [v, v, v, v]) := upd_same
    have D1 := same_new (o := HO.lst [v, v, v, v]) n1
    have R1 := R0.trans D1
    have m1 := none_of R0 n1
    have hG : ∀ G : Hp → Prop, (∀ Z, Z = upd H0 l1 (.lst [v, v, v, v]) → G Z) → G (upd H0 l1 (.lst [v, v, v, v])) := fun G h => h _ rfl
    refine hG _ fun H1 e1 => ?_
    rw [← e1] at t1 D1 R1
    clear e1 hG
    refine ⟨l0, l1, _, _, rfl, rfl, D1 _ _ t0, t1, (by show 9 ≤ sizeLine; decide), fun l2 n2 => ?_⟩
    have t2 : upd H1 l2 (.lst [v, v, v, v, v, v, v, v, v]) l2 = some (.lst [v, v, v, v, v, v, v, v, v]) := upd_same
    have D2 := same_new (o := HO.lst [v, v, v, v, v, v, v, v, v]) n2
    have R2 := R1.trans D2
    have m2 := none_of R1 n2
    have hG : ∀ G : Hp → Prop, (∀ Z, Z = upd H1 l2 (.lst [v, v, v, v, v, v, v, v, v]) → G Z) → G (upd H1 l2 (.lst [v, v, v, v, v, v, v, v, v])) := fun G h => h _ rfl
    refine hG _ fun H2 e2 => ?_
    rw [← e2] at t2 D2 R2
    clear e2 hG
    refine ⟨_, rfl, ?_⟩
    refine ⟨_, rfl, t, _, _, _, rfl, rfl, SqL.of (R2 _ _ ht), atI_nat (j := 10) i10, a10, C 10, d10, _, v, rfl, T.xf (by decide), (T.e 10 (by decide)).nf, R2 _ _ ea10, R2 _ _ ed10, lk1, ?_⟩
    refine ⟨_, rfl, t, _, _, _, rfl, rfl, SqL.of (R2 _ _ ht), atI_nat (j := 11) i11, a11, C 11, d11, _, v, rfl, T.xf (by decide), (T.e 11 (by decide)).nf, R2 _ _ ea11, R2 _ _ ed11, lk1, ?_⟩
    refine ⟨(by show 2 ≤ sizeLine; decide), fun l3 n3 => ?_⟩
    have t3 : upd H2 l3 (.lst [v, v]) l3 = some (.lst [v, v]) := upd_same
    have D3 := same_new (o := HO.lst [v, v]) n3
    have R3 := R2.trans D3
    have m3 := none_of R2 n3
    have hG : ∀ G : Hp → Prop, (∀ Z, Z = upd H2 l3 (.lst [v, v]) → G Z) → G (upd H2 l3 (.lst [v, v])) := fun G h => h _ rfl
    refine hG _ fun H3 e3 => ?_
    rw [← e3] at t3 D3 R3
    clear e3 hG
    refine ⟨l2, l3, _, _, rfl, rfl, D3 _ _ t2, t3, (by show 11 ≤ sizeLine; decide), fun l4 n4 => ?_⟩
    exact q l4 _ (R3.trans (same_new n4)) (none_of R3 n4) upd_same
theorem ok_due {f : Addr} {fd : FuncData} (F : Fun K "_law_bases_due" "_law_bases_due" sDue f fd) : FnOk P w K mg base CX0 1 f fd ["_law_k"] spDue := by
  refine F.ok scDue (fun vs H Q E h => ?_) (fun cdv A outer s H vs Q E hr h => ?_)
  · obtain ⟨k, rfl, _⟩ := h
    rfl
  · obtain ⟨k, rfl, hk, q⟩ := h
    refine ⟨_, pss_cons (ps_if (pt_cmpR op_lt (pv 0) pe_int (nomark _)) (pss_one (ps_ret (pe_lst (pa_cons pe_bl (pa_cons pe_bl (pa_cons pe_bl (pa_cons pe_bl (pa_cons pe_bl pa_nil)))))))) pss_nil)
      (pss_one (ps_ret (pe_lst (pa_cons pe_bl (pa_cons pe_bl (pa_cons pe_bl (pa_cons (pe_cmpR op_eq (pv 0) pe_int (nomark _)) (pa_cons (pe_cmpR op_eq (pv 0) pe_int (nomark _)) pa_nil)))))))), ?_⟩
    refine ⟨_, rfl, _, _, rfl, rfl, _, rfl, ?_⟩
    refine ite2 (fun h => ?_) (fun h => ?_)
    · have hlt : k < 10 := by have := of_decide_eq_true h; omega
      refine ⟨(by show 5 ≤ sizeLine; decide), fun t n => q t _ (same_new n) n ?_⟩
      rw [upd_same]
      unfold basesL
      rw [decide_eq_true hlt, decide_eq_false (show ¬ 10 ≤ k by omega), decide_eq_false (show ¬ k = 10 by omega), decide_eq_false (show ¬ k = 11 by omega)]
    · have hge : ¬ k < 10 := fun z => h (decide_eq_true (by omega))
      refine ⟨_, rfl, rfl, _, rfl, rfl, (by show 5 ≤ sizeLine; decide), fun t n => q t _ (same_new n) n ?_⟩
      rw [upd_same]
      unfold basesL
      have e10 : decide (V.int (k : Int) = V.int 10) = decide (k = 10) := by
        by_cases z : k = 10
        · subst z
          rfl
        · rw [decide_eq_false z]
          refine decide_eq_false fun y => ?_
          injection y with y
          omega
      have e11 : decide (V.int (k : Int) = V.int 11) = decide (k = 11) := by
        by_cases z : k = 11
        · subst z
          rfl
        · rw [decide_eq_false z]
          refine decide_eq_false fun y => ?_
          injection y with y
          omega
      rw [decide_eq_false hge, decide_eq_true (show 10 ≤ k by omega), e10, e11]
end
end K1
set_option maxRecDepth 100000
set_option maxHeartbeats 8000000
namespace K1
open PySem PySem.Spec PyProof.Rows L2
theorem if_t {c : Bool} {A B : Prop} (hc : c = true) (h : A) : if c = true then A else B := by
  rw [if_pos hc]
  exact h
theorem if_f {c : Bool} {A B : Prop} (hc : c = false) (h : B) : if c = true then A else B := by
  rw [hc, if_neg Bool.false_ne_true]
  exact h
/-! ### what is raised, by which clause it is caught -/
def kOf (i : Nat) : Nat := [4, 9, 10, 11].getD i 0
def spRaised (C : Nat → Addr) : Sp := fun vs H Q E => ∃ (i : Nat) (v : V), vs = [.int i, v] ∧ i < 4 ∧ ∀ (d : Addr) (u : V), H d = none → (i ≠ 1 → u = v) → E (.ref (C (kOf i))) (some d) (upd H d (.xd [(fAt (kOf i), u)]))
def dueAt (i : Nat) : List V := [[V.str "base", .bl true, .bl false], [V.str "base", .bl false, .bl true], [V.str "rewind", .bl true], [V.str "user", .bl true]].getD i []
def spCaught : Sp := fun vs H Q _ => ∃ (i : Nat) (v : V) (d : PyData), vs = [.int i, v] ∧ i < 4 ∧ Th H v d ∧ Good d ∧ ∀ t H', Same H H' → H t = none → H' t = some (.lst (dueAt i)) → Q (.ref t) H'
section
variable {P : Program} {w : World} {K : PySem.W.Frag} {mg : Str → Option Value} {base : Heap} {S : Addr} {C : Nat → Addr}
theorem scRaised : FnScope ["_law_turn", "_law_thing"] ["_law_turn", "_law_thing"] (defScope sRaised) := ⟨rfl, rfl, rfl, by decide +kernel, rfl, by decide +kernel, by decide +kernel⟩
theorem scCaught : FnScope ["_law_turn", "_law_thing", "_law_found", "_law_e"] ["_law_turn", "_law_thing"] (defScope sCaught) := ⟨rfl, rfl, rfl, by decide +kernel, rfl, by decide +kernel, by decide +kernel⟩
theorem lt4 {i : Nat} (h : i < 4) : i = 0 ∨ i = 1 ∨ i = 2 ∨ i = 3 := by omega
theorem ok_raised {f : Addr} {fd : FuncData} (F : Fun K "_law_raised" "_law_raised" sRaised f fd) (T : Kit P K mg S C) : FnOk P w K mg base (L2.CX P w) 1 f fd ["_law_turn", "_law_thing"] (spRaised C) := by
  refine F.okX scRaised (fun vs H Q E h => ?_) (fun cdv A outer s H vs Q E hr h => ?_)
  · obtain ⟨i, v, rfl, _⟩ := h
    rfl
  · obtain ⟨i, v, rfl, hi, q⟩ := h
    refine ⟨_, pss_cons (ps_if (pt_cmpR op_eq (pv 0) pe_int (nomark _)) (pss_one (ps_raise rfl (takes_of rfl rfl rfl rfl) (pmk_newE (k := 4) T (by decide) hr (pa_cons (pv 1) pa_nil)))) pss_nil)
      (pss_cons (ps_if (pt_cmpR op_eq (pv 0) pe_int (nomark _)) (pss_one (ps_raise rfl (takes_of rfl rfl rfl rfl) (pmk_newE (k := 9) T (by decide) hr (pa_cons pe_str pa_nil)))) pss_nil)
      (pss_cons (ps_if (pt_cmpR op_eq (pv 0) pe_int (nomark _)) (pss_one (ps_raise rfl (takes_of rfl rfl rfl rfl) (pmk_newE (k := 10) T (by decide) hr (pa_cons (pv 1) pa_nil)))) pss_nil)
      (pss_one (ps_raise rfl (takes_of rfl rfl rfl rfl) (pmk_newE (k := 11) T (by decide) hr (pa_cons (pv 1) pa_nil)))))), ?_⟩
    rcases lt4 hi with rfl | rfl | rfl | rfl
    · refine ⟨_, rfl, rfl, _, rfl, if_t (by decide) ⟨_, rfl, _, rfl, fun d hd => q d _ hd fun _ => rfl⟩⟩
    · refine ⟨_, rfl, rfl, _, rfl, if_f (by decide) ⟨_, rfl, rfl, _, rfl, if_t (by decide) ⟨_, rfl, fun d hd => q d _ hd fun z => absurd rfl z⟩⟩⟩
    · refine ⟨_, rfl, rfl, _, rfl, if_f (by decide) ⟨_, rfl, rfl, _, rfl, if_f (by decide) ⟨_, rfl, rfl, _, rfl, if_t (by decide) ⟨_, rfl, _, rfl, fun d hd => q d _ hd fun _ => rfl⟩⟩⟩⟩
    · refine ⟨_, rfl, rfl, _, rfl, if_f (by decide) ⟨_, rfl, rfl, _, rfl, if_f (by decide) ⟨_, rfl, rfl, _, rfl, if_f (by decide) ⟨_, rfl, _, rfl, fun d hd => q d _ hd fun _ => rfl⟩⟩⟩⟩
theorem Good.B {d : PyData} (g : Good d) : d.shown.length ≤ 200 := g.ln
theorem ok_caught {f fR : Addr} {fd fdR : FuncData} (F : Fun K "_law_caught" "_law_caught" sCaught f fd) (T : Kit P K mg S C) (FR : Fun K "_law_raised" "_law_raised" sRaised fR fdR) (bR : Binds K fdR ["_law_turn", "_law_thing"] []) (gR : mg "_law_raised" = some (.ref fR)) :
    FnG P w K mg base 2 f fd ["_law_turn", "_law_thing"] spCaught := by
  have GR : FnOk P w K mg base (L2.CX P w) 1 fR fdR ["_law_turn", "_law_thing"] (spRaised C) := ok_raised FR T
  refine F.okG scCaught (fun vs H Q E h => ?_) (fun cdv A outer s H vs Q E hg hr h => ?_)
  · obtain ⟨i, v, d, rfl, _⟩ := h
    rfl
  · obtain ⟨i, v, dt, rfl, hi, th, g, q⟩ := h
    have hu := hr.units
    have hz : (200 : Nat) ≤ sizeLine := by decide
    refine ⟨_, pss_cons (ps_set (i := 2) scCaught.nd rfl (Or.inl rfl) pe_non)
      (pss_cons (ps_try_cl rfl rfl scCaught.nd takes0
        (fun W pn xe tk _ => pss_one (ps_expr (pe_callS GR hr rfl gR FR.kp bR (fun σ => passAt tk σ) (pa_cons (pv 0) (pa_cons (pv 1) pa_nil)))))
        (ClsOk.bare (c := .ref (C 0)) ⟨rfl, by decide, .inl (T.e 0 (by decide)).g⟩ (fun a oe cls d pn hz hf => pss_one (ps_set (i := 2) scCaught.nd rfl (Or.inl rfl) pe_str))
        (ClsOk.named (c := .ref S) (i := 3) ⟨rfl, by decide, .inl T.gS⟩ rfl rfl (fun a oe cls d pn hz hf => pss_one (ps_set (i := 2) scCaught.nd rfl (Or.inl rfl)
            (pe_lst (pa_cons pe_str (pa_cons (pe_callB (call_isP hz hf) (by rfl) T.nm.isinstance boot_isinstance (pa_cons (pv 3) (pa_cons (pe_glob (v := .ref (C 4)) rfl (T.e 4 (by decide)).g rfl) pa_nil)))
              (pa_cons (pe_callB (call_isP hz hf) (by rfl) T.nm.isinstance boot_isinstance (pa_cons (pv 3) (pa_cons (pe_glob (v := .ref (C 9)) rfl (T.e 9 (by decide)).g rfl) pa_nil))) pa_nil))))))
        (ClsOk.named (c := .ref (C 10)) (i := 3) ⟨rfl, by decide, .inl (T.e 10 (by decide)).g⟩ rfl rfl (fun a oe cls d pn hz hf => pss_one (ps_set (i := 2) scCaught.nd rfl (Or.inl rfl)
            (pe_lst (pa_cons pe_str (pa_cons (pe_cmpR op_eq (pe_callB (call_reprT (B := 200) hg hu (by decide)) (by rfl) T.nm.repr boot_repr (pa_cons (pe_xf (T.xf (k := 10) (by decide)) (T.e 10 (by decide)).nf hz hf (pv 3)) pa_nil))
              (pe_callB (call_reprT (B := 200) hg hu (by decide)) (by rfl) T.nm.repr boot_repr (pa_cons (pv 1) pa_nil)) (nomark _)) pa_nil)))))
        (ClsOk.named (c := .ref (C 11)) (i := 3) ⟨rfl, by decide, .inl (T.e 11 (by decide)).g⟩ rfl rfl (fun a oe cls d pn hz hf => pss_one (ps_set (i := 2) scCaught.nd rfl (Or.inl rfl)
            (pe_lst (pa_cons pe_str (pa_cons (pe_cmpR op_eq (pe_callB (call_reprT (B := 200) hg hu (by decide)) (by rfl) T.nm.repr boot_repr (pa_cons (pe_xf (T.xf (k := 11) (by decide)) (T.e 11 (by decide)).nf hz hf (pv 3)) pa_nil))
              (pe_callB (call_reprT (B := 200) hg hu (by decide)) (by rfl) T.nm.repr boot_repr (pa_cons (pv 1) pa_nil)) (nomark _)) pa_nil)))))
        ClsOk.nil)))))
      (pss_one (ps_ret (pv 2)))), ?_⟩
    refine ⟨_, rfl, _, rfl, i, v, rfl, hi, fun d u hd hu1 => ?_⟩
    have sm := same_new (o := HO.xd [(fAt (kOf i), u)]) hd
    have th' := th.same sm
    have ax : upd H d (.xd [(fAt (kOf i), u)]) d = some (.xd [(fAt (kOf i), u)]) := upd_same
    rcases lt4 hi with rfl | rfl | rfl | rfl
    · refine ⟨false, T.exm (k := 4) (j := 0) (by decide) (by decide), (fun z => nomatch z), fun _ => ⟨true, T.exmS (k := 4) (by decide), fun _ a ha => ?_, fun z => nomatch z⟩⟩
      refine ⟨_, rfl, C 4, d, _, _, .ref (C 4), _, rfl, rfl, T.isC (by decide), rfl, ax, fun u h => h, T.one (k := 4) (by decide) (by decide), _, rfl, C 4, d, _, _, .ref (C 9), _, rfl, rfl, T.isC (by decide), rfl, ax, fun u h => h, T.one (k := 4) (by decide) (by decide),
        (by show 3 ≤ sizeLine; decide), fun t n => ⟨_, rfl, q t _ (sm.trans (same_new n)) (none_of sm n) ?_⟩⟩
      rw [upd_same]
      rfl
    · refine ⟨false, T.exm (k := 9) (j := 0) (by decide) (by decide), (fun z => nomatch z), fun _ => ⟨true, T.exmS (k := 9) (by decide), fun _ a ha => ?_, fun z => nomatch z⟩⟩
      refine ⟨_, rfl, C 9, d, _, _, .ref (C 4), _, rfl, rfl, T.isC (by decide), rfl, ax, fun u h => h, T.one (k := 9) (by decide) (by decide), _, rfl, C 9, d, _, _, .ref (C 9), _, rfl, rfl, T.isC (by decide), rfl, ax, fun u h => h, T.one (k := 9) (by decide) (by decide),
        (by show 3 ≤ sizeLine; decide), fun t n => ⟨_, rfl, q t _ (sm.trans (same_new n)) (none_of sm n) ?_⟩⟩
      rw [upd_same]
      rfl
    · obtain rfl := hu1 (by decide)
      refine ⟨false, T.exm (k := 10) (j := 0) (by decide) (by decide), (fun z => nomatch z), fun _ => ⟨false, T.exmS (k := 10) (by decide), (fun z => nomatch z), fun _ => ⟨true, T.exm (k := 10) (j := 10) (by decide) (by decide), fun _ a ha => ?_, fun z => nomatch z⟩⟩⟩
      refine ⟨_, rfl, rfl, rfl, d, _, _, rfl, ax, lk1, _, dt, rfl, th', g.sh, g.dp, g.ln, _, rfl, _, dt, rfl, th', g.sh, g.dp, g.ln, rfl, (by show 2 ≤ sizeLine; decide), fun t n => ⟨_, rfl, q t _ (sm.trans (same_new n)) (none_of sm n) ?_⟩⟩
      rw [upd_same, decide_eq_true rfl]
      rfl
    · obtain rfl := hu1 (by decide)
      refine ⟨false, T.exm (k := 11) (j := 0) (by decide) (by decide), (fun z => nomatch z), fun _ => ⟨false, T.exmS (k := 11) (by decide), (fun z => nomatch z), fun _ => ⟨false, T.exm (k := 11) (j := 10) (by decide) (by decide), (fun z => nomatch z),
        fun _ => ⟨true, T.exm (k := 11) (j := 11) (by decide) (by decide), fun _ a ha => ?_, fun z => nomatch z⟩⟩⟩⟩
      refine ⟨_, rfl, rfl, rfl, d, _, _, rfl, ax, lk1, _, dt, rfl, th', g.sh, g.dp, g.ln, _, rfl, _, dt, rfl, th', g.sh, g.dp, g.ln, rfl, (by show 2 ≤ sizeLine; decide), fun t n => ⟨_, rfl, q t _ (sm.trans (same_new n)) (none_of sm n) ?_⟩⟩
      rw [upd_same, decide_eq_true rfl]
      rfl
end
end K1
set_option maxRecDepth 100000
set_option maxHeartbeats 8000000
namespace K1
open PySem PySem.Spec PyProof.Rows L2
/-! ### the four ways to be caught -/
def dueD (i : Nat) : List PyData := [[PyData.str "base", .bool true, .bool false], [PyData.str "base", .bool false, .bool true], [PyData.str "rewind", .bool true], [PyData.str "user", .bool true]].getD i []
def spRight : Sp := fun vs H Q _ => ∃ (v : V) (d : PyData), vs = [v] ∧ Th H v d ∧ Good d ∧ ∀ H', Same H H' → Q (.bl true) H'
section
variable {P : Program} {w : World} {K : PySem.W.Frag} {mg : Str → Option Value} {base : Heap} {S : Addr} {C : Nat → Addr}
theorem scRight : FnScope ["_law_thing", "_law_due", "_law_turn"] ["_law_thing"] (defScope sRight) := ⟨rfl, rfl, rfl, by decide +kernel, rfl, by decide +kernel, by decide +kernel⟩
theorem dp_due {H : Hp} {t : Addr} {i : Nat} (hi : i < 4) (h : H t = some (.lst (dueAt i))) : Dp K H (.ref t) (.list (dueD i)) := by
  rcases lt4 hi with rfl | rfl | rfl | rfl
  · exact .lst (SqL.of h) (.cons (.str _) (.cons (.bl _) (.cons (.bl _) .nil)))
  · exact .lst (SqL.of h) (.cons (.str _) (.cons (.bl _) (.cons (.bl _) .nil)))
  · exact .lst (SqL.of h) (.cons (.str _) (.cons (.bl _) .nil))
  · exact .lst (SqL.of h) (.cons (.str _) (.cons (.bl _) .nil))
theorem ok_right {f fC : Addr} {fd fdC : FuncData} (F : Fun K "_law_caught_right" "_law_caught_right" sRight f fd) (T : Nm mg) (GC : ∀ base : Heap, FnG P w K mg base 2 fC fdC ["_law_turn", "_law_thing"] spCaught) (kC : PySem.W.keepIn K (.ref fC) = true)
    (bC : Binds K fdC ["_law_turn", "_law_thing"] []) (gC : mg "_law_caught" = some (.ref fC)) : FnG P w K mg base 3 f fd ["_law_thing"] spRight := by
  refine F.okG scRight (fun vs H Q E h => ?_) (fun cdv A outer s H vs Q E hg hr h => ?_)
  · obtain ⟨v, d, rfl, _⟩ := h
    rfl
  · obtain ⟨v, dt, rfl, th, g, q⟩ := h
    have hu := hr.units
    refine ⟨_, pss_cons (ps_set (i := 1) scRight.nd rfl (Or.inl rfl) (pe_lst (pa_cons (pe_lst (pa_cons pe_str (pa_cons pe_bl (pa_cons pe_bl pa_nil)))) (pa_cons (pe_lst (pa_cons pe_str (pa_cons pe_bl (pa_cons pe_bl pa_nil))))
        (pa_cons (pe_lst (pa_cons pe_str (pa_cons pe_bl pa_nil))) (pa_cons (pe_lst (pa_cons pe_str (pa_cons pe_bl pa_nil))) pa_nil))))))
      (pss_one (ps_ret (pe_cmpR (op_eqD hu) (pe_lc (own := [("_law_turn", 2)]) (g := gName 2) (tt := tYes) rfl scRight.nd (pi_range1 rfl T.range (pa_cons pe_int pa_nil)) (blkOk_by (N := ["_law_thing", "_law_due", "_law_turn"]) (sc := defScope sRight) (by decide +kernel))
          (fun _ _ _ _ _ => pg_name (i := 2) scRight.nd rfl (Or.inl rfl)) (fun _ _ _ _ _ => pts_nil) (fun _ _ _ _ _ => pe_callG (GC _) hg hr rfl gC kC bC (pa_cons (pv 2) (pa_cons (pv 0) pa_nil)))) (pv 1) (nomark _)))), ?_⟩
    refine ⟨(by show 3 ≤ sizeLine; decide), fun a0 n0 => ?_⟩
    have s0 := same_new (o := HO.lst (dueAt 0)) n0
    have e0 : upd H a0 (.lst (dueAt 0)) a0 = some (.lst (dueAt 0)) := upd_same
    generalize hH0 : upd H a0 (.lst (dueAt 0)) = H0 at s0 e0
    rw [show upd H a0 (.lst [V.str "base", .bl true, .bl false]) = H0 from hH0]
    refine ⟨(by show 3 ≤ sizeLine; decide), fun a1 n1 => ?_⟩
    have s1 := same_new (o := HO.lst (dueAt 1)) n1
    have e1 : upd H0 a1 (.lst (dueAt 1)) a1 = some (.lst (dueAt 1)) := upd_same
    generalize hH1 : upd H0 a1 (.lst (dueAt 1)) = H1 at s1 e1
    rw [show upd H0 a1 (.lst [V.str "base", .bl false, .bl true]) = H1 from hH1]
    refine ⟨(by show 2 ≤ sizeLine; decide), fun a2 n2 => ?_⟩
    have s2 := same_new (o := HO.lst (dueAt 2)) n2
    have e2 : upd H1 a2 (.lst (dueAt 2)) a2 = some (.lst (dueAt 2)) := upd_same
    generalize hH2 : upd H1 a2 (.lst (dueAt 2)) = H2 at s2 e2
    rw [show upd H1 a2 (.lst [V.str "rewind", .bl true]) = H2 from hH2]
    refine ⟨(by show 2 ≤ sizeLine; decide), fun a3 n3 => ?_⟩
    have s3 := same_new (o := HO.lst (dueAt 3)) n3
    have e3 : upd H2 a3 (.lst (dueAt 3)) a3 = some (.lst (dueAt 3)) := upd_same
    generalize hH3 : upd H2 a3 (.lst (dueAt 3)) = H3 at s3 e3
    rw [show upd H2 a3 (.lst [V.str "user", .bl true]) = H3 from hH3]
    refine ⟨(by show 4 ≤ sizeLine; decide), fun b nb => ?_⟩
    have s4 := same_new (o := HO.lst [.ref a0, .ref a1, .ref a2, .ref a3]) nb
    have e4 : upd H3 b (.lst [.ref a0, .ref a1, .ref a2, .ref a3]) b = some (.lst [.ref a0, .ref a1, .ref a2, .ref a3]) := upd_same
    generalize upd H3 b (.lst [.ref a0, .ref a1, .ref a2, .ref a3]) = H4 at s4 e4 ⊢
    have r3 := s3.trans s4
    have r2 := s2.trans r3
    have r1 := s1.trans r2
    have r0 := s0.trans r1
    refine ⟨4, rfl, by decide, by decide, fun D nD => lc_range (n := 4) (fun j Hx => Same H4 Hx ∧ ∃ xs : List V, Hx D = some (.lst xs) ∧ xs.length = j ∧ ∀ k x, xs[k]? = some x → ∃ t : Addr, x = .ref t ∧ t ≠ D ∧ Hx t = some (.lst (dueAt k)))
      ⟨same_new nD, [], upd_same, rfl, fun k x h => by simp at h⟩ ?_ ?_⟩
    · rintro j Hx hj ⟨Sx, xs, hD, hl, hx⟩
      refine ⟨rfl, _, rfl, _, rfl, j, v, dt, ?_, hj, th.same (r0.trans Sx), g, fun t H' sm nt ht => ⟨xs, sm _ _ hD, ?_, ?_⟩⟩
      · show [V.int (0 + (j : Int)), v] = [V.int (j : Int), v]
        rw [Int.zero_add]
      · rw [hl, sizeLine_eq]
        omega
      · have tD : t ≠ D := fun e => by
          rw [e, hD] at nt
          cases nt
        have keep : ∀ {c : Addr} {o : HO}, c ≠ D → H' c = some o → upd H' D (.lst (xs ++ [.ref t])) c = some o := fun h e => by
          rw [upd_ne h]
          exact e
        refine ⟨fun c o e => ?_, _, upd_same, by rw [List.length_append, hl]; rfl, fun k x h => ?_⟩
        · have cD : c ≠ D := fun z => by
            rw [z, nD] at e
            cases e
          exact keep cD (sm _ _ (Sx _ _ e))
        · by_cases hk : k < xs.length
          · rw [List.getElem?_append_left hk] at h
            obtain ⟨t', h1, h2, h3⟩ := hx k x h
            exact ⟨t', h1, h2, keep h2 (sm _ _ h3)⟩
          · have ek : k = xs.length := by
              have z := (List.getElem?_eq_some_iff.mp h).1
              rw [List.length_append] at z
              have : ([V.ref t] : List V).length = 1 := rfl
              omega
            subst ek
            rw [List.getElem?_append_right (Nat.le_refl _), Nat.sub_self] at h
            have hx' : V.ref t = x := Option.some.inj h
            exact ⟨t, hx'.symm, tD, keep tD (by rw [hl]; exact ht)⟩
    · rintro Hx ⟨Sx, xs, hD, hl, hx⟩
      match xs, hl, hx, hD with
      | [x0, x1, x2, x3], _, hx, hD =>
        obtain ⟨t0, rfl, _, g0⟩ := hx 0 x0 rfl
        obtain ⟨t1, rfl, _, g1⟩ := hx 1 x1 rfl
        obtain ⟨t2, rfl, _, g2⟩ := hx 2 x2 rfl
        obtain ⟨t3, rfl, _, g3⟩ := hx 3 x3 rfl
        refine ⟨_, rfl, .list [.list (dueD 0), .list (dueD 1), .list (dueD 2), .list (dueD 3)], .list [.list (dueD 0), .list (dueD 1), .list (dueD 2), .list (dueD 3)],
          .lst (SqL.of hD) (.cons (dp_due (by decide) g0) (.cons (dp_due (by decide) g1) (.cons (dp_due (by decide) g2) (.cons (dp_due (by decide) g3) .nil)))),
          .lst (SqL.of (Sx _ _ e4)) (.cons (dp_due (by decide) ((r1.trans Sx) _ _ e0)) (.cons (dp_due (by decide) ((r2.trans Sx) _ _ e1)) (.cons (dp_due (by decide) ((r3.trans Sx) _ _ e2)) (.cons (dp_due (by decide) ((s4.trans Sx) _ _ e3)) .nil)))), by decide +kernel, by decide +kernel, ?_⟩
        have ee : PyData.eqv (.list [.list (dueD 0), .list (dueD 1), .list (dueD 2), .list (dueD 3)]) (.list [.list (dueD 0), .list (dueD 1), .list (dueD 2), .list (dueD 3)]) = true := by decide +kernel
        rw [ee]
        exact q Hx (r0.trans Sx)
end
end K1
set_option maxRecDepth 100000
set_option maxHeartbeats 16000000
namespace K1
open PySem PySem.Spec PyProof.Rows L2
/-! ### the law -/
/-- a def of the module: its text, how it binds, its name -/
structure DefOk (K : PySem.W.Frag) (mg : Str → Option Value) (x : Str) (st : Stmt) (ps : List Str) (f : Addr) (fd : FuncData) : Prop where
  F : Fun K x x st f fd
  b : L2.Binds K fd ps []
  g : mg x = some (.ref f)
def EarAt (C : Nat → Addr) (G : Hp) (x : V) : Prop := ∃ (T t : Addr) (v : V) (d : PyData), x = .ref T ∧ G T = some (.tup [.ref t, .str (listText (List.replicate (10 + 1) d.shown))]) ∧ ErrsAt C G t v ∧ Th G v d ∧ Good d
theorem EarAt.same {C : Nat → Addr} {G G' : Hp} {x : V} (S : Same G G') (e : EarAt C G x) : EarAt C G' x := by
  obtain ⟨T, t, v, d, h1, h2, h3, h4, h5⟩ := e
  exact ⟨T, t, v, d, h1, S _ _ h2, h3.same S, h4.same S, h5⟩
theorem newH_hid {H H' : Hp} {p q r : Addr} {o : HO} {ns : List Int} {m c : Int} (D : DeckR H p q r o ns m c) : Same (NewH H H') (Hid p q r H') := fun b u e => by
  obtain ⟨h1, h2⟩ := newH_of e
  have z := D.new h1
  exact hid_at h2 z.1 z.2.1 z.2.2
theorem hid_keep {p q r : Addr} {H H' : Hp} (S : Same H H') : Same (Hid p q r H) (Hid p q r H') := (Off.of_same S).hid
theorem dec_nat {j k : Nat} : decide (V.int (j : Int) = V.int (k : Int)) = decide (j = k) := by
  by_cases z : j = k
  · subst z
    rw [decide_eq_true rfl, decide_eq_true rfl]
  · rw [decide_eq_false z]
    refine decide_eq_false fun y => ?_
    injection y with y
    exact z (by omega)
/-! lists of bools, compared -/
section
variable {K : PySem.W.Frag}
theorem dp_bools {H : Hp} : ∀ bs : List Bool, DpAll K H (bs.map V.bl) (bs.map PyData.bool)
  | [] => .nil
  | b :: l => .cons (.bl b) (dp_bools l)
theorem lay_bools : ∀ bs : List Bool, PyData.canLayAll0 (bs.map PyData.bool) = true
  | [] => by simp [PyData.canLayAll0]
  | b :: l => by simp [PyData.canLayAll0, PyData.canLay0, lay_bools l]
theorem depth_bools : ∀ bs : List Bool, PyData.depthAll (bs.map PyData.bool) = 0
  | [] => by simp [PyData.depthAll]
  | b :: l => by simp [PyData.depthAll, PyData.depth, depth_bools l]
theorem shaped_bools (bs : List Bool) : SeqAt.shaped (.list (bs.map PyData.bool)) = true := by
  have h2 : PyData.depth (.list (bs.map PyData.bool)) ≤ 64 := by
    rw [PyData.depth, depth_bools]
    decide
  unfold SeqAt.shaped
  rw [Bool.and_eq_true, PyData.canLay0]
  exact ⟨lay_bools bs, decide_eq_true h2⟩
theorem eqvAll_bools : ∀ bs : List Bool, PyData.eqvAll (bs.map PyData.bool) (bs.map PyData.bool) = true
  | [] => by simp [PyData.eqvAll]
  | b :: l => by
    rw [List.map_cons, PyData.eqvAll, eqvAll_bools l]
    cases b <;> decide +kernel
theorem eqv_bools (bs : List Bool) : PyData.eqv (.list (bs.map PyData.bool)) (.list (bs.map PyData.bool)) = true := by
  rw [PyData.eqv]
  exact eqvAll_bools bs
theorem ne_bools {H : Hp} {a b : Addr} {xs : List V} {bs : List Bool} {Q : VK} (e : xs = bs.map V.bl) (h1 : H a = some (.lst xs)) (h2 : H b = some (.lst xs)) (q : Q (.bl false) H) : rNeD K (.ref a) (.ref b) H Q := by
  subst e
  refine ⟨_, _, .lst (SqL.of h1) (dp_bools bs), .lst (SqL.of h2) (dp_bools bs), shaped_bools bs, shaped_bools bs, ?_⟩
  rw [eqv_bools]
  exact q
end
theorem boolsL_is (k : Nat) : boolsL k = ((List.range 12).map fun j => decide (j = k)).map V.bl := by
  unfold boolsL
  rw [List.map_map]
  rfl
theorem basesL_is (k : Nat) : basesL k = [decide (k < 10), decide (k < 10), decide (10 ≤ k), decide (k = 10), decide (k = 11)].map V.bl := rfl
def spLaw (K : PySem.W.Frag) : Sp := fun vs H Q _ => ∃ (a : Addr) (ns : List Int), vs = [.ref a] ∧ SqL K H a (ns.map V.int) ∧ ns.length ≤ 63 ∧ ∀ H', Q (.bl true) H'
abbrev NL : List Str := ["_law_script", "_law_deck_here", "_law_earlier", "_law_turn", "_law_thing", "_law_due", "_law_errors", "_law_k", "_law_e", "_law_at", "_law_attributes_here"]
section
variable {P : Program} {w : World} {K : PySem.W.Frag} {mg : Str → Option Value} {base : Heap} {S : Addr} {C : Nat → Addr}
theorem scLaw : FnScope NL ["_law_script"] (defScope sLaw) := ⟨rfl, rfl, rfl, by decide +kernel, rfl, by decide +kernel, by decide +kernel⟩
/-- the defs that the law calls -/
structure Defs (P : Program) (w : World) (K : PySem.W.Frag) (mg : Str → Option Value) (C : Nat → Addr) where
  (f1 f2 f3 f4 f5 f6 f7 f8 f9 : Addr)
  (d1 d2 d3 d4 d5 d6 d7 d8 d9 : FuncData)
  o1 : DefOk K mg "_law_deck" sDeck ["_law_script"] f1 d1
  o2 : DefOk K mg "_law_value" sValue ["_law_deck_here"] f2 d2
  o3 : DefOk K mg "_law_classes" sClasses ["_law_e"] f3 d3
  o4 : DefOk K mg "_law_bases" sBases ["_law_e"] f4 d4
  o5 : DefOk K mg "_law_by_position" sByPos ["_law_thing"] f5 d5
  o6 : DefOk K mg "_law_by_name" sByName ["_law_thing"] f6 d6
  o7 : DefOk K mg "_law_attributes" sAttrs ["_law_errors"] f7 d7
  o8 : DefOk K mg "_law_caught_right" sRight ["_law_thing"] f8 d8
  o9 : DefOk K mg "_law_bases_due" sDue ["_law_k"] f9 d9
  g2 : ∀ base : Heap, FnOk P w K mg base CX0 3 f2 d2 ["_law_deck_here"] spValue
  g8 : ∀ base : Heap, FnG P w K mg base 3 f8 d8 ["_law_thing"] spRight
/-- the module's constants -/
structure Cst (mg : Str → Option Value) : Prop where
  a : ∃ t, mg "DIGITS" = some (.int 4000 t)
  b : ∃ t, mg "LIMIT" = some (.int 500 t)
  c : ∃ t, mg "LEAVES" = some (.int 2000 t)
theorem ok_law {f : Addr} {fd : FuncData} (F : Fun K "law" "law" sLaw f fd) (T : Kit P K mg S C) (Z : Cst mg) (D : Defs P w K mg C) : FnG P w K mg base 4 f fd ["_law_script"] (spLaw K) := by
  have G1 : FnOk P w K mg base CX0 1 D.f1 D.d1 ["_law_script"] (spDeck K) := ok_deck D.o1.F T.nm
  have G2 := D.g2 base
  have G3 : FnOk P w K mg base CX0 1 D.f3 D.d3 ["_law_e"] (spClasses C) := ok_classes D.o3.F T
  have G4 : FnOk P w K mg base CX0 1 D.f4 D.d4 ["_law_e"] (spBases C) := ok_bases D.o4.F T
  have G5 : FnOk P w K mg base CX0 1 D.f5 D.d5 ["_law_thing"] (spErrs C) := ok_by_position D.o5.F T
  have G6 : FnOk P w K mg base CX0 1 D.f6 D.d6 ["_law_thing"] (spErrs C) := ok_by_name D.o6.F T
  have G7 : FnOk P w K mg base CX0 1 D.f7 D.d7 ["_law_errors"] (spAttrs C) := ok_attrs D.o7.F T
  have G8 := D.g8 base
  have G9 : FnOk P w K mg base CX0 1 D.f9 D.d9 ["_law_k"] spDue := ok_due D.o9.F
  obtain ⟨tA, zA⟩ := Z.a
  obtain ⟨tB, zB⟩ := Z.b
  obtain ⟨tC', zC⟩ := Z.c
  refine F.okG scLaw (fun vs H Q E h => ?_) (fun cdv A outer s H vs Q E hg hr h => ?_)
  · obtain ⟨a, ns, rfl, _⟩ := h
    rfl
  · obtain ⟨a, ns0, rfl, hS, hlen, q⟩ := h
    have hu := hr.units
    have hr1 : Room 1 _ := hr.mono (by decide)
    refine ⟨_, pss_cons (ps_par (i := 1) (j := 2) rfl scLaw.nd rfl rfl (by decide) rfl rfl (pa_cons (pe_call G1 hr1 rfl D.o1.g D.o1.F.kp D.o1.b .nil pass0 (pa_cons (pv 0) pa_nil)) (pa_cons (pe_lst pa_nil) pa_nil)) (by rfl))
      (pss_cons (ps_for PassesOwn.never rfl (pi_range1 rfl T.nm.range (pa_cons pe_int pa_nil)) (pg_name (i := 3) scLaw.nd rfl (Or.inl rfl))
        (pss_cons (ps_set (i := 4) scLaw.nd rfl (Or.inl rfl) (pe_call G2 hr rfl D.o2.g D.o2.F.kp D.o2.b .nil pass0 (pa_cons (pv 1) pa_nil)))
        (pss_cons (ps_set (i := 5) scLaw.nd rfl (Or.inl rfl) (pe_callB (call_reprL (B := 200) hg hu (by decide)) (by rfl) T.nm.repr boot_repr (pa_cons (pe_op op_rep (pe_lst (pa_cons (pv 4) pa_nil)) pe_int) pa_nil)))
        (pss_cons (ps_for PassesOwn.never rfl (pi_tup (pe_tup (pa_cons (pe_call G5 hr1 rfl D.o5.g D.o5.F.kp D.o5.b .nil pass0 (pa_cons (pv 4) pa_nil)) (pa_cons (pe_call G6 hr1 rfl D.o6.g D.o6.F.kp D.o6.b .nil pass0 (pa_cons (pv 4) pa_nil)) pa_nil)))) (pg_name (i := 6) scLaw.nd rfl (Or.inl rfl))
          (pss_cons (ps_for PassesOwn.never rfl (pi_enum rfl T.nm.enumerate (pa_cons (pv 6) pa_nil)) (pg_tup rfl (pgs_cons (pg_name (i := 7) scLaw.nd rfl (Or.inr rfl)) (pgs_cons (pg_name (i := 8) scLaw.nd rfl (Or.inl rfl)) pgs_nil)))
            (pss_one (ps_if (PW.pt (pw_or (pt_cmpR (op_neD hu) (pe_call G3 hr1 rfl D.o3.g D.o3.F.kp D.o3.b .nil pass0 (pa_cons (pv 8) pa_nil))
                (pe_lc (own := [("_law_at", 9)]) (g := gName 9) (tt := tYes) rfl scLaw.nd (pi_range1 rfl T.nm.range (pa_cons pe_int pa_nil)) (blkOk_by (N := NL) (sc := defScope sLaw) (by decide +kernel)) (fun _ _ _ _ _ => pg_name (i := 9) scLaw.nd rfl (Or.inl rfl)) (fun _ _ _ _ _ => pts_nil)
                  (fun _ _ _ _ _ => pe_cmpR op_eq (pv 9) (pv 7) (nomark _))) (nomark _))
                (pw_or1 (pt_cmpR (op_neD hu) (pe_call G4 hr1 rfl D.o4.g D.o4.F.kp D.o4.b .nil pass0 (pa_cons (pv 8) pa_nil)) (pe_call G9 hr1 rfl D.o9.g D.o9.F.kp D.o9.b .nil pass0 (pa_cons (pv 7) pa_nil)) (nomark _)))))
              (pss_one (ps_ret pe_bl)) pss_nil)))
          (pss_one (ps_expr (pe_bm PySem.F.plainAttrs_list PySem.F.slot_list_append PySem.F.type_list_append mt_append (pv 2) (pa_cons (pe_tup (pa_cons (pv 6) (pa_cons (pv 5) pa_nil))) pa_nil))))))
        (pss_cons (ps_if (pt_not (pt_val (pe_callG G8 hg hr rfl D.o8.g D.o8.F.kp D.o8.b (pa_cons (pv 4) pa_nil)))) (pss_one (ps_ret pe_bl)) pss_nil)
        (pss_one (ps_if (pt_cmpR (op_neD hu) (pe_lc (own := [("_law_errors", 6), ("_law_attributes_here", 10)]) (g := gTup K 2 (gCons (gName 6) (gCons (gName 10) gNil))) rfl scLaw.nd (pi_list (pv 2)) (blkOk_by (N := NL) (sc := defScope sLaw) (by decide +kernel))
            (fun _ _ _ _ _ => pg_tup rfl (pgs_cons (pg_name (i := 6) scLaw.nd rfl (Or.inl rfl)) (pgs_cons (pg_name (i := 10) scLaw.nd rfl (Or.inl rfl)) pgs_nil)))
            (fun _ _ _ _ _ => pts_one (pt_cmpR op_ne (pe_callB (call_reprL (B := 200) hg hu (by decide)) (by rfl) T.nm.repr boot_repr (pa_cons (pe_call G7 hr1 rfl D.o7.g D.o7.F.kp D.o7.b .nil pass0 (pa_cons (pv 6) pa_nil)) pa_nil)) (pv 10) (nomark _)))
            (fun _ _ _ _ _ => pe_int)) (pe_lst pa_nil) (nomark _)) (pss_one (ps_ret pe_bl)) pss_nil)))))))
      (pss_one (ps_ret (pe_cmpR (op_eqD hu) (pe_lst (pa_cons (pe_glob (v := .int 4000) rfl zA ⟨_, rfl⟩) (pa_cons (pe_glob (v := .int 500) rfl zB ⟨_, rfl⟩) (pa_cons (pe_glob (v := .int 2000) rfl zC ⟨_, rfl⟩) pa_nil)))) (pe_lst (pa_cons pe_int (pa_cons pe_int (pa_cons pe_int pa_nil)))) (nomark _))))), ?_⟩
    -- deck, earlier
    refine ⟨_, rfl, a, ns0, rfl, hS, hlen, fun p q0 ms m H1 s1 np nq D1 => ⟨(by show 0 ≤ sizeLine; decide), fun r nr => ⟨_, _, rfl, ?_⟩⟩⟩
    have rp : r ≠ p := fun e => by
      rw [e, D1.ob] at nr
      cases nr
    have rq : r ≠ q0 := fun e => by
      rw [e, D1.ce] at nr
      cases nr
    refine ⟨3, rfl, by decide, by decide, for_range (n := 3) (fun i σ H' => ∃ (x3 x4 x5 x6 x7 x8 : Option V) (es : List V) (ns : List Int) (c : Int), σ = [some (.ref a), some (.ref p), some (.ref r), x3, x4, x5, x6, x7, x8, none, none] ∧
        DeckR H' p q0 r (.lst es) ns m c ∧ c = 2 * (i : Int) ∧ es.length = 2 * i ∧ ∀ x ∈ es, EarAt C (Hid p q0 r H') x)
      ⟨none, none, none, none, none, none, [], ms, 0, rfl, ⟨D1.same (same_new nr), upd_same, rp, rq⟩, rfl, rfl, fun x h => by cases h⟩ ?_ ?_⟩
    · rintro i σ H2 hi ⟨x3, x4, x5, x6, x7, x8, es, ns, c, rfl, D2, rfl, hel, ear2⟩
      -- thing
      refine ⟨_, rfl, p, q0, r, .lst es, ns, m, _, rfl, D2, by omega, fun v d ns1 H3 th3 g off E3 => ?_⟩
      have D3 := D2.off off E3
      have ear3 : ∀ x ∈ es, EarAt C (Hid p q0 r H3) x := fun x hx => (ear2 x hx).same off.hid
      -- due
      refine ⟨_, rfl, (by show 1 ≤ sizeLine; decide), fun l1 n1 => ?_⟩
      have s4 := same_new (o := HO.lst [v]) n1
      have t4 : upd H3 l1 (.lst [v]) l1 = some (.lst [v]) := upd_same
      generalize upd H3 l1 (.lst [v]) = H4 at s4 t4 ⊢
      refine ⟨l1, 11, [v], rfl, rfl, t4, by decide, by decide, (by show 11 ≤ sizeLine; decide), fun l2 n2 => ?_⟩
      have s5 := same_new (o := HO.lst (List.replicate (10 + 1) v)) n2
      have t5 : upd H4 l2 (.lst (List.replicate (10 + 1) v)) l2 = some (.lst (List.replicate (10 + 1) v)) := upd_same
      generalize hH5 : upd H4 l2 (.lst (List.replicate (10 + 1) v)) = H5 at s5 t5
      rw [show upd H4 l2 (.lst (List.replicate (11 : Int).toNat [v]).flatten) = H5 from hH5]
      have D5 := (D3.same s4).same s5
      have th5 := th3.same (hid_keep (p := p) (q := q0) (r := r) (s4.trans s5))
      have ear5 : ∀ x ∈ es, EarAt C (Hid p q0 r H5) x := fun x hx => (ear3 x hx).same (hid_keep (s4.trans s5))
      refine ⟨l2, v, d, 10, rfl, t5, th5.same hid_same, g.sh, g.dp, g.ln, by decide, ?_⟩
      generalize hdue : listText (List.replicate (10 + 1) d.shown) = due
      -- both lists of errors
      refine ⟨_, rfl, v, rfl, fun t1 H6 s6 n6 er6 => ⟨_, rfl, v, rfl, fun t2 H7 s7 n7 er7 => ⟨(by show 2 ≤ sizeLine; decide), fun tt nt => ?_⟩⟩⟩
      have D6 := D5.same s6
      have D7 := D6.same s7
      have s8 := same_new (o := HO.tup [.ref t1, .ref t2]) nt
      have ht : Hid p q0 r (upd H7 tt (.tup [.ref t1, .ref t2])) tt = some (.tup [.ref t1, .ref t2]) := hid_new D7 nt
      generalize upd H7 tt (.tup [.ref t1, .ref t2]) = H8 at s8 ht ⊢
      have D8 := D7.same s8
      have er1 := (er6.same (newH_hid D5)).same (hid_keep (p := p) (q := q0) (r := r) (s7.trans s8))
      have er2 := (er7.same (newH_hid D6)).same (hid_keep (p := p) (q := q0) (r := r) s8)
      have s58 := (s6.trans s7).trans s8
      have th8 := th5.same (hid_keep (p := p) (q := q0) (r := r) s58)
      have ear8 : ∀ x ∈ es, EarAt C (Hid p q0 r H8) x := fun x hx => (ear5 x hx).same (hid_keep s58)
      refine ⟨tt, rfl, ⟨_, SqT.of (hid_same _ _ ht)⟩, for_tup (K := K) (a := tt) (xs := [.ref t1, .ref t2]) (fun j σ H' => ∃ (y6 y7 y8 : Option V) (es' : List V), σ = [some (.ref a), some (.ref p), some (.ref r), some (.int (0 + (i : Int))), some v, some (.str due), y6, y7, y8, none, none] ∧
          DeckR H' p q0 r (.lst es') ns1 m (2 * (i : Int) + 2) ∧ es'.length = es.length + j ∧ (∀ x ∈ es', EarAt C (Hid p q0 r H') x) ∧ Same (Hid p q0 r H8) (Hid p q0 r H'))
        ⟨x6, x7, x8, es, rfl, D8, rfl, ear8, fun _ _ e => e⟩ (fun j σ H' _ ⟨_, _, _, _, _, _, _, _, S⟩ => SqT.of (hid_same _ _ (S _ _ ht))) ?_ ?_⟩
      · rintro j x σ H9 hx ⟨y6, y7, y8, es', rfl, D9, hl9, ear9, S9⟩
        obtain ⟨t, rfl, er8⟩ : ∃ t : Addr, x = .ref t ∧ ErrsAt C (Hid p q0 r H8) t v := by
          match j, hx with
          | 0, hx => exact ⟨t1, (Option.some.inj hx).symm, er1⟩
          | 1, hx => exact ⟨t2, (Option.some.inj hx).symm, er2⟩
          | j + 2, hx => simp at hx
        have er9 := er8.same S9
        obtain ⟨as, hal, hlas, hall⟩ := id er9
        refine ⟨_, rfl, t, as, rfl, SqL.of (hid_same _ _ hal), for_it (walk_enum (K := K) (a := t) (xs := as)) (fun k σ H' => ∃ (z7 z8 : Option V), σ = [some (.ref a), some (.ref p), some (.ref r), some (.int (0 + (i : Int))), some v, some (.str due), some (.ref t), z7, z8, none, none] ∧ Same H9 H')
          ⟨y7, y8, rfl, fun _ _ e => e⟩ (fun k σ H' _ ⟨_, _, _, S⟩ => SqL.of (S _ _ (hid_same _ _ hal))) ?_ ?_⟩
        · rintro k x σ Ha Hb hk ⟨z7, z8, rfl, Sa⟩ ⟨U, kx, y, rfl, nU, rfl, hk1, hk2⟩
          obtain rfl : V.int (k : Nat) = kx := Option.some.inj hk1
          have hk12 : k < 12 := by omega
          refine ⟨U, _, rfl, SqT.of upd_same, rfl, _, _, rfl, _, _, rfl, rfl, ?_⟩
          have Sb := Sa.trans (same_new (o := HO.tup [.int (k : Nat), y]) nU)
          generalize upd Ha U (.tup [.int (k : Nat), y]) = Hc at Sb ⊢
          have ea := (hall k y hk2).same (hid_same.trans Sb)
          refine ⟨_, rfl, k, v, y, rfl, hk12, ea, fun lc Hd Sd nd hd => ?_⟩
          refine ⟨12, rfl, by decide, by decide, fun L nL => lc_range (n := 12) (fun j Hx => Same Hd Hx ∧ Hx L = some (.lst ((List.range j).map fun at' => .bl (decide (at' = k))))) ⟨same_new nL, upd_same⟩ ?_ ?_⟩
          · rintro j' Hx hj' ⟨Sx, hL⟩
            refine ⟨rfl, _, rfl, _, rfl, rfl, _, hL, (by rw [List.length_map, List.length_range, sizeLine_eq]; omega), fun b o e => ?_, ?_⟩
            · have bL : b ≠ L := fun z => by
                rw [z, nL] at e
                cases e
              rw [upd_ne bL]
              exact Sx _ _ e
            · rw [upd_same, List.range_succ, List.map_append, Int.zero_add, dec_nat]
              rfl
          · rintro Hx ⟨Sx, hL⟩
            refine ne_bools (Q := _) (boolsL_is k) (Sx _ _ hd) hL ⟨_, rfl, if_f rfl ?_⟩
            have Sy := Sd.trans Sx
            refine ⟨_, rfl, k, v, y, rfl, hk12, ea.same Sy, fun lb He Se ne he => ⟨_, rfl, k, rfl, hk12, fun ld Hf Sf nf hf => ?_⟩⟩
            exact ne_bools (Q := _) (basesL_is k) (Sf _ _ he) hf ⟨_, rfl, if_f rfl ⟨_, _, rfl, ((Sb.trans Sy).trans Se).trans Sf⟩⟩
        · rintro σ Ha ⟨z7, z8, rfl, Sa⟩
          -- earlier.append((errors, due))
          have Da := D9.same Sa
          refine ⟨_, rfl, .inl ⟨rfl, _, SqL.of Da.er⟩, _, rfl, _, rfl, (by show 2 ≤ sizeLine; decide), fun U nU => ?_⟩
          have Sb := same_new (o := HO.tup [.ref t, .str due]) nU
          have hU : Hid p q0 r (upd Ha U (.tup [.ref t, .str due])) U = some (.tup [.ref t, .str due]) := hid_new Da nU
          generalize upd Ha U (.tup [.ref t, .str due]) = Hb at Sb hU ⊢
          have Db := Da.same Sb
          have hj2 : j < 2 := by
            have z := (List.getElem?_eq_some_iff.mp hx).1
            exact z
          refine ⟨r, _, _, rfl, rfl, Db.er, (by rw [sizeLine_eq]; omega), ?_⟩
          have K9 := hid_keep (p := p) (q := q0) (r := r) (Sa.trans Sb)
          have Ku := hid_upd (p := p) (q := q0) (r := r) (H := Hb) (o := .lst (es' ++ [.ref U]))
          refine ⟨_, _, _, es' ++ [.ref U], rfl, ⟨⟨by rw [upd_ne Db.rp.symm]; exact Db.d.ob, by rw [upd_ne Db.rq.symm]; exact Db.d.ce, Db.d.m0, Db.d.m1, Db.d.c0, Db.d.c1, Db.d.ln⟩, upd_same, Db.rp, Db.rq⟩, ?_, fun x hx => ?_, (S9.trans K9).trans Ku⟩
          · rw [List.length_append, hl9]
            rfl
          · rcases List.mem_append.mp hx with hx | hx
            · exact (ear9 x hx).same (K9.trans Ku)
            · rw [List.mem_singleton] at hx
              exact ⟨U, t, v, d, hx, by rw [hdue]; exact Ku _ _ hU, er9.same (K9.trans Ku), th8.same ((S9.trans K9).trans Ku), g⟩
      · rintro σ H9 ⟨y6, y7, y8, es', rfl, D9, hl9, ear9, S9⟩
        refine ⟨_, rfl, v, d, rfl, (th8.same S9).same hid_same, g, fun Ha Sa => ⟨true, rfl, if_f rfl ?_⟩⟩
        have Da := D9.same Sa
        have eara : ∀ x ∈ es', EarAt C (Hid p q0 r Ha) x := fun x hx => (ear9 x hx).same (hid_keep Sa)
        refine ⟨_, rfl, r, rfl, ⟨es', SqL.of Da.er⟩, fun L nL => lc_list (K := K) (a := r) (xs := es') (fun j Hx => Same Ha Hx ∧ Hx L = some (.lst [])) ⟨same_new nL, upd_same⟩ (fun j Hx _ ⟨Sx, _⟩ => SqL.of (Sx _ _ Da.er)) ?_ ?_⟩
        · rintro j x Hx hx ⟨Sx, hL⟩
          obtain ⟨U, t, v', d', rfl, hU, er', th', g'⟩ := eara x (List.mem_of_getElem? hx)
          refine ⟨U, _, rfl, SqT.of (Sx _ _ (hid_same _ _ hU)), rfl, _, _, rfl, _, _, rfl, rfl, rfl, ?_⟩
          refine ⟨_, rfl, t, v', rfl, (er'.same hid_same).same Sx, fun l Hy Sy nl hl => ⟨l, v', d', 10, rfl, hl, ((th'.same hid_same).same Sx).same Sy, g'.sh, g'.dp, g'.ln, by decide, _, rfl, rfl, _, rfl, ?_⟩⟩
          rw [decide_eq_true rfl]
          exact if_f rfl ⟨Sx.trans Sy, Sy _ _ hL⟩
        · rintro Hx ⟨Sx, hL⟩
          refine ⟨(by show 0 ≤ sizeLine; decide), fun l0 n0 => ?_⟩
          have Sy := same_new (o := HO.lst []) n0
          refine ne_bools (Q := _) (xs := []) (bs := []) rfl (Sy _ _ hL) upd_same ⟨_, rfl, if_f rfl ?_⟩
          have Sz := Sx.trans Sy
          refine ⟨_, _, _, _, _, _, es', ns1, 2 * (i : Int) + 2, rfl, Da.same Sz, by omega, ?_, fun x hx => (eara x hx).same (hid_keep Sz)⟩
          have hl2 : es'.length = es.length + 2 := hl9
          omega
    · rintro σ H2 ⟨x3, x4, x5, x6, x7, x8, es, ns, c, rfl, D2, _⟩
      refine ⟨(by show 3 ≤ sizeLine; decide), fun l1 n1 => ⟨(by show 3 ≤ sizeLine; decide), fun l2 n2 => ?_⟩⟩
      refine ⟨.list [.int 4000, .int 500, .int 2000], .list [.int 4000, .int 500, .int 2000], .lst (SqL.of (same_new n2 _ _ upd_same)) (.cons (.int _) (.cons (.int _) (.cons (.int _) .nil))), .lst (SqL.of upd_same) (.cons (.int _) (.cons (.int _) (.cons (.int _) .nil))), by decide +kernel, by decide +kernel, ?_⟩
      have ee : PyData.eqv (.list [.int 4000, .int 500, .int 2000]) (.list [.int 4000, .int 500, .int 2000]) = true := by decide +kernel
      rw [ee]
      exact q _
end
end K1
set_option maxRecDepth 100000
set_option maxHeartbeats 4000000
namespace U1
open PySem PySem.Calls PyProof.Rows
theorem init_mk {P : Program} {K : W.Frag} {C fI : Addr} {p : Str} {oc : Value} {od : Option Addr} {osl : Array (Option Value)} {qual : Str} {params : Arguments} {body : List Stmt} {scope : Scope} {dV kV doc pm : Value} {an : Option Addr} {cda cc : Addr} {ct ccl : Value} {cdd : Option Addr} {vs : Array Value} {ccs : Array (Option Value)}
    {file : Str} {tf : Tok} {cl : Value} {cld : Option Addr} {csl : Array (Option Value)} {ar : Arg} {ea : Expr} {p0 p1 p2 p3 p4 q1 q2 q3 q4 : Pos}
    (lf : K.lookup fI = some ⟨oc, od, .func (W.ksFn "__init__" qual params body scope dV kV doc pm an (.ref cda) ct cc), osl⟩) (lcd : W.codeIn K (.ref cda) qual = true)
    (lc : K.lookup cda = some ⟨ccl, cdd, .fields vs, ccs⟩) (lv : vs[2]? = some (.str file tf)) (lfile : (P.main.file == file) = true) (lcell : K.lookup cc = some ⟨cl, cld, .cell (some (.ref C)), csl⟩)
    (hbody : body = [.Expr (.Call (.Attribute (.Call (.Name "super" p0) [] [] p1) "__init__" p2) [ea] [] p3) p4, .Assign [.Attribute (.Name "self" q1) p q2] (.Name p q3) q4])
    (lar : (params.posonlyargs ++ params.args).head? = some ar) (lar2 : ar.arg = "self") (sk : scope.kind = .function) (sco : scope.isCoroutine = false) (sge : scope.isGenerator = false)
    (ssup : scope.names.lookup ("super" : Str) = some .globalImplicit) (scls : scope.names.lookup ("__class__" : Str) = some .free) (sself : scope.names.lookup ("self" : Str) = some .local) (sarg : scope.names.lookup p = some .local) (snc : ∀ x ∈ scope.names, x.2 ≠ .cell)
    (hpl : ∀ env : Env, ∃ pl : Sem Bool, eval (.Call (.Attribute (.Call (.Name "super" p0) [] [] p1) "__init__" p2) [ea] [] p3) env = (do
      let ov ← attributeBase (.Call (.Name "super" p0) [] [] p1) "__init__" env (eval (.Call (.Name "super" p0) [] [] p1) env)
      standAt p2.atName
      let (f, first) ← holding [ov] (getMethod ov "__init__" pl)
      callWith p3 f first (backTo p3 (starEach [ea] env)) []))
    (hea : (∃ txt j r, ea = .Constant (.str txt) j r) ∨ (p == ("__debug__" : Str)) = false ∧ ∃ r, ea = .Name p r) (hpd : (p == ("__debug__" : Str)) = false) (nself : ("self" == p) = false) (top : (P.main.scope.names.lookup ("super" : Str)).isSome = false)
    (hb1 : ∀ (s : Shared) (x v : Value), BindsTo s (W.ksFn "__init__" qual params body scope dV kV doc pm an (.ref cda) ct cc) ⟨[x, v], []⟩ [("self", x), (p, v)])
    (hb2 : ∀ (s : Shared) (x v : Value), BindsTo s (W.ksFn "__init__" qual params body scope dV kV doc pm an (.ref cda) ct cc) ⟨[x], [(p, v)]⟩ [("self", x), (p, v)]) : InitT P K C fI p :=
  ⟨nself, top, oc, od, osl, qual, params, body, scope, dV, kV, doc, pm, an, cda, cc, ct, ccl, cdd, vs, ccs, file, tf, cl, cld, csl, ar, ea, p0, p1, p2, p3, p4, q1, q2, q3, q4, lf, lcd, lc, lv, lfile, lcell, lar, lar2, sk, sco, sge, ssup, scls, sself, sarg, snc, hbody, hpl, hea, hpd, hb1, hb2⟩
end U1
namespace K1
open PySem PySem.Spec PyProof.Rows L2
theorem err_mk {P : Program} {K : PySem.W.Frag} {h : Heap} {mg : Str → Option Value} {S : Addr} {k : Nat} {x p : Str} {C fI : Addr} {nB newId i0 B initId : String} {b0 bmS : List Value}
    (hx : xAt k = x) (hp : fAt k = p) (X : K.In h) (G : h.Ns mainGlobals mg) (FN : ExcBaseFacts nB newId i0 b0) (IN : U1.InitF B initId) (KF : PySem.W.KxsFacts B initId) (SF : StoreFacts B bmS "object.__setattr__" "object")
    {nm q : Str} {N : Addr} {bs bm : List Value} {hd : Bool} {sn : List Str} {sub : List Value} {ab : Bool} {col : Option Bool} {dd : Option Addr} {m0 m1 m2 m3 m5 : Option Value}
    (aC : PySem.W.nsIn K mainGlobals x = some (some (.ref C))) (xL : K.lookup C = some (excClassObj nm q C N bs bm hd sn sub ab col dd m0 m1 m2 m3 m5 newId)) (hnm : nm = x) (hbm : bm = bmAt S k)
    (hB : bm.contains (.type nB) = true) (hA : bm.contains (.type "AttributeError") = false) (hN : bm.contains (.type "NameError") = false) (ho : PySem.W.excTail bmS bm = true)
    (hi : PySem.W.findIn K (.ref C) "__init__" = some (some (.ref fI))) (tI : PySem.W.typeIn K (.ref fI) = some (.type "function")) (sa : PySem.W.findIn K (.ref C) "__setattr__" = some (some (.builtin "object.__setattr__")))
    (tk : PySem.W.takerIn K C p = some none) (hdC : PySem.W.hasDictIn K C = true) (su : PySem.W.ks_superIn K C C "__init__" = some (some (.builtin initId))) (sB : PySem.W.subIn K (.ref C) (.type B) = some true) (sC : PySem.W.mroIn K C (.ref C) = some true)
    (op : PySem.W.nsIn K cStatics "thirdparty.any" = some none) (kp : PySem.W.keepIn K (.ref C) = true)
    (ga : PySem.W.findIn K (.ref C) "__getattribute__" = some (some (.builtin "BaseException.__getattribute__"))) (gg : PySem.W.findIn K (.ref C) "__getattr__" = some none) (ca : PySem.W.findIn K (.ref C) "__class__" = some (some (.builtin "object.__class__")))
    (nf : PySem.W.findIn K (.ref C) p = some none) (ty : PySem.W.typeIn K (.ref C) = some (.type "type")) (I : U1.InitT P K C fI p) : ErrX P K mg S k C := by
  have hcd : PySem.W.clsIn K C = some { name := nm, bases := bs, mro := .ref C :: bm, ns := N, qualname := q, hasDict := hd, slotNames := sn, subclasses := sub, abstract := ab, collection := col, hasDel := false } := by
    unfold PySem.W.clsIn
    rw [xL] <;> rfl
  have ov : PySem.W.excOver K C bmS = true := by
    unfold PySem.W.excOver
    rw [hcd]
    show (C == C && PySem.W.excTail bmS bm) = true
    rw [beq_self_eq_true, ho]
    rfl
  subst hx hp
  exact ⟨⟨nB, newId, i0, b0, B, initId, bmS, fI, ⟨FN, IN, KF, SF, ⟨nm, q, N, bs, bm, hd, sn, sub, ab, col, dd, m0, m1, m2, m3, m5, xL, hB, hA, hN⟩, hi, tI, sa, ov, tk, hdC, su, sB, sC, op⟩, I⟩,
    PySem.W.mg_of X G aC, kp, ga, gg, ca, nf, ty, ⟨_, hcd, hnm, by rw [← hbm]⟩⟩
theorem def_mk {K : PySem.W.Frag} {h : Heap} {mg : Str → Option Value} {x : Str} {st : Stmt} {ps : List Str} {f : Addr} {oc : Value} {od an : Option Addr} {osl : Array (Option Value)} {kV doc pm cdv ct : Value} (X : K.In h) (G : h.Ns mainGlobals mg)
    (a : PySem.W.nsIn K mainGlobals x = some (some (.ref f))) (l : K.lookup f = some ⟨oc, od, .func (PySem.W.fnOf x x (defArgs st) (defBody st) (defScope st) .none kV doc pm an cdv ct), osl⟩) (c : PySem.W.codeIn K cdv x = true) (k : PySem.W.keepIn K (.ref f) = true)
    (hb : ∀ (kV doc pm : Value) (an : Option Addr) (cdv ct : Value) (us : List Value), us.length = ps.length → bindArgs (PySem.W.fnOf x x (defArgs st) (defBody st) (defScope st) .none kV doc pm an cdv ct) ⟨us, []⟩ = pure (ps.zip us)) :
    DefOk K mg x st ps f (PySem.W.fnOf x x (defArgs st) (defBody st) (defScope st) .none kV doc pm an cdv ct) := ⟨fun_mk l c k, (fun_mk l c k).binds hb, PySem.W.mg_of X G a⟩
theorem k12 {Q : Nat → Prop} (h0 : Q 0) (h1 : Q 1) (h2 : Q 2) (h3 : Q 3) (h4 : Q 4) (h5 : Q 5) (h6 : Q 6) (h7 : Q 7) (h8 : Q 8) (h9 : Q 9) (h10 : Q 10) (h11 : Q 11) : ∀ k, k < 12 → Q k := fun k hk => by
  match k, hk with
  | 0, _ => exact h0
  | 1, _ => exact h1
  | 2, _ => exact h2
  | 3, _ => exact h3
  | 4, _ => exact h4
  | 5, _ => exact h5
  | 6, _ => exact h6
  | 7, _ => exact h7
  | 8, _ => exact h8
  | 9, _ => exact h9
  | 10, _ => exact h10
  | 11, _ => exact h11
  | k + 12, hk => exact absurd hk (by omega)
theorem all_mk {l : PySem.W.OpenLaw} {w : World} {K : PySem.W.Frag} {h : Heap} {mg : Str → Option Value} {fa S C0 C1 C2 C3 C4 C5 C6 C7 C8 C9 C10 C11 f1 f2 f3 f4 f5 f6 f7 f8 f9 f10 f11 f12 f13 f14 : Addr} {d1 d2 d3 d4 d5 d6 d7 d8 d9 d10 d11 d12 d13 d14 : FuncData} {u0 u1 u2 : Tok} (X : K.In h) (G : h.Ns mainGlobals mg) (hfa : mg "law" = some (.ref fa))
    (aS : PySem.W.nsIn K mainGlobals "SamplerError" = some (some (.ref S))) {nm q : Str} {N : Addr} {bs bm : List Value} {hd : Bool} {sn : List Str} {sub : List Value} {ab : Bool} {col : Option Bool} {dd : Option Addr} {m0 m1 m2 m3 m5 : Option Value} {newId : String}
    (xS : K.lookup S = some (excClassObj nm q S N bs bm hd sn sub ab col dd m0 m1 m2 m3 m5 newId)) (hnS : nm = "SamplerError") (tS : PySem.W.typeIn K (.ref S) = some (.type "type")) (sS : PySem.W.subIn K (.ref S) (.type "BaseException") = some true)
    (e0 : ErrX l.prog K mg S 0 C0) (e1 : ErrX l.prog K mg S 1 C1) (e2 : ErrX l.prog K mg S 2 C2) (e3 : ErrX l.prog K mg S 3 C3) (e4 : ErrX l.prog K mg S 4 C4) (e5 : ErrX l.prog K mg S 5 C5) (e6 : ErrX l.prog K mg S 6 C6) (e7 : ErrX l.prog K mg S 7 C7) (e8 : ErrX l.prog K mg S 8 C8) (e9 : ErrX l.prog K mg S 9 C9) (e10 : ErrX l.prog K mg S 10 C10) (e11 : ErrX l.prog K mg S 11 C11)
    (cg : PySem.W.specialIn K (.builtin "object.__class__") "__get__" = some (some (.builtin "getset_descriptor.__get__"))) (ct : PySem.W.takesIn K (.builtin "object.__class__") = some true)
    (z0 : PySem.W.nsIn K mainGlobals "list" = some none) (z1 : PySem.W.nsIn K mainGlobals "len" = some none) (z2 : PySem.W.nsIn K mainGlobals "repr" = some none) (z3 : PySem.W.nsIn K mainGlobals "range" = some none) (z4 : PySem.W.nsIn K mainGlobals "enumerate" = some none) (z5 : PySem.W.nsIn K mainGlobals "isinstance" = some none) (z6 : PySem.W.nsIn K mainGlobals "super" = some none)
    (b0 : PySem.W.nsIn K mainGlobals "ValueError" = some none) (b1 : PySem.W.nsIn K mainGlobals "LookupError" = some none) (b2 : PySem.W.nsIn K mainGlobals "IndexError" = some none) (b3 : PySem.W.nsIn K mainGlobals "KeyError" = some none)
    (y0 : PySem.W.nsIn K mainGlobals "DIGITS" = some (some (.int 4000 u0))) (y1 : PySem.W.nsIn K mainGlobals "LIMIT" = some (some (.int 500 u1))) (y2 : PySem.W.nsIn K mainGlobals "LEAVES" = some (some (.int 2000 u2)))
    (o1 : DefOk K mg "_law_deck" sDeck ["_law_script"] f1 d1) (o2 : DefOk K mg "_law_value" sValue ["_law_deck_here"] f2 d2) (o3 : DefOk K mg "_law_classes" sClasses ["_law_e"] f3 d3) (o4 : DefOk K mg "_law_bases" sBases ["_law_e"] f4 d4) (o5 : DefOk K mg "_law_by_position" sByPos ["_law_thing"] f5 d5) (o6 : DefOk K mg "_law_by_name" sByName ["_law_thing"] f6 d6) (o7 : DefOk K mg "_law_attributes" sAttrs ["_law_errors"] f7 d7) (o8 : DefOk K mg "_law_caught_right" sRight ["_law_thing"] f8 d8) (o9 : DefOk K mg "_law_bases_due" sDue ["_law_k"] f9 d9) (o10 : DefOk K mg "_law_draw" sDraw ["_law_deck_here", "_law_many"] f10 d10) (o11 : DefOk K mg "_law_pick" sPick ["_law_deck_here", "_law_items"] f11 d11) (o12 : DefOk K mg "_law_raised" sRaised ["_law_turn", "_law_thing"] f12 d12) (o13 : DefOk K mg "_law_caught" sCaught ["_law_turn", "_law_thing"] f13 d13) (o14 : DefOk K mg "law" sLaw ["_law_script"] f14 d14) (hbind : ∀ (s : Shared) (u : Value), BindsTo s d14 ⟨[u], []⟩ [("_law_script", u)]) :
    ∃ fd : FuncData, (∀ (s : Shared) (u : Value), BindsTo s fd ⟨[u], []⟩ [("_law_script", u)]) ∧ ∀ base : Heap, K.In base → base.Ns mainGlobals mg → FnG l.prog w K mg base 4 fa fd ["_law_script"] (spLaw K) := by
  have e := hfa.symm.trans o14.g
  cases e
  have cS : ∃ cd, PySem.W.clsIn K S = some cd ∧ cd.name = "SamplerError" := by
    refine ⟨{ name := nm, bases := bs, mro := .ref S :: bm, ns := N, qualname := q, hasDict := hd, slotNames := sn, subclasses := sub, abstract := ab, collection := col, hasDel := false }, ?_, hnS⟩
    unfold PySem.W.clsIn
    rw [xS] <;> rfl
  have nm : Nm mg := ⟨PySem.W.mg_none_of X G z0, PySem.W.mg_none_of X G z1, PySem.W.mg_none_of X G z2, PySem.W.mg_none_of X G z3, PySem.W.mg_none_of X G z4, PySem.W.mg_none_of X G z5, PySem.W.mg_none_of X G z6⟩
  have T : Kit l.prog K mg S (fun k => [C0, C1, C2, C3, C4, C5, C6, C7, C8, C9, C10, C11].getD k 0) := ⟨nm, k12 e0 e1 e2 e3 e4 e5 e6 e7 e8 e9 e10 e11, cg, ct, PySem.W.mg_of X G aS, tS, cS, sS, PySem.W.mg_none_of X G b0, PySem.W.mg_none_of X G b1, PySem.W.mg_none_of X G b2, PySem.W.mg_none_of X G b3⟩
  have Z : Cst mg := ⟨⟨_, PySem.W.mg_of X G y0⟩, ⟨_, PySem.W.mg_of X G y1⟩, ⟨_, PySem.W.mg_of X G y2⟩⟩
  have GC : ∀ base : Heap, FnG l.prog w K mg base 2 f13 d13 ["_law_turn", "_law_thing"] spCaught := fun base => ok_caught o13.F T o12.F o12.b o12.g
  let D : Defs l.prog w K mg (fun k => [C0, C1, C2, C3, C4, C5, C6, C7, C8, C9, C10, C11].getD k 0) := ⟨f1, f2, f3, f4, f5, f6, f7, f8, f9, d1, d2, d3, d4, d5, d6, d7, d8, d9, o1, o2, o3, o4, o5, o6, o7, o8, o9,
    fun base => ok_value o2.F nm o10.F o10.b o10.g o11.F o11.b o11.g, fun base => ok_right o8.F nm GC o13.F.kp o13.b o13.g⟩
  exact ⟨d14, hbind, fun base _ _ => ok_law o14.F T Z D⟩
theorem law_sp (K : PySem.W.Frag) (H : Hp) (a : Addr) (ns : List Int) (hl : ns.length ≤ 63) (_ : Only H) (hS : SqL K H a (ns.map V.int)) : spLaw K [.ref a] H (fun v _ => v = .bl true) fun _ _ _ => False := ⟨a, ns, rfl, hS, hl, fun _ => rfl⟩
end K1
open PySem PySem.W PyProof.Rows
set_option maxRecDepth 100000 in
set_option maxHeartbeats 0 in
theorem PySem.Challenge.cw_undrawn_k01_errors_made_by_hand_holds : PySem.Challenge.rw_undrawn_k01_errors_made_by_hand.Holds := by
  w_on; o_law; k_head; (case hw => w_witness2)
  k_fill
  refine L2.walk_G (l := PySem.Challenge.rw_undrawn_k01_errors_made_by_hand) (n := 63) (k := 4) (x := "_law_script") (sp := K1.spLaw) rfl (by decide) rfl ⟨rfl, by decide, by decide⟩ (fun w h Y => PySem.W.kIn_of Y) ?F K1.law_sp
  case F =>
    intro w mg fa h KX G hmg
    refine' K1.all_mk KX G hmg ?aS ?xS ?hnS ?tS ?sS ?e0 ?e1 ?e2 ?e3 ?e4 ?e5 ?e6 ?e7 ?e8 ?e9 ?e10 ?e11 ?cg ?ct ?z0 ?z1 ?z2 ?z3 ?z4 ?z5 ?z6 ?b0 ?b1 ?b2 ?b3 ?y0 ?y1 ?y2 ?o1 ?o2 ?o3 ?o4 ?o5 ?o6 ?o7 ?o8 ?o9 ?o10 ?o11 ?o12 ?o13 ?o14 ?hbind
    (case aS => k_is); (case xS => k_is); (case hnS => rfl); (case tS => k_is); (case sS => k_is)
    case e0 =>
      refine' K1.err_mk (k := 0) rfl rfl KX G PySem.F.excBase_ValueError U1.initF_ValueError PySem.W.kxs_ValueError PySem.F.store_ValueError ?aC ?xL ?hnm ?hbm ?hB ?hA ?hN ?ho ?hi ?tI ?sa ?tk ?hdC ?su ?sB ?sC ?op ?kp ?ga ?gg ?ca ?nf ?ty ?I
      (case aC => k_is); (case xL => k_is); (case hnm => rfl); (case hbm => rfl); (case hB => rfl); (case hA => rfl); (case hN => rfl); (case ho => rfl)
      (case hi => k_is); (case tI => k_is); (case sa => k_is); (case tk => k_is); (case hdC => k_is); (case su => ks_is); (case sB => k_is); (case sC => k_is); (case op => k_is); (case kp => k_is)
      (case ga => k_is); (case gg => k_is); (case ca => k_is); (case nf => k_is); (case ty => k_is)
      case I =>
        refine' U1.init_mk ?lf ?lcd ?lc ?lv ?lfile ?lcell ?hbody ?lar ?lar2 ?sk ?sco ?sge ?ssup ?scls ?sself ?sarg ?snc ?hpl ?hea ?hpd ?nself ?top ?hb1 ?hb2
        (case lf => k_is); (case lcd => k_is); (case lc => k_is); (case lv => rfl); (case lfile => decide +kernel); (case lcell => k_is); (case hbody => rfl)
        (case lar => rfl); (case lar2 => rfl); (case sk => rfl); (case sco => rfl); (case sge => rfl); (case ssup => rfl); (case scls => rfl); (case sself => rfl); (case sarg => rfl); (case snc => decide +kernel)
        (case hpl => exact fun env => ⟨_, rfl⟩); (case hea => exact .inl ⟨_, _, _, rfl⟩); (case hpd => decide); (case nself => decide); (case top => decide +kernel)
        (case hb1 => exact fun s x v => .of_eq rfl); (case hb2 => exact fun s x v => .of_eq rfl)
    case e1 =>
      refine' K1.err_mk (k := 1) rfl rfl KX G PySem.F.excBase_ValueError U1.initF_ValueError PySem.W.kxs_ValueError PySem.F.store_ValueError ?aC ?xL ?hnm ?hbm ?hB ?hA ?hN ?ho ?hi ?tI ?sa ?tk ?hdC ?su ?sB ?sC ?op ?kp ?ga ?gg ?ca ?nf ?ty ?I
      (case aC => k_is); (case xL => k_is); (case hnm => rfl); (case hbm => rfl); (case hB => rfl); (case hA => rfl); (case hN => rfl); (case ho => rfl)
      (case hi => k_is); (case tI => k_is); (case sa => k_is); (case tk => k_is); (case hdC => k_is); (case su => ks_is); (case sB => k_is); (case sC => k_is); (case op => k_is); (case kp => k_is)
      (case ga => k_is); (case gg => k_is); (case ca => k_is); (case nf => k_is); (case ty => k_is)
      case I =>
        refine' U1.init_mk ?lf ?lcd ?lc ?lv ?lfile ?lcell ?hbody ?lar ?lar2 ?sk ?sco ?sge ?ssup ?scls ?sself ?sarg ?snc ?hpl ?hea ?hpd ?nself ?top ?hb1 ?hb2
        (case lf => k_is); (case lcd => k_is); (case lc => k_is); (case lv => rfl); (case lfile => decide +kernel); (case lcell => k_is); (case hbody => rfl)
        (case lar => rfl); (case lar2 => rfl); (case sk => rfl); (case sco => rfl); (case sge => rfl); (case ssup => rfl); (case scls => rfl); (case sself => rfl); (case sarg => rfl); (case snc => decide +kernel)
        (case hpl => exact fun env => ⟨_, rfl⟩); (case hea => exact .inl ⟨_, _, _, rfl⟩); (case hpd => decide); (case nself => decide); (case top => decide +kernel)
        (case hb1 => exact fun s x v => .of_eq rfl); (case hb2 => exact fun s x v => .of_eq rfl)
    case e2 =>
      refine' K1.err_mk (k := 2) rfl rfl KX G PySem.F.excBase_ValueError U1.initF_ValueError PySem.W.kxs_ValueError PySem.F.store_ValueError ?aC ?xL ?hnm ?hbm ?hB ?hA ?hN ?ho ?hi ?tI ?sa ?tk ?hdC ?su ?sB ?sC ?op ?kp ?ga ?gg ?ca ?nf ?ty ?I
      (case aC => k_is); (case xL => k_is); (case hnm => rfl); (case hbm => rfl); (case hB => rfl); (case hA => rfl); (case hN => rfl); (case ho => rfl)
      (case hi => k_is); (case tI => k_is); (case sa => k_is); (case tk => k_is); (case hdC => k_is); (case su => ks_is); (case sB => k_is); (case sC => k_is); (case op => k_is); (case kp => k_is)
      (case ga => k_is); (case gg => k_is); (case ca => k_is); (case nf => k_is); (case ty => k_is)
      case I =>
        refine' U1.init_mk ?lf ?lcd ?lc ?lv ?lfile ?lcell ?hbody ?lar ?lar2 ?sk ?sco ?sge ?ssup ?scls ?sself ?sarg ?snc ?hpl ?hea ?hpd ?nself ?top ?hb1 ?hb2
        (case lf => k_is); (case lcd => k_is); (case lc => k_is); (case lv => rfl); (case lfile => decide +kernel); (case lcell => k_is); (case hbody => rfl)
        (case lar => rfl); (case lar2 => rfl); (case sk => rfl); (case sco => rfl); (case sge => rfl); (case ssup => rfl); (case scls => rfl); (case sself => rfl); (case sarg => rfl); (case snc => decide +kernel)
        (case hpl => exact fun env => ⟨_, rfl⟩); (case hea => exact .inl ⟨_, _, _, rfl⟩); (case hpd => decide); (case nself => decide); (case top => decide +kernel)
        (case hb1 => exact fun s x v => .of_eq rfl); (case hb2 => exact fun s x v => .of_eq rfl)
    case e3 =>
      refine' K1.err_mk (k := 3) rfl rfl KX G PySem.F.excBase_ValueError U1.initF_ValueError PySem.W.kxs_ValueError PySem.F.store_ValueError ?aC ?xL ?hnm ?hbm ?hB ?hA ?hN ?ho ?hi ?tI ?sa ?tk ?hdC ?su ?sB ?sC ?op ?kp ?ga ?gg ?ca ?nf ?ty ?I
      (case aC => k_is); (case xL => k_is); (case hnm => rfl); (case hbm => rfl); (case hB => rfl); (case hA => rfl); (case hN => rfl); (case ho => rfl)
      (case hi => k_is); (case tI => k_is); (case sa => k_is); (case tk => k_is); (case hdC => k_is); (case su => ks_is); (case sB => k_is); (case sC => k_is); (case op => k_is); (case kp => k_is)
      (case ga => k_is); (case gg => k_is); (case ca => k_is); (case nf => k_is); (case ty => k_is)
      case I =>
        refine' U1.init_mk ?lf ?lcd ?lc ?lv ?lfile ?lcell ?hbody ?lar ?lar2 ?sk ?sco ?sge ?ssup ?scls ?sself ?sarg ?snc ?hpl ?hea ?hpd ?nself ?top ?hb1 ?hb2
        (case lf => k_is); (case lcd => k_is); (case lc => k_is); (case lv => rfl); (case lfile => decide +kernel); (case lcell => k_is); (case hbody => rfl)
        (case lar => rfl); (case lar2 => rfl); (case sk => rfl); (case sco => rfl); (case sge => rfl); (case ssup => rfl); (case scls => rfl); (case sself => rfl); (case sarg => rfl); (case snc => decide +kernel)
        (case hpl => exact fun env => ⟨_, rfl⟩); (case hea => exact .inl ⟨_, _, _, rfl⟩); (case hpd => decide); (case nself => decide); (case top => decide +kernel)
        (case hb1 => exact fun s x v => .of_eq rfl); (case hb2 => exact fun s x v => .of_eq rfl)
    case e4 =>
      refine' K1.err_mk (k := 4) rfl rfl KX G PySem.F.excBase_ValueError U1.initF_ValueError PySem.W.kxs_ValueError PySem.F.store_ValueError ?aC ?xL ?hnm ?hbm ?hB ?hA ?hN ?ho ?hi ?tI ?sa ?tk ?hdC ?su ?sB ?sC ?op ?kp ?ga ?gg ?ca ?nf ?ty ?I
      (case aC => k_is); (case xL => k_is); (case hnm => rfl); (case hbm => rfl); (case hB => rfl); (case hA => rfl); (case hN => rfl); (case ho => rfl)
      (case hi => k_is); (case tI => k_is); (case sa => k_is); (case tk => k_is); (case hdC => k_is); (case su => ks_is); (case sB => k_is); (case sC => k_is); (case op => k_is); (case kp => k_is)
      (case ga => k_is); (case gg => k_is); (case ca => k_is); (case nf => k_is); (case ty => k_is)
      case I =>
        refine' U1.init_mk ?lf ?lcd ?lc ?lv ?lfile ?lcell ?hbody ?lar ?lar2 ?sk ?sco ?sge ?ssup ?scls ?sself ?sarg ?snc ?hpl ?hea ?hpd ?nself ?top ?hb1 ?hb2
        (case lf => k_is); (case lcd => k_is); (case lc => k_is); (case lv => rfl); (case lfile => decide +kernel); (case lcell => k_is); (case hbody => rfl)
        (case lar => rfl); (case lar2 => rfl); (case sk => rfl); (case sco => rfl); (case sge => rfl); (case ssup => rfl); (case scls => rfl); (case sself => rfl); (case sarg => rfl); (case snc => decide +kernel)
        (case hpl => exact fun env => ⟨_, rfl⟩); (case hea => exact .inl ⟨_, _, _, rfl⟩); (case hpd => decide); (case nself => decide); (case top => decide +kernel)
        (case hb1 => exact fun s x v => .of_eq rfl); (case hb2 => exact fun s x v => .of_eq rfl)
    case e5 =>
      refine' K1.err_mk (k := 5) rfl rfl KX G PySem.F.excBase_ValueError U1.initF_ValueError PySem.W.kxs_ValueError PySem.F.store_ValueError ?aC ?xL ?hnm ?hbm ?hB ?hA ?hN ?ho ?hi ?tI ?sa ?tk ?hdC ?su ?sB ?sC ?op ?kp ?ga ?gg ?ca ?nf ?ty ?I
      (case aC => k_is); (case xL => k_is); (case hnm => rfl); (case hbm => rfl); (case hB => rfl); (case hA => rfl); (case hN => rfl); (case ho => rfl)
      (case hi => k_is); (case tI => k_is); (case sa => k_is); (case tk => k_is); (case hdC => k_is); (case su => ks_is); (case sB => k_is); (case sC => k_is); (case op => k_is); (case kp => k_is)
      (case ga => k_is); (case gg => k_is); (case ca => k_is); (case nf => k_is); (case ty => k_is)
      case I =>
        refine' U1.init_mk ?lf ?lcd ?lc ?lv ?lfile ?lcell ?hbody ?lar ?lar2 ?sk ?sco ?sge ?ssup ?scls ?sself ?sarg ?snc ?hpl ?hea ?hpd ?nself ?top ?hb1 ?hb2
        (case lf => k_is); (case lcd => k_is); (case lc => k_is); (case lv => rfl); (case lfile => decide +kernel); (case lcell => k_is); (case hbody => rfl)
        (case lar => rfl); (case lar2 => rfl); (case sk => rfl); (case sco => rfl); (case sge => rfl); (case ssup => rfl); (case scls => rfl); (case sself => rfl); (case sarg => rfl); (case snc => decide +kernel)
        (case hpl => exact fun env => ⟨_, rfl⟩); (case hea => exact .inl ⟨_, _, _, rfl⟩); (case hpd => decide); (case nself => decide); (case top => decide +kernel)
        (case hb1 => exact fun s x v => .of_eq rfl); (case hb2 => exact fun s x v => .of_eq rfl)
    case e6 =>
      refine' K1.err_mk (k := 6) rfl rfl KX G PySem.F.excBase_ValueError U1.initF_ValueError PySem.W.kxs_ValueError PySem.F.store_ValueError ?aC ?xL ?hnm ?hbm ?hB ?hA ?hN ?ho ?hi ?tI ?sa ?tk ?hdC ?su ?sB ?sC ?op ?kp ?ga ?gg ?ca ?nf ?ty ?I
      (case aC => k_is); (case xL => k_is); (case hnm => rfl); (case hbm => rfl); (case hB => rfl); (case hA => rfl); (case hN => rfl); (case ho => rfl)
      (case hi => k_is); (case tI => k_is); (case sa => k_is); (case tk => k_is); (case hdC => k_is); (case su => ks_is); (case sB => k_is); (case sC => k_is); (case op => k_is); (case kp => k_is)
      (case ga => k_is); (case gg => k_is); (case ca => k_is); (case nf => k_is); (case ty => k_is)
      case I =>
        refine' U1.init_mk ?lf ?lcd ?lc ?lv ?lfile ?lcell ?hbody ?lar ?lar2 ?sk ?sco ?sge ?ssup ?scls ?sself ?sarg ?snc ?hpl ?hea ?hpd ?nself ?top ?hb1 ?hb2
        (case lf => k_is); (case lcd => k_is); (case lc => k_is); (case lv => rfl); (case lfile => decide +kernel); (case lcell => k_is); (case hbody => rfl)
        (case lar => rfl); (case lar2 => rfl); (case sk => rfl); (case sco => rfl); (case sge => rfl); (case ssup => rfl); (case scls => rfl); (case sself => rfl); (case sarg => rfl); (case snc => decide +kernel)
        (case hpl => exact fun env => ⟨_, rfl⟩); (case hea => exact .inl ⟨_, _, _, rfl⟩); (case hpd => decide); (case nself => decide); (case top => decide +kernel)
        (case hb1 => exact fun s x v => .of_eq rfl); (case hb2 => exact fun s x v => .of_eq rfl)
    case e7 =>
      refine' K1.err_mk (k := 7) rfl rfl KX G PySem.F.excBase_ValueError U1.initF_ValueError PySem.W.kxs_ValueError PySem.F.store_ValueError ?aC ?xL ?hnm ?hbm ?hB ?hA ?hN ?ho ?hi ?tI ?sa ?tk ?hdC ?su ?sB ?sC ?op ?kp ?ga ?gg ?ca ?nf ?ty ?I
      (case aC => k_is); (case xL => k_is); (case hnm => rfl); (case hbm => rfl); (case hB => rfl); (case hA => rfl); (case hN => rfl); (case ho => rfl)
      (case hi => k_is); (case tI => k_is); (case sa => k_is); (case tk => k_is); (case hdC => k_is); (case su => ks_is); (case sB => k_is); (case sC => k_is); (case op => k_is); (case kp => k_is)
      (case ga => k_is); (case gg => k_is); (case ca => k_is); (case nf => k_is); (case ty => k_is)
      case I =>
        refine' U1.init_mk ?lf ?lcd ?lc ?lv ?lfile ?lcell ?hbody ?lar ?lar2 ?sk ?sco ?sge ?ssup ?scls ?sself ?sarg ?snc ?hpl ?hea ?hpd ?nself ?top ?hb1 ?hb2
        (case lf => k_is); (case lcd => k_is); (case lc => k_is); (case lv => rfl); (case lfile => decide +kernel); (case lcell => k_is); (case hbody => rfl)
        (case lar => rfl); (case lar2 => rfl); (case sk => rfl); (case sco => rfl); (case sge => rfl); (case ssup => rfl); (case scls => rfl); (case sself => rfl); (case sarg => rfl); (case snc => decide +kernel)
        (case hpl => exact fun env => ⟨_, rfl⟩); (case hea => exact .inl ⟨_, _, _, rfl⟩); (case hpd => decide); (case nself => decide); (case top => decide +kernel)
        (case hb1 => exact fun s x v => .of_eq rfl); (case hb2 => exact fun s x v => .of_eq rfl)
    case e8 =>
      refine' K1.err_mk (k := 8) rfl rfl KX G PySem.F.excBase_ValueError U1.initF_ValueError PySem.W.kxs_ValueError PySem.F.store_ValueError ?aC ?xL ?hnm ?hbm ?hB ?hA ?hN ?ho ?hi ?tI ?sa ?tk ?hdC ?su ?sB ?sC ?op ?kp ?ga ?gg ?ca ?nf ?ty ?I
      (case aC => k_is); (case xL => k_is); (case hnm => rfl); (case hbm => rfl); (case hB => rfl); (case hA => rfl); (case hN => rfl); (case ho => rfl)
      (case hi => k_is); (case tI => k_is); (case sa => k_is); (case tk => k_is); (case hdC => k_is); (case su => ks_is); (case sB => k_is); (case sC => k_is); (case op => k_is); (case kp => k_is)
      (case ga => k_is); (case gg => k_is); (case ca => k_is); (case nf => k_is); (case ty => k_is)
      case I =>
        refine' U1.init_mk ?lf ?lcd ?lc ?lv ?lfile ?lcell ?hbody ?lar ?lar2 ?sk ?sco ?sge ?ssup ?scls ?sself ?sarg ?snc ?hpl ?hea ?hpd ?nself ?top ?hb1 ?hb2
        (case lf => k_is); (case lcd => k_is); (case lc => k_is); (case lv => rfl); (case lfile => decide +kernel); (case lcell => k_is); (case hbody => rfl)
        (case lar => rfl); (case lar2 => rfl); (case sk => rfl); (case sco => rfl); (case sge => rfl); (case ssup => rfl); (case scls => rfl); (case sself => rfl); (case sarg => rfl); (case snc => decide +kernel)
        (case hpl => exact fun env => ⟨_, rfl⟩); (case hea => exact .inl ⟨_, _, _, rfl⟩); (case hpd => decide); (case nself => decide); (case top => decide +kernel)
        (case hb1 => exact fun s x v => .of_eq rfl); (case hb2 => exact fun s x v => .of_eq rfl)
    case e9 =>
      refine' K1.err_mk (k := 9) rfl rfl KX G PySem.F.excBase_ValueError U1.initF_ValueError PySem.W.kxs_ValueError PySem.F.store_ValueError ?aC ?xL ?hnm ?hbm ?hB ?hA ?hN ?ho ?hi ?tI ?sa ?tk ?hdC ?su ?sB ?sC ?op ?kp ?ga ?gg ?ca ?nf ?ty ?I
      (case aC => k_is); (case xL => k_is); (case hnm => rfl); (case hbm => rfl); (case hB => rfl); (case hA => rfl); (case hN => rfl); (case ho => rfl)
      (case hi => k_is); (case tI => k_is); (case sa => k_is); (case tk => k_is); (case hdC => k_is); (case su => ks_is); (case sB => k_is); (case sC => k_is); (case op => k_is); (case kp => k_is)
      (case ga => k_is); (case gg => k_is); (case ca => k_is); (case nf => k_is); (case ty => k_is)
      case I =>
        refine' U1.init_mk ?lf ?lcd ?lc ?lv ?lfile ?lcell ?hbody ?lar ?lar2 ?sk ?sco ?sge ?ssup ?scls ?sself ?sarg ?snc ?hpl ?hea ?hpd ?nself ?top ?hb1 ?hb2
        (case lf => k_is); (case lcd => k_is); (case lc => k_is); (case lv => rfl); (case lfile => decide +kernel); (case lcell => k_is); (case hbody => rfl)
        (case lar => rfl); (case lar2 => rfl); (case sk => rfl); (case sco => rfl); (case sge => rfl); (case ssup => rfl); (case scls => rfl); (case sself => rfl); (case sarg => rfl); (case snc => decide +kernel)
        (case hpl => exact fun env => ⟨_, rfl⟩); (case hea => exact .inr ⟨by decide, _, rfl⟩); (case hpd => decide); (case nself => decide); (case top => decide +kernel)
        (case hb1 => exact fun s x v => .of_eq rfl); (case hb2 => exact fun s x v => .of_eq rfl)
    case e10 =>
      refine' K1.err_mk (k := 10) rfl rfl KX G PySem.F.excBase_IndexError U1.initF_IndexError PySem.W.kxs_IndexError PySem.F.store_IndexError ?aC ?xL ?hnm ?hbm ?hB ?hA ?hN ?ho ?hi ?tI ?sa ?tk ?hdC ?su ?sB ?sC ?op ?kp ?ga ?gg ?ca ?nf ?ty ?I
      (case aC => k_is); (case xL => k_is); (case hnm => rfl); (case hbm => rfl); (case hB => rfl); (case hA => rfl); (case hN => rfl); (case ho => rfl)
      (case hi => k_is); (case tI => k_is); (case sa => k_is); (case tk => k_is); (case hdC => k_is); (case su => ks_is); (case sB => k_is); (case sC => k_is); (case op => k_is); (case kp => k_is)
      (case ga => k_is); (case gg => k_is); (case ca => k_is); (case nf => k_is); (case ty => k_is)
      case I =>
        refine' U1.init_mk ?lf ?lcd ?lc ?lv ?lfile ?lcell ?hbody ?lar ?lar2 ?sk ?sco ?sge ?ssup ?scls ?sself ?sarg ?snc ?hpl ?hea ?hpd ?nself ?top ?hb1 ?hb2
        (case lf => k_is); (case lcd => k_is); (case lc => k_is); (case lv => rfl); (case lfile => decide +kernel); (case lcell => k_is); (case hbody => rfl)
        (case lar => rfl); (case lar2 => rfl); (case sk => rfl); (case sco => rfl); (case sge => rfl); (case ssup => rfl); (case scls => rfl); (case sself => rfl); (case sarg => rfl); (case snc => decide +kernel)
        (case hpl => exact fun env => ⟨_, rfl⟩); (case hea => exact .inl ⟨_, _, _, rfl⟩); (case hpd => decide); (case nself => decide); (case top => decide +kernel)
        (case hb1 => exact fun s x v => .of_eq rfl); (case hb2 => exact fun s x v => .of_eq rfl)
    case e11 =>
      refine' K1.err_mk (k := 11) rfl rfl KX G PySem.F.excBase_LookupError U1.initF_KeyError PySem.W.u1_kxs_KeyError PySem.F.u1_store_KeyError ?aC ?xL ?hnm ?hbm ?hB ?hA ?hN ?ho ?hi ?tI ?sa ?tk ?hdC ?su ?sB ?sC ?op ?kp ?ga ?gg ?ca ?nf ?ty ?I
      (case aC => k_is); (case xL => k_is); (case hnm => rfl); (case hbm => rfl); (case hB => rfl); (case hA => rfl); (case hN => rfl); (case ho => rfl)
      (case hi => k_is); (case tI => k_is); (case sa => k_is); (case tk => k_is); (case hdC => k_is); (case su => ks_is); (case sB => k_is); (case sC => k_is); (case op => k_is); (case kp => k_is)
      (case ga => k_is); (case gg => k_is); (case ca => k_is); (case nf => k_is); (case ty => k_is)
      case I =>
        refine' U1.init_mk ?lf ?lcd ?lc ?lv ?lfile ?lcell ?hbody ?lar ?lar2 ?sk ?sco ?sge ?ssup ?scls ?sself ?sarg ?snc ?hpl ?hea ?hpd ?nself ?top ?hb1 ?hb2
        (case lf => k_is); (case lcd => k_is); (case lc => k_is); (case lv => rfl); (case lfile => decide +kernel); (case lcell => k_is); (case hbody => rfl)
        (case lar => rfl); (case lar2 => rfl); (case sk => rfl); (case sco => rfl); (case sge => rfl); (case ssup => rfl); (case scls => rfl); (case sself => rfl); (case sarg => rfl); (case snc => decide +kernel)
        (case hpl => exact fun env => ⟨_, rfl⟩); (case hea => exact .inl ⟨_, _, _, rfl⟩); (case hpd => decide); (case nself => decide); (case top => decide +kernel)
        (case hb1 => exact fun s x v => .of_eq rfl); (case hb2 => exact fun s x v => .of_eq rfl)
    (case cg => k_is); (case ct => k_is)
    (case z0 => k_is); (case z1 => k_is); (case z2 => k_is); (case z3 => k_is); (case z4 => k_is); (case z5 => k_is); (case z6 => k_is)
    (case b0 => k_is); (case b1 => k_is); (case b2 => k_is); (case b3 => k_is)
    (case y0 => k_is); (case y1 => k_is); (case y2 => k_is)
    (case o1 => refine' K1.def_mk KX G ?a ?l ?c ?k (fun _ _ _ _ _ _ us hl => match us, hl with | [_], _ => rfl); (case a => k_is); (case l => k_is); (case c => k_is); (case k => k_is))
    (case o2 => refine' K1.def_mk KX G ?a ?l ?c ?k (fun _ _ _ _ _ _ us hl => match us, hl with | [_], _ => rfl); (case a => k_is); (case l => k_is); (case c => k_is); (case k => k_is))
    (case o3 => refine' K1.def_mk KX G ?a ?l ?c ?k (fun _ _ _ _ _ _ us hl => match us, hl with | [_], _ => rfl); (case a => k_is); (case l => k_is); (case c => k_is); (case k => k_is))
    (case o4 => refine' K1.def_mk KX G ?a ?l ?c ?k (fun _ _ _ _ _ _ us hl => match us, hl with | [_], _ => rfl); (case a => k_is); (case l => k_is); (case c => k_is); (case k => k_is))
    (case o5 => refine' K1.def_mk KX G ?a ?l ?c ?k (fun _ _ _ _ _ _ us hl => match us, hl with | [_], _ => rfl); (case a => k_is); (case l => k_is); (case c => k_is); (case k => k_is))
    (case o6 => refine' K1.def_mk KX G ?a ?l ?c ?k (fun _ _ _ _ _ _ us hl => match us, hl with | [_], _ => rfl); (case a => k_is); (case l => k_is); (case c => k_is); (case k => k_is))
    (case o7 => refine' K1.def_mk KX G ?a ?l ?c ?k (fun _ _ _ _ _ _ us hl => match us, hl with | [_], _ => rfl); (case a => k_is); (case l => k_is); (case c => k_is); (case k => k_is))
    (case o8 => refine' K1.def_mk KX G ?a ?l ?c ?k (fun _ _ _ _ _ _ us hl => match us, hl with | [_], _ => rfl); (case a => k_is); (case l => k_is); (case c => k_is); (case k => k_is))
    (case o9 => refine' K1.def_mk KX G ?a ?l ?c ?k (fun _ _ _ _ _ _ us hl => match us, hl with | [_], _ => rfl); (case a => k_is); (case l => k_is); (case c => k_is); (case k => k_is))
    (case o10 => refine' K1.def_mk KX G ?a ?l ?c ?k (fun _ _ _ _ _ _ us hl => match us, hl with | [_, _], _ => rfl); (case a => k_is); (case l => k_is); (case c => k_is); (case k => k_is))
    (case o11 => refine' K1.def_mk KX G ?a ?l ?c ?k (fun _ _ _ _ _ _ us hl => match us, hl with | [_, _], _ => rfl); (case a => k_is); (case l => k_is); (case c => k_is); (case k => k_is))
    (case o12 => refine' K1.def_mk KX G ?a ?l ?c ?k (fun _ _ _ _ _ _ us hl => match us, hl with | [_, _], _ => rfl); (case a => k_is); (case l => k_is); (case c => k_is); (case k => k_is))
    (case o13 => refine' K1.def_mk KX G ?a ?l ?c ?k (fun _ _ _ _ _ _ us hl => match us, hl with | [_, _], _ => rfl); (case a => k_is); (case l => k_is); (case c => k_is); (case k => k_is))
    (case o14 => refine' K1.def_mk KX G ?a ?l ?c ?k (fun _ _ _ _ _ _ us hl => match us, hl with | [_], _ => rfl); (case a => k_is); (case l => k_is); (case c => k_is); (case k => k_is))
    (case hbind => exact fun s u => .of_eq rfl)
