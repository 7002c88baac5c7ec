import PyProof.Rows.All
import Wide.All
import OpenK.AllK
import Wide.FinOn
import KE.KTypeName
import KE.KSuper
import KE.KExcIs
import HandS.Base
import HandS.Call
import HandS.Exc
import HandS.ExcOwn
import HandS.ForExc
import HandS.Text
import HandS.ExcInit
import HandS.ForMost
import HandS.HotCalls
import HandS.ExcCtx
import HandS.IsInst
import HandS.ExcIs
import HandS.ExcField
import HandS.Comp
import HandS.Rev
import HandS.RevTup
import PyProof.ListRange
import HandS.Wide
import HandS.DeepEq
import PySem.Challenge.RW_holdingsshut_k11_least_steps_and_stops
set_option Elab.async false
set_option maxRecDepth 100000
set_option Elab.async false
set_option linter.all false
set_option maxRecDepth 100000
set_option maxHeartbeats 2000000
namespace PySem
namespace VX
open PySem.W PySem.Calls PyProof.Rows PySem.HandSPX Builtin Builtin.ObjectAttr Builtin.Getset_descriptor
section
variable {prog : Program} {w : World} {A : Around} {E : Value → Shared → Prop} {R : Result → Shared → Prop} {s : Shared} {K : Frag} {C : Addr} {oC : Obj} {nm : Value}
theorem name_got (X : K.In s.heap) (hC : K.lookup C = some oC) (hs : oC.slots[2]? = some (some nm)) (ht : typeIn K (.ref C) = some (.type "type")) (h : R (.ok (.ret nm)) s) :
    codeAny (model prog w) A (.call (.builtin "getset_descriptor.__get__") ⟨[.builtin "type.__name__", .ref C, .type "type"], []⟩) R s := by
  obtain ⟨hh, g, dr, t, os⟩ := s
  have L0 : Looks (model prog w) hh (typeOf (.ref C)) (.type "type") := looks_typeIn X ht
  have L1 : Looks (model prog w) hh (isSubtype (.type "type") (.type "type")) true := Looks.of_pure (by rw [isSubtype_type]; kernel_rfl)
  have hg : hh.get? C = some oC := X _ _ hC
  refine codeAny_call_builtin KF.slot_gs.plain KF.entry_gs (KF.slot_gs.check _ _ _ _ _ _ _ _ ktyn_type (KF.args_gs _ _ _) ?_)
  unfold Builtin.«getset_descriptor.__get__» descrGet
  rw [show descrGetArgs ⟨[.builtin "type.__name__", .ref C, .type "type"], []⟩ = pure (.builtin "type.__name__", some (.ref C), given (.type "type")) from by kernel_rfl]
  refine wpAny_bind (wpAny_pure ?_)
  unfold descrGetter descrCheckInstance descrNameAndClass isInstance
  simp only [ktyn_owner]
  repeat lk
  refine ⟨Code.quiet_builtin _ (by decide +kernel), codeAny_builtin ktyn_entry ?_⟩
  unfold Builtin.«type.__name__» Builtin.keptObject slotAt
  dsimp only
  refine wpAny_bind (wpAny_bind (wpAny_loadPart_at hg ?_))
  refine wpAny_pure ?_
  rw [hs]
  first | exact wpAny_pure h | exact wpAny_pure (wpAny_pure h)
/-- self.__class__.__name__'s second step -/
theorem name_attr {expr : Bool} {Q : Value → Shared → Prop} (X : K.In s.heap) (hC : K.lookup C = some oC) (hs : oC.slots[2]? = some (some nm)) (ht : typeIn K (.ref C) = some (.type "type"))
    (ho : nsIn K cStatics "thirdparty.any" = some none) (hnm : handedIn nm = true)
    (e : findCls K (.ref C) (.type "type") "__name__" = some (.get (.builtin "getset_descriptor.__get__") (.builtin "type.__name__") (.ref C) (.type "type")))
    (h : Q nm { s with toks := s.toks + 1 }) : wpAny (model prog w) A (getAttr (.ref C) "__name__" expr) Q E s := by
  have hg : findIn K (.type "type") "__getattribute__" = some (some (.builtin "type.__getattribute__")) := type_tga
  refine cls_open X (looks_opaque X ho) (looks_typeIn X ht) hg (looks_hook X (r := none) (by rfl)) (by show subIn K _ _ = _; rfl) e ?_
  show wpAny _ _ (do ret (← holding [Value.builtin "type.__name__"] (call (.builtin "getset_descriptor.__get__") [.builtin "type.__name__", .ref C, .type "type"]))) _ _ _
  refine wpAny_bind (wpAny_holding (wpAny_call (name_got (s := { s with toks := s.toks + 1 }) X hC hs ht ?_)))
  exact wpAny_pure (handed_on hnm h)
/-- x.__class__, x an exception of the own class at C -/
theorem cls_attr {x : Addr} {ox : Obj} {od : Option Obj} {expr : Bool} {gt : Option Value} {Q : Value → Shared → Prop} (X : K.In s.heap) (I : InstAt s.heap x ox C od)
    (g1 : findIn K (.ref C) "__getattribute__" = some (some (.builtin "BaseException.__getattribute__"))) (g2 : findIn K (.ref C) "__getattr__" = some gt) (sb : subIn K (.ref C) (.type "BaseException") = some true)
    (fd : findObj K C od "__class__" = some (.bind (.builtin "getset_descriptor.__get__") (.builtin "object.__class__"))) (mo : mroIn K C (.type "object") = some true)
    (h : Q (.ref C) { s with toks := s.toks + 1 }) : wpAny (model prog w) A (getAttr (.ref x) "__class__" expr) Q E s := by
  obtain ⟨hp, gs, dn, tk, os⟩ := s
  have T := I.type (M := model prog w)
  have A1 := looks_findIn (M := model prog w) X g1
  have A2 := looks_findIn (M := model prog w) X g2
  have A3 := looks_find (M := model prog w) X I fd
  have S : Looks (model prog w) hp (isInstance (.ref x) (.type "BaseException")) true := T.andThen (looks_subIn X sb)
  have e0 : (expr && onTheHeap (Value.builtin "BaseException.__getattribute__")) = false := by
    cases expr <;> rfl
  have e1 : (onTheHeap (Value.ref C) && Value.builtin "BaseException.__getattribute__" == Value.builtin "object.__getattribute__") = false := by
    rw [show (Value.builtin "BaseException.__getattribute__" == Value.builtin "object.__getattribute__") = false from by decide +kernel]
    rfl
  unfold getAttr getAttrBy
  refine wpAny_bind (wpAny_mkText (wpAny_holding (wpAny_bind (T.at (wpAny_bind (A1.at ?_))))))
  dsimp only
  rw [e1]
  rw [if_neg Bool.false_ne_true]
  unfold getAttrByItsOwn hookBefore
  refine wpAny_bind ?_
  have eo : onTheHeap (Value.ref C) = true := rfl
  rw [if_pos eo]
  refine A2.at (wpAny_bind (wpAny_attempt (wpAny_holding ?_)))
  unfold callGetattribute
  rw [e0]
  rw [if_neg Bool.false_ne_true]
  unfold boundAndCalled
  rw [PySem.F.excAttr_ValueError.ga.bind (.ref x)]
  refine wpAny_bind (wpAny_pure ?_)
  refine wpAny_call (codeAny_call_builtin (args := ⟨[.ref x, .str "__class__" tk], []⟩) PySem.F.excAttr_ValueError.ga.plain PySem.F.entry_bexc_ga ?_)
  refine @check_slot (model prog w) _ _ ⟨hp, gs, dn, tk + 1, os⟩ "BaseException.__getattribute__" "BaseException" "__getattribute__" (.ref x) [.str "__class__" tk] [] _
    (by decide +kernel) (by decide +kernel) S (PySem.F.args_bexc_ga (.ref x) (.str "__class__" tk)) ?_
  unfold Builtin.«object.__getattribute__»
  refine wpAny_bind (wpAny_of_eq (a := ((Value.ref x : Value), [Value.str "__class__" tk])) (by first | rfl | (simp only [slotArgs]; rfl)) ?_)
  refine wpAny_bind (wpAny_pure (wpAny_bind (T.at (wpAny_bind (A3.at ?_)))))
  refine wpAny_bind (wpAny_holding (wpAny_call (class_get (s := ⟨hp, gs, dn, tk + 1, os⟩) (ox := ox) (od := od) X I mo ?_)))
  refine wpAny_pure ?_
  show wpAny _ _ (handedOut (.ref C)) _ _ _
  exact handed_on rfl h
end
end VX
end PySem

set_option Elab.async false
set_option linter.all false
set_option maxRecDepth 100000
set_option maxHeartbeats 2000000
namespace PySem
namespace VX
open PySem.W PySem.Calls PyProof.Rows PySem.HandSPX
/-! ### the texts of the two kinds of __init__ -/
def rootArgs (p : Pos) : Arguments := { posonlyargs := [], args := [{ arg := "self", annotation := none, pos := p }], vararg := none, kwonlyargs := [], kw_defaults := [], kwarg := none, defaults := [] }
def rootBody (q : Nat → Pos) : List Stmt :=
  [.Assign [.Attribute (.Name "self" (q 0)) "word" (q 1)] (.Call (.Attribute (.Attribute (.Attribute (.Name "self" (q 2)) "__class__" (q 3)) "__name__" (q 4)) "lower" (q 5)) [] [] (q 6)) (q 7)]
def rootScope : Scope := { kind := .function, names := [(PySem.Str.ofString "self", .local)], isGenerator := false, isCoroutine := false, more := [] }
/-- the root's __init__ at fV -/
structure Root (K : Frag) (fV : Addr) : Prop where
  fn : ∃ (oc : Value) (od : Option Addr) (doc pm : Value) (an : Option Addr) (cdv ct : Value) (osl : Array (Option Value)) (p : Pos) (q : Nat → Pos),
    K.lookup fV = some ⟨oc, od, .func (fnOf "__init__" "VaultError.__init__" (rootArgs p) (rootBody q) rootScope .none .none doc pm an cdv ct), osl⟩ ∧ codeIn K cdv "VaultError.__init__" = true ∧ ((q 5).endLine == (q 6).line) = true
  ty : typeIn K (.ref fV) = some (.type "function")
/-- an exception class below the root, its name nm -/
structure Kind (K : Frag) (C : Addr) (nm : Str) : Prop where
  cls : ∃ q N bs bm sn sub ab col dd k0 k1 k3 k5 tk, K.lookup C = some (excClassObj nm q C N bs bm true sn sub ab col dd k0 k1 (some (.str nm tk)) k3 k5 "ValueError.__new__") ∧ refsVE bm = true
  sa : findIn K (.ref C) "__setattr__" = some (some (.builtin "object.__setattr__"))
  ga : findIn K (.ref C) "__getattribute__" = some (some (.builtin "BaseException.__getattribute__"))
  gg : findIn K (.ref C) "__getattr__" = some none
  cl : findIn K (.ref C) "__class__" = some (some (.builtin "object.__class__"))
  sp : specialIn K (.builtin "object.__class__") "__get__" = some (some (.builtin "getset_descriptor.__get__"))
  tk : takesIn K (.builtin "object.__class__") = some true
  mo : mroIn K C (.type "object") = some true
  nw : findIn K (.ref C) "word" = some none
  ex : subIn K (.ref C) (.type "BaseException") = some true
  ty : typeIn K (.ref C) = some (.type "type")
  kp : keepIn K (.ref C) = true
  hd : hasDictIn K C = true
  nn : findCls K (.ref C) (.type "type") "__name__" = some (.get (.builtin "getset_descriptor.__get__") (.builtin "type.__name__") (.ref C) (.type "type"))
  th : nsIn K cStatics "thirdparty.any" = some none
  sz : nm.length ≤ 1000
theorem Kind.cd {K : Frag} {C : Addr} {nm : Str} (T : Kind K C nm) : ∃ cd, clsIn K C = some cd ∧ refsVE cd.mro = true ∧ cd.hasDict = true := by
  obtain ⟨q, N, bs, bm, sn, sub, ab, col, dd, k0, k1, k3, k5, tk, hC, hb⟩ := T.cls
  refine ⟨{ name := nm, bases := bs, mro := .ref C :: bm, ns := N, qualname := q, hasDict := true, slotNames := sn, subclasses := sub, abstract := ab, collection := col, hasDel := false }, ?_, hb, rfl⟩
  unfold clsIn
  rw [hC] <;> rfl
theorem Kind.some {K : Frag} {C : Addr} {nm : Str} (T : Kind K C nm) : (clsIn K C).isSome = true := by
  obtain ⟨cd, e, _⟩ := T.cd
  rw [e]
  rfl
section
variable {prog : Program} {w : World} {A : Around} {E : Value → Shared → Prop} {R : Result → Shared → Prop} {s : Shared} {K : Frag} {C fV : Addr} {nm : Str}
theorem ld {M : Model} {s : Shared} {env : Env} {m : Str → Option Value} {x : Str} {pos : Pos} {v : Value} {Q : Value → Shared → Prop} {A : Around} {E : Value → Shared → Prop} (hn : s.heap.Ns env.locals m) (hv : m x = Option.some v) (h : Q v s)
    (hk : env.scope.kind = .function := by rfl) (hl : env.kindOf x = Option.some .local := by rfl) (hd : (x == ("__debug__" : Str)) = false := by decide) : wpAny M A (eval (.Name x pos) env) Q E s :=
  wpAny_Name (wpAny_loadName_local hk hl hn hv h) hd
/-- what the root's __init__ leaves of the fresh exception at x -/
structure Begun (h h' : Heap) (x C dx t0 : Addr) (nm : Str) : Prop where
  keep : ∀ b o, b ≠ x → h.get? b = some o → h'.get? b = some o
  obj : h'.get? x = some { cls := .ref C, dict := some dx, data := .fields #[.ref t0, .none, .none, .none, .bool false, .none] }
  big : h.objs.size ≤ dx
  ne : dx ≠ x
  ns : ∃ tk, h'.Ns1 dx (fun y => if y = "word" then some (.str (Txt.lower nm) tk) else none)
theorem init_root (V : Root K fV) (T : Kind K C nm) {x t0 : Addr} (X : K.In s.heap) (hlim : s.heap.NoLimit) (hx : s.heap.get? x = some (excO C t0)) (hroom : A.depth < recursionLimit)
    (hq : ∀ h' tk dx, Begun s.heap h' x C dx t0 nm → R (.ok (.ret .none)) { s with heap := h', toks := tk }) :
    codeAny (model prog w) A (.call (.ref fV) ⟨[.ref x], []⟩) R s := by
  obtain ⟨oc, od, doc, pm, an, cdv, ct, osl, p, q, ho, hcd, hln⟩ := V.fn
  obtain ⟨cd, hcl, hre, hdi⟩ := T.cd
  obtain ⟨qq, N, bs, bm, sn, sub, ab, col, dd, k0, k1, k3, k5, tk0, hC, hb⟩ := T.cls
  refine Att.call_fn (binds := [("self", .ref x)]) X hlim ho hcd hroom (BindsTo.of_eq (by first | rfl | with_unfolding_all rfl)) (by first | rfl | decide | with_unfolding_all rfl) (fun s₁ IC => ?_) rfl rfl rfl
  obtain ⟨h₁, tk₁, rfl⟩ := IC.toInCall.same
  have k : ∀ b o, s.heap.get? b = some o → h₁.get? b = some o := IC.toInCall.keep
  have hn := IC.toInCall.ns
  have X₁ : K.In h₁ := X.keeps k
  have hx₁ := k _ _ hx
  have I : W.InstAt h₁ x (excO C t0) C none := ⟨hx₁, rfl, rfl, trivial⟩
  have fd : findObj K C none "__class__" = some (.bind (.builtin "getset_descriptor.__get__") (.builtin "object.__class__")) := findObj_dataE T.some T.cl T.sp T.tk
  show wpAny _ _ (execs _ _) _ _ _
  refine wpAny_execs_cons (plainObj_wpAny_Assign_Attribute ?_)
  refine wpAny_Call_method0_late (by first | rfl | with_unfolding_all rfl) hln ?_
  refine L2.attr_of (by first | rfl | with_unfolding_all rfl) (L2.attr_of (by first | rfl | with_unfolding_all rfl) (ld (v := .ref x) hn (by first | rfl | with_unfolding_all rfl | kernel_rfl) ?_))
  refine cls_attr X₁ I T.ga T.gg T.ex fd T.mo ?_
  refine name_attr X₁ hC (by rfl) T.ty T.th (by rfl) T.nn ?_
  refine ⟨"str", "str.lower", F.plainAttrs_str, F.slot_str_lower, F.type_str_lower, typeIs_str _ _ _, (fun _ e => nomatch e), ?_⟩
  refine Calls.callWith_builtin rfl (PySem.evalArgs_none ?_)
  refine PySem.SC.lower (PyProof.Rows.short24 (by have h1 := T.sz; have h2 := PyProof.Rows.len_lower nm; omega)) ?_
  refine ld (v := .ref x) hn (by first | rfl | with_unfolding_all rfl | kernel_rfl) ?_
  refine set_plain X₁ (ox := excO C t0) (od := none) ⟨hx₁, rfl, rfl, trivial⟩ T.sa ?_
  refine exc_osa X₁ hx₁ hcl hre hdi T.nw (fun h₃ tk₃ dx k₃ dn dne hx₃ hn₃ => ?_)
  show wpAny _ _ (execs _ _) _ _ _
  have z : s.heap.objs.size < h₁.objs.size := hn.lt
  refine wpAny_execs_nil (hq h₃ tk₃ dx ⟨fun b o hb e => k₃ b o hb (k b o e), hx₃, ?_, dne, _, hn₃⟩)
  exact Nat.le_of_lt (Nat.lt_of_lt_of_le z dn)
end
end VX
end PySem

set_option Elab.async false
set_option linter.all false
set_option maxRecDepth 100000
set_option maxHeartbeats 2000000
namespace PySem
namespace VX
open PySem.W PySem.Calls PyProof.Rows PySem.HandSPX
inductive Stores : List Str → List Stmt → Prop
  | nil : Stores [] []
  | cons {f : Str} {fs : List Str} {st : List Stmt} (p1 p2 p3 p4 : Pos) : Stores fs st → Stores (f :: fs) (.Assign [.Attribute (.Name "self" p1) f p2] (.Name f p3) p4 :: st)
def putNs : List (Str × Value) → (Str → Option Value) → Str → Option Value
  | [], m => m
  | (f, v) :: r, m => putNs r (fun y => if y = f then some v else m y)
theorem In_but {K : Frag} {h h' : Heap} {x : Addr} (X : K.In h) (hx : K.lookup x = none) (k : ∀ b o, b ≠ x → h.get? b = some o → h'.get? b = some o) : K.In h' := fun a o e =>
  k a o (fun z => by
    rw [z] at e
    rw [show List.lookup x K = none from hx] at e
    cases e) (X a o e)
theorem notIn_of {K : Frag} {h : Heap} {x : Addr} (X : K.In h) (hx : h.objs.size ≤ x) : K.lookup x = none := by
  cases e : K.lookup x with
  | none => rfl
  | some o => exact absurd (Nat.lt_of_lt_of_le (Heap.lt_size (X _ _ e)) hx) (Nat.lt_irrefl _)
section
variable {prog : Program} {w : World} {A : Around} {E : Value → Shared → Prop} {K : Frag} {C : Addr} {nm : Str}
theorem stores_ok (T : Kind K C nm) {x dx : Addr} {fv : Array Value} {env : Env} {m : Str → Option Value} {Q : Flow → Shared → Prop} (hk : env.scope.kind = .function) (hself : m "self" = some (.ref x)) (ls : env.kindOf "self" = some .local) (hKd : K.lookup dx = none) (hxd : x ≠ dx) (hLd : env.locals ≠ dx) :
    ∀ (kvs : List (Str × Value)) (body : List Stmt) (m0 : Str → Option Value) (nl : List Str) (s : Shared), Stores (kvs.map (·.1)) body →
      (∀ p ∈ kvs, m p.1 = some p.2 ∧ findIn K (.ref C) p.1 = some none ∧ env.kindOf p.1 = some .local ∧ (p.1 == ("__debug__" : Str)) = false) →
      K.In s.heap → s.heap.Ns env.locals m → s.heap.get? x = some { cls := .ref C, dict := some dx, data := .fields fv } → s.heap.Ns1 dx m0 → Within m0 nl → nl.length + kvs.length ≤ 1000 →
      (∀ h' tk, (∀ b o, b ≠ dx → s.heap.get? b = some o → h'.get? b = some o) → h'.Ns1 dx (putNs kvs m0) → Q .next { s with heap := h', toks := tk }) → wpAny (model prog w) A (execs body env) Q E s := by
  intro kvs
  induction kvs with
  | nil =>
    intro body m0 nl s hb _ X hn hx hd hw hl hq
    cases hb
    exact wpAny_execs_nil (hq s.heap s.toks (fun _ _ _ e => e) hd)
  | cons p kvs ih =>
    intro body m0 nl s hb hp X hn hx hd hw hl hq
    obtain ⟨f, v⟩ := p
    cases hb with
    | cons p1 p2 p3 p4 hb =>
      obtain ⟨e1, e2, e3, e4⟩ := hp _ List.mem_cons_self
      obtain ⟨cd, hcl, hre, hdi⟩ := T.cd
      obtain ⟨oD, _, _, hoD, _, _⟩ := hd.count hw
      obtain ⟨hp0, g, d, t, os⟩ := s
      refine wpAny_execs_cons (plainObj_wpAny_Assign_Attribute ?_)
      refine ld (v := v) hn e1 ?_ hk e3 e4
      refine ld (v := .ref x) hn hself ?_ hk ls (by decide)
      refine set_plain X (ox := { cls := .ref C, dict := some dx, data := .fields fv }) (od := some oD) ⟨hx, rfl, rfl, hoD⟩ T.sa ?_
      refine OEX.osa_old X hx hd hw (by have := hl; rw [List.length_cons] at this; omega) hcl hre hdi e2 (fun h₃ tk₃ k₃ hn₃ => ?_)
      have keepL : h₃.Ns env.locals m := hn.at fun o q => k₃ _ _ hLd q
      refine ih _ _ (f :: nl) ⟨h₃, g, d, tk₃, os⟩ hb (fun q hq' => hp q (List.mem_cons_of_mem _ hq')) (In_but X hKd k₃) keepL (k₃ _ _ hxd hx) hn₃ (Within.cons f v hw) (by rw [List.length_cons] at hl ⊢; omega) fun h' tk k' n' => ?_
      exact hq h' tk (fun b o hb' e => k' b o hb' (k₃ b o hb' e)) n'
end
end VX
end PySem

set_option Elab.async false
set_option linter.all false
set_option maxRecDepth 100000
set_option maxHeartbeats 2000000
namespace PySem
namespace VX
open PySem.W PySem.Calls PyProof.Rows PySem.HandSPX
def leafArgs (p : Pos) (fs : List (Str × Pos)) : Arguments := { posonlyargs := [], args := { arg := "self", annotation := none, pos := p } :: fs.map (fun y => { arg := y.1, annotation := none, pos := y.2 }), vararg := none, kwonlyargs := [], kw_defaults := [], kwarg := none, defaults := [] }
def leafBody (r : Nat → Pos) (st : List Stmt) : List Stmt := .Expr (.Call (.Attribute (.Call (.Name "super" (r 0)) [] [] (r 1)) "__init__" (r 2)) [] [] (r 3)) (r 4) :: st
def leafScope (fs : List Str) : Scope := { kind := .function, names := (PySem.Str.ofString "self", .local) :: (fs.map (fun f => (f, NameKind.local)) ++ [(PySem.Str.ofString "__class__", .free), (PySem.Str.ofString "super", .globalImplicit)]), isGenerator := false, isCoroutine := false, more := [] }
/-- a class that is raised: its own __init__ at fI, the cell of its __class__ at cc -/
structure Leaf (P : Program) (K : Frag) (mg : Str → Option Value) (C fV fI : Addr) (nm : Str) (fs : List Str) : Prop where
  kind : Kind K C nm
  root : Root K fV
  top : (P.main.scope.names.lookup ("super" : Str)).isSome = false
  ms : mg "super" = none
  iC : findIn K (.ref C) "__init__" = some (some (.ref fI))
  tI : typeIn K (.ref fI) = some (.type "function")
  up : ks_superIn K C C "__init__" = some (some (.ref fV))
  fV : fnIn K fV = true
  fn : ∃ (qual : Str) (oc : Value) (od : Option Addr) (doc pm : Value) (an : Option Addr) (ct : Value) (osl : Array (Option Value)) (cda cc : Addr) (p : Pos) (ps : List (Str × Pos)) (r : Nat → Pos) (st : List Stmt) (ccl : Value) (cdd : Option Addr) (ccs : Array (Option Value)) (vs : Array Value) (tf : Tok) (cl : Value) (cld : Option Addr) (csl : Array (Option Value)),
    K.lookup fI = some ⟨oc, od, .func (ksFn "__init__" qual (leafArgs p ps) (leafBody r st) (leafScope fs) .none .none doc pm an (.ref cda) ct cc), osl⟩ ∧ codeIn K (.ref cda) qual = true ∧
    K.lookup cda = some ⟨ccl, cdd, .fields vs, ccs⟩ ∧ vs[2]? = some (.str P.main.file tf) ∧ ((r 2).endLine == (r 3).line) = true ∧ K.lookup cc = some ⟨cl, cld, .cell (some (.ref C)), csl⟩ ∧ Stores fs st ∧
    (∀ (s : Shared) (x : Value) (us : List Value), us.length = fs.length → BindsTo s (ksFn "__init__" qual (leafArgs p ps) (leafBody r st) (leafScope fs) .none .none doc pm an (.ref cda) ct cc) ⟨x :: us, []⟩ ((("self" : Str) :: fs).zip (x :: us)))
  nf : ∀ f ∈ fs, findIn K (.ref C) f = some none ∧ (f == ("__debug__" : Str)) = false ∧ (leafScope fs).names.lookup f = some .local ∧ ¬ f = "self"
  nd : (("self" : Str) :: fs).Nodup
  few : fs.length ≤ 10
  ks : (leafScope fs).names.lookup ("super" : Str) = some .globalImplicit
  kc : (leafScope fs).names.lookup ("__class__" : Str) = some .free
  me : mroIn K C (.ref C) = some true
theorem look_mem {k : Str} {v : Value} : ∀ {l : List (Str × Value)}, (l.map (·.1)).Nodup → (k, v) ∈ l → l.lookup k = some v
  | [], _, h => by cases h
  | (a, b) :: l, nd, h => by
    rw [List.map_cons, List.nodup_cons] at nd
    rcases List.mem_cons.mp h with e | h
    · cases e
      simp [List.lookup]
    · have ne : ¬ k = a := fun z => nd.1 (by rw [← z]; exact List.mem_map_of_mem (f := (·.1)) h)
      have e : (k == a) = false := by simpa using ne
      show (match k == a with | true => some b | false => l.lookup k) = some v
      rw [e]
      exact look_mem nd.2 h
theorem look_rev {k : Str} {v : Value} {l : List (Str × Value)} (nd : (l.map (·.1)).Nodup) (h : (k, v) ∈ l) : l.reverse.lookup k = some v :=
  look_mem (by rw [List.map_reverse]; exact List.pairwise_reverse.mpr (nd.imp fun z => Ne.symm z)) (List.mem_reverse.mpr h)
theorem keys_zip {fs : List Str} {us : List Value} (h : us.length = fs.length) : (fs.zip us).map (·.1) = fs := by
  rw [List.map_fst_zip (by omega)]
section
variable {prog : Program} {w : World} {A : Around} {E : Value → Shared → Prop} {R : Result → Shared → Prop} {s : Shared} {K : Frag} {mg mb : Str → Option Value} {C fV fI : Addr} {nm : Str} {fs : List Str}
/-- what __init__ leaves of the fresh exception at x -/
structure Inited (h h' : Heap) (x C dx t0 : Addr) (nm : Str) (kvs : List (Str × Value)) : Prop where
  keep : ∀ b o, b ≠ x → h.get? b = some o → h'.get? b = some o
  obj : h'.get? x = some { cls := .ref C, dict := some dx, data := .fields #[.ref t0, .none, .none, .none, .bool false, .none] }
  big : h.objs.size ≤ dx
  ne : dx ≠ x
  ns : ∃ tk, h'.Ns1 dx (putNs kvs (fun y => if y = "word" then some (.str (Txt.lower nm) tk) else none))
theorem init_leaf (T : Leaf prog K mg C fV fI nm fs) (G : s.heap.Ns mainGlobals mg) (B : s.heap.Ns builtinsNs mb) (hb : mb "super" = bootBuiltins "super") {x t0 : Addr} {us : List Value} (hus : us.length = fs.length)
    (X : K.In s.heap) (hlim : s.heap.NoLimit) (hx : s.heap.get? x = some (excO C t0)) (hKx : K.lookup x = none) (hgx : mainGlobals ≠ x) (hroom : A.depth + 1 < recursionLimit)
    (hq : ∀ h' tk dx, Inited s.heap h' x C dx t0 nm (fs.zip us) → R (.ok (.ret .none)) { s with heap := h', toks := tk }) :
    codeAny (model prog w) A (.call (.ref fI) ⟨.ref x :: us, []⟩) R s := by
  obtain ⟨qual, oc, od, doc, pm, an, ct, osl, cda, cc, p, ps, r, st, ccl, cdd, ccs, vs, tf, cl, cld, csl, ho, hcd, hca, hfile, hln, hcc, hst, hbd⟩ := T.fn
  obtain ⟨cd, hcl, hre, hdi⟩ := T.kind.cd
  obtain ⟨qq, N, bs, bm, sn, sub, ab, col, dd, k0, k1, k3, k5, tk0, hC, hbm⟩ := T.kind.cls
  have hcd' : cd = { name := nm, bases := bs, mro := .ref C :: bm, ns := N, qualname := qq, hasDict := true, slotNames := sn, subclasses := sub, abstract := ab, collection := col, hasDel := false } := by
    have e := hcl
    unfold clsIn at e
    rw [hC] at e
    exact (Option.some.inj e).symm
  refine ks_codeAny_call_defAt (binds := (("self" : Str) :: fs).zip (.ref x :: us)) (by omega) (X _ _ ho) rfl hlim (codeRec_of X hcd) rfl (hbd s _ us hus) ?c1 ?c2 (fun h₁ hns hk₁ => ?_) rfl rfl rfl
  case c1 =>
    intro y hy
    have hy' : y ∈ (PySem.Str.ofString "self", NameKind.local) :: (fs.map (fun f => (f, NameKind.local)) ++ [(PySem.Str.ofString "__class__", .free), (PySem.Str.ofString "super", .globalImplicit)]) := hy
    rcases List.mem_cons.mp hy' with e | h
    · rw [e]
      exact fun z => NameKind.noConfusion z
    · rcases List.mem_append.mp h with h | h
      · obtain ⟨f, _, e⟩ := List.mem_map.mp h
        rw [← e]
        exact fun z => NameKind.noConfusion z
      · rcases List.mem_cons.mp h with e | h
        · rw [e]
          exact fun z => NameKind.noConfusion z
        · rcases List.mem_cons.mp h with e | h
          · rw [e]
            exact fun z => NameKind.noConfusion z
          · cases h
  case c2 =>
    rintro ⟨y, u⟩ hy
    rcases List.mem_cons.mp (List.of_mem_zip hy).1 with e | h
    · rw [show y = "self" from e]
      rfl
    · exact (T.nf y h).2.2.1
  have X₁ : K.In h₁ := X.keeps hk₁
  have ndz : ((((("self" : Str) :: fs).zip (.ref x :: us)).map (·.1))).Nodup := by
    rw [keys_zip (by rw [List.length_cons, List.length_cons, hus])]
    exact T.nd
  have hx₁ := hk₁ _ _ hx
  refine ks_wpAt_execs_cons (ks_wpAt_Expr_any (ks_wpAt_MethodCall (pl := ?pl) (h := ?_) (he := ?he)))
  case he =>
    rw [arm_eval_Call]
    unfold methodCall
    have hp : ∀ env : Env, methodCallPos true (.Call (.Name "super" (r 0)) [] [] (r 1)) env (r 2) (r 3) = pure (r 3) := fun env => by
      unfold methodCallPos
      simp [hln]
    have hf : ∀ (env : Env), methodCallForm 0 (backTo (r 3) (starEach [] env)) (backToKw (r 3) (keywordEach [] env)) = true := fun _ => rfl
    show (do
      let ov ← attributeBase _ _ _ _
      standAt (r 2).atName
      let (f, first) ← holding [ov] (getMethod ov "__init__" _)
      let cp ← methodCallPos true _ _ (r 2) (r 3)
      callWith cp f first _ _) = _
    simp only [hp, pure_bind]
    rfl
  refine ks_wpAt_super_base (f := fI) (cc := cda) (ar := { arg := "self", annotation := none, pos := p }) ?s1 ?s2 (by decide) rfl (X₁ _ _ ho) rfl rfl rfl (X₁ _ _ hca) rfl hfile (by simp) T.top ?_
  case s1 => exact T.ks
  case s2 => exact T.kc
  refine ks_loadName_global rfl ?s3 (loadGlobal_builtin (mb := mb) ?g1 T.ms ?g2 ?g3 ⟨rfl, ?_⟩)
  case s3 => exact T.ks
  case g1 => exact G.keeps hk₁
  case g2 => exact B.keeps hk₁
  case g3 => exact hb.trans (by first | boot_by_name | rfl | kernel_rfl)
  refine wpAny_loadName_free rfl ?s4 rfl ⟨_, X₁ _ _ hcc, rfl⟩ ?_
  case s4 => exact T.kc
  refine wpAny_loadName_local (v := .ref x) rfl ?s5 hns (look_rev ndz (by rw [List.zip_cons_cons]; exact List.mem_cons_self)) ?_
  case s5 => rfl
  have hD : h₁.get? C = _ := X₁ _ _ hC
  refine ks_wpAny_isType_cls hD rfl ⟨rfl, ?_⟩
  have hsub : Looks (model prog w) h₁ (isSubtype (.ref C) (.ref C)) true := looks_mroIn X₁ T.me
  refine ks_wpAny_call_super hD rfl hx₁ rfl (fun c e => by cases e) hsub (fun h₂ hso k₂ => ?_)
  have X₂ : K.In h₂ := X₁.keeps k₂
  have hx₂ := k₂ _ _ hx₁
  have I₂ : W.InstAt h₂ x (excO C t0) C none := ⟨hx₂, rfl, rfl, trivial⟩
  have hal : alongIn K "__init__" ((cd.mro.dropWhile (· != .ref C)).drop 1) = some (some (.ref fV)) := by
    have e := T.up
    unfold ks_superIn at e
    rw [hcl] at e
    exact e
  obtain ⟨of, hof, hofc⟩ : ∃ of, h₂.get? fV = some of ∧ of.cls = .type "function" := by
    have ht' : (K.lookup fV).map (·.cls) = some (.type "function") := T.root.ty
    cases z : K.lookup fV with
    | none => rw [z] at ht'; cases ht'
    | some of => rw [z] at ht'; exact ⟨of, X₂ _ _ z, Option.some.inj ht'⟩
  refine ks_wpAny_getMethod_super hso (looks_opaque X₂ T.kind.th) (l₀ := cd.mro) (fun A Q E s k q => wpAny_bind ((looks_clsIn X₂ hcl) A _ E s k (wpAny_pure q))) rfl X₂ hal hof hofc (ks_ne X₂ I₂ hcl) (by decide) ?_
  have k₃ : ∀ b o, h₂.get? b = some o → (h₂.push { cls := .type "method", data := .fields #[.ref fV, .ref x] }).get? b = some o := fun b o e => Heap.get?_push_of_some _ e
  have hbm' : (h₂.push { cls := .type "method", data := .fields #[.ref fV, .ref x] }).get? h₂.objs.size = some (methodObj (.ref fV) (.ref x)) := Heap.get?_push_at rfl rfl
  have X₃ := X₂.keeps k₃
  have hx₃ := k₃ _ _ hx₂
  have k13 : ∀ b o, h₁.get? b = some o → (h₂.push { cls := .type "method", data := .fields #[.ref fV, .ref x] }).get? b = some o := fun b o e => k₃ b o (k₂ b o e)
  refine callWith_of (P := MethP K h₂.objs.size fV (.ref x)) rfl (fun h X => keeps_M T.fV h X) (evalArgs_nil3 ⟨⟨hbm', X₃⟩, ?_⟩)
  refine wpAny_call (ks_codeAny_call_bound hbm' ?_)
  refine init_root T.root T.kind X₃ (hlim.keeps fun b o e => k13 b o (hk₁ b o e)) hx₃ (by exact hroom) (fun h₄ tk₄ dx BG => ?_)
  have hLx : s.heap.objs.size ≠ x := fun z => absurd (Heap.lt_size hx) (by rw [← z]; exact Nat.lt_irrefl _)
  have X₄ : K.In h₄ := In_but X₃ hKx BG.keep
  have hn₄ := (hns.keeps k13).at fun o e => BG.keep _ _ hLx e
  have hKd : K.lookup dx = none := notIn_of X₃ BG.big
  have hLd : s.heap.objs.size ≠ dx := fun z => by
    have h1 := (hns.keeps k13).lt
    have h2 := BG.big
    rw [z] at h1
    exact absurd (Nat.lt_of_lt_of_le h1 h2) (Nat.lt_irrefl _)
  obtain ⟨tw, hw⟩ := BG.ns
  have hin : ∀ p ∈ fs.zip us, p.1 ∈ fs := fun p hp => (List.of_mem_zip hp).1
  refine wpAt_of_wpAny ?_
  refine stores_ok T.kind (m := fun y => (((("self" : Str) :: fs).zip (Value.ref x :: us)).reverse.lookup y)) rfl (look_rev ndz (by rw [List.zip_cons_cons]; exact List.mem_cons_self)) rfl hKd BG.ne.symm hLd (fs.zip us) st _ ["word"] _ (by rw [keys_zip hus]; exact hst) (fun p hp => ?_) X₄ hn₄ BG.obj hw (Within.cons ("word" : Str) _ Within.nil) ?_ fun h₅ tk₅ k₅ n₅ => ?_
  · obtain ⟨a1, a2, a3, _⟩ := T.nf p.1 (hin p hp)
    exact ⟨look_rev ndz (by rw [List.zip_cons_cons]; exact List.mem_cons_of_mem _ hp), a1, a3, a2⟩
  · have h1 : (fs.zip us).length ≤ fs.length := by
      rw [List.length_zip]
      exact Nat.min_le_left _ _
    have h2 := T.few
    rw [List.length_cons, List.length_nil]
    omega
  · refine hq h₅ tk₅ dx ⟨fun b o hb e => ?_, ?_, ?_, BG.ne, tw, n₅⟩
    · have e1 := k13 b o (hk₁ b o e)
      exact k₅ b o (fun z => absurd (Heap.lt_size e1) (by rw [z]; exact Nat.not_lt.mpr BG.big)) (BG.keep b o hb e1)
    · exact k₅ _ _ BG.ne.symm BG.obj
    · have h1 := (hns.keeps k13).lt
      exact Nat.le_of_lt (Nat.lt_of_lt_of_le h1 BG.big)
end
end VX
end PySem

set_option Elab.async false
set_option linter.all false
set_option maxRecDepth 100000
set_option maxHeartbeats 2000000
namespace PySem
namespace VX
open PySem.W PySem.Calls PyProof.Rows PySem.HandSPX
section
variable {prog : Program} {w : World} {A : Around} {E : Value → Shared → Prop} {R : Result → Shared → Prop} {s : Shared} {K : Frag} {mg mb : Str → Option Value} {C fV fI : Addr} {nm : Str} {fs : List Str}
/-- a made exception -/
structure Thrown (h h' : Heap) (e C d : Addr) (nm : Str) (kvs : List (Str × Value)) : Prop where
  keep : ∀ b o, h.get? b = some o → h'.get? b = some o
  new : h.objs.size ≤ e
  obj : ∃ oe vs, h'.get? e = some oe ∧ oe.cls = .ref C ∧ oe.dict = some d ∧ oe.data = .fields vs ∧ vs[1]? = some .none ∧ vs[2]? = some .none
  big : h.objs.size ≤ d
  ne : d ≠ e
  ns : ∃ tk, h'.Ns1 d (putNs kvs (fun y => if y = "word" then some (.str (Txt.lower nm) tk) else none))
theorem leaf_made (T : Leaf prog K mg C fV fI nm fs) (G : s.heap.Ns mainGlobals mg) (B : s.heap.Ns builtinsNs mb) (hb : mb "super" = bootBuiltins "super") {us : List Value} (hus : us.length = fs.length)
    (X : K.In s.heap) (hlim : s.heap.NoLimit) (hroom : A.depth + 2 < recursionLimit)
    (hq : ∀ h' tk e d, Thrown s.heap h' e C d nm (fs.zip us) → R (.ok (.ret (.ref e))) { s with heap := h', toks := tk }) :
    codeAny (model prog w) A (.call (.ref C) ⟨us, []⟩) R s := by
  obtain ⟨qq, N, bs, bm, sn, sub, ab, col, dd, k0, k1, k3, k5, tk0, hC, hbm⟩ := T.kind.cls
  obtain ⟨hp, g, dr, tk, os⟩ := s
  have k : ∀ b o, hp.get? b = some o → ((hp.push (kdv_tup us)).push (excO C hp.objs.size)).get? b = some o := fun b o e => Heap.get?_push_of_some _ (Heap.get?_push_of_some _ e)
  have hget : ((hp.push (kdv_tup us)).push (excO C hp.objs.size)).get? (hp.objs.size + 1) = some (excO C hp.objs.size) := by heap_get
  have hnx : K.lookup (hp.objs.size + 1) = none := notIn_of X (Nat.le_succ _)
  have hsz : us.length ≤ sizeLine := by
    rw [hus, sizeLine_eq]
    have := T.few
    omega
  refine call_own F.excBase_ValueError (fun Y => refsVE_contains Y bm hbm) (X _ _ hC) (looks_findIn X T.iC) (fun self => bind_fn X self T.tI) hsz ?_
  refine init_leaf (s := ⟨(hp.push (kdv_tup us)).push (excO C hp.objs.size), g, dr, tk, os⟩) T (G.keeps k) (B.keeps k) hb hus (X.keeps k) (hlim.keeps k) hget hnx (fun z => ?_) ?_ fun h' tk' dx M => ?_
  · have h1 := G.lt
    rw [z] at h1
    exact absurd (Nat.lt_of_succ_lt h1) (Nat.lt_irrefl _)
  · rw [L2.make_depth]
    omega
  · have old : ∀ b o, hp.get? b = some o → h'.get? b = some o := fun b o e => M.keep b o (Nat.ne_of_lt (Nat.lt_succ_of_lt (Heap.lt_size e))) (k b o e)
    have z : hp.objs.size + 1 + 1 ≤ dx := by
      have q := M.big
      rw [Heap.size_push, Heap.size_push] at q
      exact q
    exact ⟨rfl, hq h' tk' (hp.objs.size + 1) dx ⟨old, Nat.le_succ _, ⟨_, _, M.obj, rfl, rfl, rfl, rfl, rfl⟩, Nat.le_trans (Nat.le_trans (Nat.le_succ _) (Nat.le_succ _)) z, M.ne, M.ns⟩⟩
end
end VX
end PySem
namespace L2
open PySem PySem.Spec PyProof.Rows
/-- the exception's own dict: the fields laid one by one -/
def putV : List (Str × V) → List (Str × V) → List (Str × V)
  | [], l => l
  | (f, v) :: r, l => putV r ((f, v) :: l)
theorem relO_putV : ∀ {fs : List Str} {vs : List V} {us : List Value} {l : List (Str × V)} {m : Str → Option Value}, Vals vs us → (∀ g, RelO (l.lookup g) (m g)) → ∀ g, RelO ((putV (fs.zip vs) l).lookup g) (PySem.VX.putNs (fs.zip us) m g)
  | [], vs, us, l, m, _, h, g => by
    rw [List.zip_nil_left, List.zip_nil_left]
    exact h g
  | f :: fs, _, _, l, m, .nil, h, g => by
    rw [List.zip_nil_right, List.zip_nil_right]
    exact h g
  | f :: fs, _, _, l, m, .cons r t, h, g => by
    rw [List.zip_cons_cons, List.zip_cons_cons]
    exact relO_putV t (relO_put r h) g
section
variable {X : Cx} {C fV fI : Addr} {nm : Str} {fs : List Str}
def excD (fs : List Str) (nm : Str) (vs : List V) : List (Str × V) := putV (fs.zip vs) [(("word" : Str), V.str (Txt.lower nm))]
/-- C(e, ..) -/
def tMkL (C : Addr) (fs : List Str) (nm : Str) (ta : TA) : St → Hp → XK → Prop := fun σ H Q => ta σ H fun vs H1 => vs.length = fs.length ∧ ∀ d, H1 d = none → Q (.ref C) (some d) (upd H1 d (.xd (excD fs nm vs)))
theorem pmk_leaf {x : Str} {a : Expr} {es : List Expr} {ta : TA} {p pos : Pos} {k : Nat} (T : PySem.VX.Leaf X.prog X.K X.mg C fV fI nm fs) (hr : Room k X.A) (ha : PA X (a :: es) ta) (hg : Gl X x) (hm : X.mg x = some (.ref C)) (hdb : (x == ("__debug__" : Str)) = false := by decide)
    (he : starEach (a :: es) X.env = (false, eval a X.env) :: starEach es X.env := by rfl) (hpl : (backTo pos (starEach es X.env)).any (·.1) = false := by rfl) :
    PMk X (.Call (.Name x p) (a :: es) [] pos) (tMkL C fs nm ta) := by
  intro pins s σ H Q I h
  refine wpAny_Call_Name_kw (ld_glob I hg hm ?_ hdb)
  refine PySem.W.callWith_K (h₀ := X.base) I.ok.mod.kin T.kind.kp (thn (ha.run pos pins s σ H _ I h) fun us s1 hh => ?_) he hpl
  obtain ⟨vs, H1, I1, r1, hl, q1⟩ := hh
  refine ⟨I1.kIn, ?_⟩
  show wpAny _ _ (call (.ref C) us) _ _ _
  have hlim := I1.nolimit
  obtain ⟨mb, hmb, hbb⟩ := I1.ok.mod.blt
  have hus : us.length = fs.length := by rw [← r1.length, hl]
  have KI := I1.kIn
  have Gs := I1.ok.mod.glob.keeps I1.bk
  have Bs := hmb.keeps I1.bk
  obtain ⟨hp, g, dr, tk, os⟩ := s1
  refine wpAny_call (PySem.VX.leaf_made T Gs Bs (hbb _ (by decide)) hus KI hlim (by have := hr.dp; omega) fun h' tk' e d M => ?_)
  show MkP X pins σ Q (.ref e) ⟨h', g, dr, tk', os⟩
  obtain ⟨oe, fv, hoe, hc, hd, hdat, h1, _⟩ := M.obj
  obtain ⟨tw, hns⟩ := M.ns
  obtain ⟨G', g1, g2⟩ := restrict h' fun b => decide (b ≠ e)
  have gk : ∀ b, b ≠ e → G'.get? b = h'.get? b := fun b hb => g1 b (decide_eq_true hb)
  have ge : G'.get? e = none := g2 e (by simp)
  have old : ∀ b o, hp.get? b = some o → G'.get? b = some o := fun b o q => (gk b (Nat.ne_of_lt (Nat.lt_of_lt_of_le (Heap.lt_size q) M.new))).trans (M.keep b o q)
  have ob : ObjOk X.prog X.w (upd H1 d (.xd (excD fs nm vs))) G' d (.xd (excD fs nm vs)) :=
    ⟨_, hns.at (fun o q => (gk d M.ne).trans q), relO_putV r1 (relO_put (fs := []) ⟨tw, rfl⟩ fun g => True.intro)⟩
  have J : Inv X pins σ (upd H1 d (.xd (excD fs nm vs))) ⟨G', g, dr, tk', os⟩ := I1.laid (t' := tk') old M.big ob
  refine ⟨e, oe, fv, ⟨G', g, dr, tk', os⟩, _, .ref C, some d, rfl, J, fun b o q => ?_, ge, hoe, ⟨hc, hd⟩, hdat, h1, ?_, rfl, I1.bare, raises_own T.kind.ex T.kind.ty, q1 d (I1.hok.fresh M.big)⟩
  · by_cases hb : b = e
    · have q' : G'.get? b = some o := q
      rw [hb, ge] at q'
      cases q'
    · exact (gk b hb).symm.trans q
  · rw [upd_ne (Ne.symm M.ne)]
    exact I1.hok.fresh M.new
/-- raise C(e, ..) -/
def tRaiseL (C : Addr) (fs : List Str) (nm : Str) (W : WX) (ta : TA) : TS := fun _ σ H => tMkL C fs nm ta σ H fun cls d H' => W cls d σ H'
theorem ps_raiseL {x : Str} {a : Expr} {es : List Expr} {ta : TA} {W : WX} {p pos pos2 : Pos} {k : Nat} (hc : X.calm = true) (T : PySem.VX.Leaf X.prog X.K X.mg C fV fI nm fs) (hr : Room k X.A) (tk : Takes X W) (hm : X.mg x = some (.ref C)) (ha : PA X (a :: es) ta) (hg : Gl X x := by rfl)
    (hdb : (x == ("__debug__" : Str)) = false := by decide) (he : starEach (a :: es) X.env = (false, eval a X.env) :: starEach es X.env := by rfl) (hpl : (backTo pos (starEach es X.env)).any (·.1) = false := by rfl) :
    PS X (.Raise (some (.Call (.Name x p) (a :: es) [] pos)) none pos2) (tRaiseL C fs nm W ta) := ps_raise hc tk (pmk_leaf T hr ha hg hm hdb he hpl)
end
end L2

set_option Elab.async false
set_option linter.all false
set_option maxRecDepth 100000
set_option maxHeartbeats 2000000
/-! ### raise, with the context told -/
namespace L2
open PySem PySem.Spec PyProof.Rows
section
variable {X : Cx} {C fV fI : Addr} {nm : Str} {fs : List Str}
theorem pmk_leafN {x : Str} {a : Expr} {es : List Expr} {ta : TA} {p pos : Pos} {k : Nat} (T : PySem.VX.Leaf X.prog X.K X.mg C fV fI nm fs) (hr : Room k X.A) (ha : PA X (a :: es) ta) (hg : Gl X x) (hm : X.mg x = some (.ref C)) (hdb : (x == ("__debug__" : Str)) = false := by decide)
    (he : starEach (a :: es) X.env = (false, eval a X.env) :: starEach es X.env := by rfl) (hpl : (backTo pos (starEach es X.env)).any (·.1) = false := by rfl) :
    L2N.PMk X (.Call (.Name x p) (a :: es) [] pos) (tMkL C fs nm ta) := by
  intro pins s σ H Q I h
  refine wpAny_Call_Name_kw (ld_glob I hg hm ?_ hdb)
  refine PySem.W.callWith_K (h₀ := X.base) I.ok.mod.kin T.kind.kp (thn (ha.run pos pins s σ H _ I h) fun us s1 hh => ?_) he hpl
  obtain ⟨vs, H1, I1, r1, hl, q1⟩ := hh
  refine ⟨I1.kIn, ?_⟩
  show wpAny _ _ (call (.ref C) us) _ _ _
  have hlim := I1.nolimit
  obtain ⟨mb, hmb, hbb⟩ := I1.ok.mod.blt
  have hus : us.length = fs.length := by rw [← r1.length, hl]
  have KI := I1.kIn
  have Gs := I1.ok.mod.glob.keeps I1.bk
  have Bs := hmb.keeps I1.bk
  obtain ⟨hp, g, dr, tk, os⟩ := s1
  refine wpAny_call (PySem.VX.leaf_made T Gs Bs (hbb _ (by decide)) hus KI hlim (by have := hr.dp; omega) fun h' tk' e d M => ?_)
  show L2N.MkP X pins σ Q (.ref e) ⟨h', g, dr, tk', os⟩
  obtain ⟨oe, fv, hoe, hc, hd, hdat, h1, h2⟩ := M.obj
  obtain ⟨tw, hns⟩ := M.ns
  obtain ⟨G', g1, g2⟩ := restrict h' fun b => decide (b ≠ e)
  have gk : ∀ b, b ≠ e → G'.get? b = h'.get? b := fun b hb => g1 b (decide_eq_true hb)
  have ge : G'.get? e = none := g2 e (by simp)
  have old : ∀ b o, hp.get? b = some o → G'.get? b = some o := fun b o q => (gk b (Nat.ne_of_lt (Nat.lt_of_lt_of_le (Heap.lt_size q) M.new))).trans (M.keep b o q)
  have ob : ObjOk X.prog X.w (upd H1 d (.xd (excD fs nm vs))) G' d (.xd (excD fs nm vs)) :=
    ⟨_, hns.at (fun o q => (gk d M.ne).trans q), relO_putV r1 (relO_put (fs := []) ⟨tw, rfl⟩ fun g => True.intro)⟩
  have J : Inv X pins σ (upd H1 d (.xd (excD fs nm vs))) ⟨G', g, dr, tk', os⟩ := I1.laid (t' := tk') old M.big ob
  refine ⟨e, oe, fv, ⟨G', g, dr, tk', os⟩, _, .ref C, some d, rfl, J, fun b o q => ?_, ge, hoe, ⟨hc, hd, fun vs e => ?_⟩, hdat, h1, ?_, rfl, I1.bare, raises_own T.kind.ex T.kind.ty, q1 d (I1.hok.fresh M.big)⟩
  · by_cases hb : b = e
    · have q' : G'.get? b = some o := q
      rw [hb, ge] at q'
      cases q'
    · exact (gk b hb).symm.trans q
  · rw [hdat] at e
    cases e
    exact h2
  · rw [upd_ne (Ne.symm M.ne)]
    exact I1.hok.fresh M.new
theorem ps_raiseN {x : Str} {a : Expr} {es : List Expr} {ta : TA} {W : WX} {p pos pos2 : Pos} {k : Nat} (hc : X.calm = true) (T : PySem.VX.Leaf X.prog X.K X.mg C fV fI nm fs) (hr : Room k X.A) (tk : L2N.Takes X W) (hm : X.mg x = some (.ref C)) (ha : PA X (a :: es) ta) (hg : Gl X x := by rfl)
    (hdb : (x == ("__debug__" : Str)) = false := by decide) (he : starEach (a :: es) X.env = (false, eval a X.env) :: starEach es X.env := by rfl) (hpl : (backTo pos (starEach es X.env)).any (·.1) = false := by rfl) :
    PS X (.Raise (some (.Call (.Name x p) (a :: es) [] pos)) none pos2) (tRaiseL C fs nm W ta) := L2N.ps_raise hc tk (pmk_leafN T hr ha hg hm hdb he hpl)
end
/-! ### defs that are handed the handled exception, within its suite -/
open L2H
/-- as FnOk, the handled exception p told to the promise -/
structure FnE (P : Program) (w : World) (K : PySem.W.Frag) (mg : Str → Option Value) (base : Heap) (k : Nat) (f : Addr) (fd : FuncData) (ps : List Str) (sp : Addr × Obj → Sp) : Prop where
  len : ∀ p vs H Q E, sp p vs H Q E → vs.length = ps.length
  run : ∀ (A : Around) (outer : List Env) (s : Shared) (H : Hp) (args : Args) (us : List Value) (vs : List V) (Q : VK) (E : XK) (p : Addr × Obj), RoomH k A → Hot1 A p → PinOk outer H s p → Env0 P w K mg base A outer s H → BindsTo s fd args (ps.zip us) → Vals vs us → sp p vs H Q E →
    codeAny (model P w) A (.call (.ref f) args) (CR CX0 outer P w H s Q E) s
theorem Fun.okE {P : Program} {w : World} {K : PySem.W.Frag} {mg : Str → Option Value} {base : Heap} {x qual : Str} {st : Stmt} {f : Addr} {fd : FuncData} {N ps : List Str} {k : Nat} {sp : Addr × Obj → Sp} (F : Fun K x qual st f fd) (S : FnScope N ps (defScope st)) (len : ∀ p vs H Q E, sp p vs H Q E → vs.length = ps.length)
    (hbody : ∀ (cdv : Value) (A : Around) (outer : List Env) (s : Shared) (H : Hp) (vs : List V) (Q : VK) (E : XK) (p : Addr × Obj), Hot1 A p → RoomH k (A.deeper (envOfC qual (defScope st) s.heap.objs.size f cdv)) → sp p vs H Q E →
      ∃ t, PSs (cxH CX0 P w K mg base N qual (defScope st) f cdv A outer s H E p).nox (defBody st) t ∧ t { nx := fun _ H' => Q .non H', rt := Q } (start N vs) H) : FnE P w K mg base (k + 1) f fd ps sp := by
  obtain ⟨oc, od, kV, doc, pm, an, cdv, ct, osl, rfl, lk, hcd⟩ := F.ex
  refine ⟨len, fun A outer s H args us vs Q E p hr hot hpin e0 hb r hsp => ?_⟩
  have hl := len _ _ _ _ _ hsp
  have KX : K.In s.heap := e0.mod.kin.keeps fun b o e => (e0.bs b o e).1
  have lim : s.heap.NoLimit := e0.mod.nolimit.keeps fun b o e => (e0.bs b o e).1
  have hkind : ∀ y ∈ ps.zip us, (defScope st).names.lookup y.1 = some .local ∨ ((defScope st).names.lookup y.1 = some .cell ∧ ((cellsFrom (s.heap.objs.size + 1) (defScope st).names []).lookup y.1).isSome = true) := fun ⟨n, v⟩ hy =>
    (S.par n (List.of_mem_zip hy).1).elim .inl fun q => .inr ⟨q, PySem.W.cellsFrom_some _ _ _ (.inl q)⟩
  refine codeAny_call_function hr.depth (KX _ _ lk) rfl S.co S.gen rfl (PySem.W.codeRec_of KX hcd) (hb _ _ _ _ ?_)
  refine wpAny_newFunctionEnv_cells S.kind hkind fun env he s1 y => ?_
  subst he
  refine ⟨lim.keeps y.toInCall.keep, codeAny_func ?_⟩
  obtain ⟨t, ht, hq⟩ := hbody cdv A outer s H vs Q E p hot (hr.deeper _) hsp
  have I := inv_startH (CX := CX0) (E := E) S hpin e0 hl r y
  refine wpAny_mono (ht.nox.run [] s1 (start N vs) H _ I hq) (fun fl s' hs => ?_) fun e s' hs => hs
  cases fl with
  | ret u =>
    obtain ⟨v, σ', H', J, rv, q⟩ := hs
    exact ⟨v, H', J.os, J.bare, J.base, J.hok, rv, q⟩
  | next =>
    obtain ⟨σ', H', J, q⟩ := hs
    exact ⟨V.non, H', J.os, J.bare, J.base, J.hok, rfl, q⟩
  | brk =>
    obtain ⟨_, _, _, q⟩ := hs
    exact False.elim q
  | cont =>
    obtain ⟨_, _, _, q⟩ := hs
    exact False.elim q
section
variable {X : Cx} {k : Nat} {f : Addr} {fd : FuncData} {ps : List Str} {sp : Addr × Obj → Sp} {x : Str} {q pos : Pos} {e : Expr} {es : List Expr} {t : TA}
/-- f(e, ..) within the suite (or within a def called there); p the handled exception -/
def tCallE (sp : Addr × Obj → Sp) (p : Addr × Obj) (t : TA) : TE := fun σ H Q => t σ H fun vs H1 => sp p vs H1 Q E0
theorem pe_callE {p : Addr × Obj} (F : FnE X.prog X.w X.K X.mg X.base k f fd ps sp) (hr : RoomH k X.A) (hot : Hot1 X.A p) (hp : p ∈ X.pn) (hg : Gl X x) (hm : X.mg x = some (.ref f)) (hk : PySem.W.keepIn X.K (.ref f) = true) (hb : Binds X.K fd ps [])
    (ha : PA X (e :: es) t) (hdb : (x == ("__debug__" : Str)) = false := by decide) (he : starEach (e :: es) X.env = (false, eval e X.env) :: starEach es X.env := by rfl) (hpl : (backTo pos (starEach es X.env)).any (·.1) = false := by rfl) :
    PE X (.Call (.Name x q) (e :: es) [] pos) (tCallE sp p t) := by
  refine ⟨fun pins s σ H Q I h => ?_⟩
  refine wpAny_Call_Name_kw (ld_glob I hg hm ?_ hdb)
  refine PySem.W.callWith_K (h₀ := X.base) I.ok.mod.kin hk (thn (ha.run pos pins s σ H _ I h) fun us s1 ⟨vs, H1, J, r, hsp⟩ => ⟨J.kIn, ?_⟩) he hpl
  have hl : us.length = ps.length := by rw [← r.length]; exact F.len _ _ _ _ _ hsp
  have b := hb s1 us J.kIn (by rw [List.append_nil]; exact hl)
  rw [List.append_nil] at b
  have P1 := J.pin p (List.mem_append_left _ hp)
  have hpin : PinOk X.stack H1 s1 p := ⟨P1.1, P1.2.1, fun hm => (List.mem_cons.mp (J.stkSub p.1 hm)).elim P1.2.2.1 P1.2.2.2.1, P1.2.2.2.2⟩
  refine wpAny_call (codeAny_mono (F.run X.A X.stack s1 H1 ⟨us, []⟩ us vs Q E0 p hr hot hpin J.env0 b r hsp) fun r s' hq => ?_)
  cases r with
  | error e => exact False.elim hq
  | ok fl =>
    cases fl with
    | ret u => exact J.after hq
    | next => exact False.elim hq
    | brk => exact False.elim hq
    | cont => exact False.elim hq
/-! ### the handled exception's class and fields -/
/-- p is an exception of the class at C, its dict at d -/
def ExP (C d : Addr) (p : Addr × Obj) : Prop := Zc (.ref C) (some d) p.2 ∧ ∃ vs, p.2.data = .fields vs
theorem ExP.inst {C d : Addr} {p : Addr × Obj} {fs : List (Str × V)} {pins : List (Addr × Obj)} {σ : St} {H : Hp} {s : Shared} (z : ExP C d p) (hp : p ∈ X.pn) (I : Inv X pins σ H s) (hd : H d = some (.xd fs)) :
    ∃ od, PySem.W.InstAt s.heap p.1 p.2 C (some od) ∧ ∀ f v, fs.lookup f = some v → ∃ u, PySem.W.lookIn f od = some (some u) ∧ RelV v u := by
  obtain ⟨⟨h1, h2⟩, vs, h3⟩ := z
  have e := (I.pin p (List.mem_append_left _ hp)).1
  have hx : ObjOk X.prog X.w H s.heap d (.xd fs) := I.hok d _ hd
  obtain ⟨mA, hns, hr⟩ := hx
  obtain ⟨od, ho, hl⟩ := lookIn_ns hns
  refine ⟨od, ⟨e, h1, by unfold PySem.W.notCls; rw [h3] <;> rfl, by rw [h2]; exact ho⟩, fun f v hv => ?_⟩
  obtain ⟨u, hu, ru⟩ := RelO.some_of (v := v) (o := mA f) (by rw [← hv]; exact hr f)
  exact ⟨u, by rw [hl, hu], ru⟩
/-- isinstance(e, c), e the pinned exception -/
def rIsP (K : PySem.W.Frag) (C d : Addr) (p : Addr × Obj) : List V → Hp → VK → Prop := fun xs H Q => ∃ (c : V) (cv : Value) (b : Bool) (fs : List (Str × V)), xs = [.ref p.1, c] ∧ (∀ u, RelV c u → u = cv) ∧ PySem.W.kitOne K (.ref C) cv = some b ∧ H d = some (.xd fs) ∧ Q (.bl b) H
theorem call_isP {p : Addr × Obj} {C d : Addr} {nm : Str} (hp : p ∈ X.pn) (T : PySem.VX.Kind X.K C nm) (z : ExP C d p) : CallR X (.builtin "isinstance") (rIsP X.K C d p) := by
  intro pins s σ H xs us Q I r h
  obtain ⟨c, cv, b, fs, rfl, hcv, e, hd, q⟩ := h
  cases r with
  | cons rx rr =>
    cases rr with
    | cons rt rr =>
      cases rr
      cases rx
      have ec := hcv _ rt
      subst ec
      obtain ⟨od, J, _⟩ := z.inst hp I hd
      exact PySem.W.kia_one (PySem.W.kitx_exc T.some T.ga T.gg T.ex T.cl T.sp T.tk T.mo) I.kIn J e (fun z => nomatch z) fun tk => ⟨.bl b, H, I.kept (t' := tk) fun _ _ z => z, rfl, q⟩
/-- e.f, e the pinned exception -/
def tXp (C d : Addr) (p : Addr × Obj) (f : Str) (te : TE) : TE := fun σ H Q => te σ H fun x H1 => x = .ref p.1 ∧ ∃ (fs : List (Str × V)) (v : V), H1 d = some (.xd fs) ∧ fs.lookup f = some v ∧ Q v H1
theorem pe_xp {p : Addr × Obj} {C d : Addr} {nm : Str} {e : Expr} {te : TE} {pos : Pos} {n : Str} (hp : p ∈ X.pn) (T : PySem.VX.Kind X.K C nm) (z : ExP C d p) (hno : PySem.W.findIn X.K (.ref C) n = some none) (he : PE X e te) (hb : attributeBase e n X.env (eval e X.env) = eval e X.env := by rfl) :
    PE X (.Attribute e n pos) (tXp C d p n te) := by
  refine ⟨fun pins s σ H Q I h => ?_⟩
  refine attr_of hb (thn (he.run pins s σ H _ I h) fun u s1 hh => ?_)
  obtain ⟨x, H1, J, rx, ex, fs, v, hd, l, q⟩ := hh
  subst ex
  obtain rfl : u = Value.ref p.1 := rx
  obtain ⟨od, ia, look⟩ := z.inst hp J hd
  obtain ⟨w', hw, rw'⟩ := look n v l
  exact PySem.HandSPX.exc_get J.kIn ia T.ga T.gg T.ex (PySem.W.findObj_own T.hd hno rfl hw) (handed_of rw') ⟨v, H1, J.tok _, rw', q⟩
end
end L2

set_option Elab.async false
set_option linter.all false
set_option maxRecDepth 100000
set_option maxHeartbeats 2000000
namespace HotL
open PySem PySem.Spec PyProof.Rows HotX
section
variable {prog : Program} {w : World} {A : Around} {E : Value → Shared → Prop} {s : Shared}
/-- the end of a list's iterator, an exception being handled -/
theorem list_end_hot {it l x1 : Addr} {i : Nat} {items : Array Value} {Q : Option Value → Shared → Prop} (hot : HotAt A x1 s.heap) (h1i : x1 ≠ it) (hit : s.heap.IsListIter it l i) (hl : s.heap.IsList l items) (hx : items[i]? = none)
    (hQ : ∀ h', (∀ b o, b ≠ it → s.heap.get? b = some o → h'.get? b = some o) → Q none { s with heap := h' }) : wpAny (model prog w) A (pyNext (.ref it)) Q E s := by
  obtain ⟨o, ho, hc, hd⟩ := id hit
  obtain ⟨ol, hol, _, nl, hdl⟩ := hl
  obtain ⟨hh, o1, vs1, h1, d1, c1⟩ := hot
  unfold pyNext
  refine wpAny_bind (wpAny_attempt (wpAny_callSpecial?_slot (name := Str.ofString "__next__") hit.typeIs slot_listiter_next
    (wpAny_call_entry slot_listiter_next hit.typeIs entry_listiter_next ?_ (args_listiter_next _))))
  show wpAny _ _ (field (.ref it) 0 >>= _) _ _ s
  refine wpAny_bind (wpAny_field ho hd (x := .ref l) rfl ?_)
  show wpAny _ _ (if (Value.ref l == Value.none) = true then _ else _) _ _ s
  rw [if_neg (show ¬ ((Value.ref l == Value.none) = true) from Bool.false_ne_true)]
  show wpAny _ _ (field (.ref it) 1 >>= _) _ _ s
  refine wpAny_bind (wpAny_field ho hd (x := .int i 0) rfl ?_)
  show wpAny _ _ (seqItems? (.ref l) >>= _) _ _ s
  refine wpAny_bind (wpAny_seqItems hol hdl ?_)
  simp only [Int.toNat_natCast, hx]
  refine wpAny_bind (wpAny_rule (wpAny_bind (wpAny_setField ho hd (by simp) ?_)))
  show wpAny _ _ (newExc (.type "StopIteration") [] >>= _) _ _ _
  refine wpAny_bind ?_
  simp only [newExc, newTuple]
  refine wpAny_bind (wpAny_newObj_type ?_ (by size_fits))
  refine wpAny_bind (m := firstArgMember _ _) (wpAny_of_eq (a := Value.none) (by first | rfl | (simp only [firstArgMember]; rfl)) ?_)
  refine wpAny_newObj_type ?_ (by size_fits)
  have keep0 : ∀ b u, b ≠ it → s.heap.get? b = some u → (s.heap.update it (Obj.mapFields (·.setIfInBounds 0 .none))).get? b = some u := fun b u hb e => (Heap.get?_update_other _ _ (Ne.symm hb)).trans e
  have h1' := keep0 _ _ h1i h1
  refine raiseNew_hot ⟨hh, o1, vs1, Heap.get?_push_of_some _ (Heap.get?_push_of_some _ h1'), d1, c1⟩ (Nat.ne_of_lt (Heap.lt_size (Heap.get?_push_of_some _ h1'))) (Heap.get?_push_size _ rfl) rfl (by first | (simp; done) | (simp; omega) | (simp only [Array.size_append]; simp; omega)) ?_
  refine wpAny_bind (wpAny_isInstance (T := "StopIteration") (b := true) ⟨_, Heap.get?_update_self _ (Heap.get?_push_size _ rfl) rfl, rfl⟩ isSubtype_stop ?_)
  refine wpAny_pure (hQ _ fun b u hb e => ?_)
  rw [Heap.get?_update_other _ _ (Nat.ne_of_gt (Heap.lt_size (Heap.get?_push_of_some _ (keep0 _ _ hb e))))]
  exact Heap.get?_push_of_some _ (Heap.get?_push_of_some _ (keep0 _ _ hb e))
end
end HotL
namespace L2
open PySem PySem.Spec PyProof.Rows L2H HotX
section
variable {X : Cx}
/-- [elt for tg in iter if ..] over a list, while the exception of p is handled -/
theorem pe_lcE {p : Addr × Obj} {elt tg iter : Expr} {ifs : List Expr} {scope : Scope} {own : List (Str × Nat)} {pos : Pos} {tl : TE} {g : TG} {tt : TT} {te : TE} (hot : Hot1 X.A p) (hp : p ∈ X.pn) (hN : X.N.Nodup) (hl : PE X iter tl) (ok : BlkOk X.N X.env.scope scope own)
    (hg : ∀ (s : Shared) (H : Hp) (C : Addr) (cl : List (Str × Addr)) (fp : List Addr), PG (X.blk s H scope (compEnvC scope cl C X.env) fp) tg g) (ht : ∀ (s : Shared) (H : Hp) (C : Addr) (cl : List (Str × Addr)) (fp : List Addr), PTs (X.blk s H scope (compEnvC scope cl C X.env) fp) ifs tt)
    (he : ∀ (s : Shared) (H : Hp) (C : Addr) (cl : List (Str × Addr)) (fp : List Addr), PE (X.blk s H scope (compEnvC scope cl C X.env) fp) elt te) (hs : ∀ x, foldedSetIterable iter X.env x = pure x := by intro _; rfl) :
    PE X (.ListComp elt [⟨tg, iter, ifs, 0⟩] scope pos) (tLc (iList X.K tl) g tt te (own.map (·.2))) := by
  refine ⟨fun pins s σ H Q I h => ?_⟩
  rw [eval_ListComp]
  obtain ⟨hhd, hvs, hdat, hctx⟩ := hot
  have hfree : ∀ y ∈ scope.names, y.2 = .free → ∃ c, X.env.cells.lookup y.1 = some c := fun y hy e => (ok.free y hy e).elim (fun k => I.ok.has _ (.inl k)) fun k => I.ok.has _ (.inr k)
  refine wpAny_comprehension_free (use := none) rfl hs (closure_ok hfree) ok.kind (fun y hy e => by rw [ok.uniq y hy, e]) (thn (hl.run pins s σ H _ I h) fun v s1 ⟨xv, H1, I1, r1, q1⟩ => ?_)
  obtain ⟨a, ea, ⟨xs0, hq0⟩, q⟩ := q1
  subst ea
  cases r1
  obtain ⟨its0, rv0, pl0, hz0⟩ := I1.list hq0
  refine wpAny_pyIter_list pl0.isList ?_
  generalize hit0 : s1.heap.objs.size = it
  generalize hs2 : ({ s1 with heap := s1.heap.push { cls := .type "list_iterator", data := .fields #[.ref a, .int 0 0] } } : Shared) = s2
  have h2 : s2.heap = s1.heap.push { cls := .type "list_iterator", data := .fields #[.ref a, .int 0 0] } := by rw [← hs2]
  have I2 : Inv X pins σ H1 s2 := by
    rw [← hs2]
    exact I1.kept (t' := s1.toks) fun b o e => Heap.get?_push_of_some _ e
  have st2 : s2.heap.IsListIter it a 0 := by
    rw [h2, ← hit0]
    exact ⟨_, Heap.get?_push_size _ rfl, rfl, rfl⟩
  have f2 : FpOk X pins H1 it := by
    rw [← hit0]
    exact I1.fpOk (Nat.le_refl _) (I1.hok.fresh (Nat.le_refl _))
  refine wpAny_newObj_type (newEnv_comp ?_) (by show 0 ≤ sizeLine; decide)
  generalize hD : s2.heap.objs.size = D
  have hDn : H1 D = none := I2.hok.fresh (Nat.le_of_eq hD)
  obtain ⟨W, ⟨m0, w0⟩, turn⟩ := q D hDn
  generalize hs3 : ({ s2 with heap := s2.heap.push { cls := .type "list", data := .seq ([] : List Value).toArray } } : Shared) = s3
  have h3 : s3.heap = s2.heap.push { cls := .type "list", data := .seq ([] : List Value).toArray } := by rw [← hs3]
  have I3 : Inv X pins σ (upd H1 D (.lst [])) s3 := by
    rw [← hs3]
    refine I2.laid (t' := s2.toks) (fun b o e => Heap.get?_push_of_some _ e) (Nat.le_of_eq hD) ⟨Nat.zero_le _, [], 0, .nil, ?_⟩
    rw [← hD]
    exact Heap.get?_push_size _ rfl
  have itlt : it < s2.heap.objs.size := by
    obtain ⟨o, e, _⟩ := id st2
    exact Heap.lt_size e
  have itD : it ≠ D := by rw [← hD]; exact Nat.ne_of_lt itlt
  have f3 : ∀ b ∈ [it], FpOk X pins (upd H1 D (.lst [])) b ∧ b < s3.heap.objs.size := fun b hb => by
    obtain rfl : b = it := by simpa using hb
    exact ⟨⟨by rw [upd_ne itD]; exact f2.1, f2.2⟩, by rw [h3, Heap.size_push]; exact Nat.lt_succ_of_lt itlt⟩
  have st3 : s3.heap.IsListIter it a 0 := st2.at fun o e => by rw [h3]; exact Heap.get?_push_of_some _ e
  have I4 := block_start I3 ok hN f3
  have pg := hg s3 (upd H1 D (.lst [])) s3.heap.objs.size (cellsFrom (s3.heap.objs.size + 1) scope.names (cloFrom X.env.cells scope.names [])) [it]
  have pt := ht s3 (upd H1 D (.lst [])) s3.heap.objs.size (cellsFrom (s3.heap.objs.size + 1) scope.names (cloFrom X.env.cells scope.names [])) [it]
  have pe := he s3 (upd H1 D (.lst [])) s3.heap.objs.size (cellsFrom (s3.heap.objs.size + 1) scope.names (cloFrom X.env.cells scope.names [])) [it]
  show codeAny _ _ (.compStart (.ListComp elt [⟨tg, iter, ifs, 0⟩] scope pos) 0 (.ref it) (.ref D) (compEnvC scope (cellsFrom (s3.heap.objs.size + 1) scope.names (cloFrom X.env.cells scope.names [])) s3.heap.objs.size X.env)) (compPost (model X.prog X.w) X.A X.xe none _ (.ref D) s3.heap.objs.size) { s3 with heap := pushCells (s3.heap.push { cls := .type "dict", data := .dict #[] }) scope.names }
  have nit : (upd H1 D (.lst [])) it = none := (f3 it (by simp)).1.1
  generalize hce : compEnvC scope (cellsFrom (s3.heap.objs.size + 1) scope.names (cloFrom X.env.cells scope.names [])) s3.heap.objs.size X.env = ce at I4 pg pt pe ⊢
  have cL : ce.locals = s3.heap.objs.size := by subst hce; rfl
  generalize hH3 : upd H1 D (.lst []) = H3 at I3 I4 pg pt pe w0 nit f3
  generalize hs4 : ({ s3 with heap := pushCells (s3.heap.push { cls := .type "dict", data := .dict #[] }) scope.names } : Shared) = s4 at I4 ⊢
  have k34 : ∀ b o, s3.heap.get? b = some o → s4.heap.get? b = some o := fun b o e => by rw [← hs4]; exact pushCells_keeps _ _ _ _ (Heap.get?_push_of_some _ e)
  have st4 : s4.heap.IsListIter it a 0 := st3.at fun o e => k34 _ _ e
  -- the handled exception stands beside
  have P3 := I3.pin p (List.mem_append_left _ hp)
  have plt : p.1 < s3.heap.objs.size := Heap.lt_size P3.1
  have pne : p.1 ≠ it := fun z => (f2.2.2.2.2.2 p (List.mem_append_left _ hp)) z
  have I4' : Inv (X.blk s3 H3 scope ce [it]) [p] (wipe σ (own.map (·.2))) H3 s4 := I4.pins_of fun y hy => by
    obtain rfl : y = p := by simpa using hy
    refine ⟨k34 _ _ P3.1, P3.2.1, ?_, ?_, P3.2.2.2.2⟩
    · show y.1 ≠ ce.locals
      rw [cL]
      exact Nat.ne_of_lt plt
    · intro hm
      have hm' : y.1 ∈ frs X.stack := hm
      exact (List.mem_cons.mp (I3.stkSub y.1 hm')).elim P3.2.2.1 P3.2.2.2.1
  have stat : ∀ {σ' : St} {H' : Hp} {s' : Shared}, Inv (X.blk s3 H3 scope ce [it]) [p] σ' H' s' → H' it = none → FpOk (X.blk s3 H3 scope ce [it]) [p] H' it := fun {σ' H' s'} I' hn =>
    ⟨hn, (I'.ok.exf it (by simp)).1, I'.ok.exfs it (by simp), .inl (by simp), fun x c e => (I'.ok.exf it (by simp)).2 x c e, fun y hy => by
      obtain rfl : y = p := by simpa using hy
      exact pne⟩
  have loop : codeAny (model X.prog X.w) X.A (.compLoop (.ListComp elt [⟨tg, iter, ifs, 0⟩] scope pos) 0 (.ref it) (.ref D) ce) (compPost (model X.prog X.w) X.A X.xe none (EP X pins σ Q) (.ref D) s3.heap.objs.size) s4 := by
    refine compLoop_any (fun n s' => ∃ i H', Inv (X.blk s3 H3 scope ce [it]) [p] (wipe σ (own.map (·.2))) H' s' ∧ s'.heap.IsListIter it a i ∧ H' it = none ∧ W i n H') ?_ m0 ⟨0, H3, I4', st4, nit, w0⟩
    rintro n s5 ⟨i, H5, I5, st5, n5, w5⟩
    obtain ⟨g0, g1, g2, g3, g4, g5⟩ := stat I5 n5
    rcases turn i n H5 w5 with ⟨⟨xs, hq, hx⟩, qq⟩ | ⟨⟨xs, x0, hq, hx⟩, Nx, hNx, step⟩
    · obtain ⟨its, rv, pl, hz⟩ := I5.list hq
      have hl5 := rv.length
      have P5 := (I5.pin p (by simp)).1
      refine HotL.list_end_hot (A := X.A) ⟨hhd, p.2, hvs, P5, hdat, hctx⟩ pne st5 pl.isList (by simp; omega) fun h' eb => ?_
      have I6 := I5.turned (h' := h') (t' := s5.toks) (fun b o hb e => eb b o hb e) g0 g1 g3 g4 g5
      have I7 : Inv X pins σ H5 { s5 with heap := h' } := I3.call' (ch := [it]) I6.os I6.base I6.hok I6.bare fun b hb => ⟨(f3 b hb).1.2.2.2.1, (f3 b hb).1.2.1, (f3 b hb).1.2.2.2.2.1, (f3 b hb).1.2.2.2.2.2⟩
      have nC : H5 s3.heap.objs.size = none := by
        have z : H5 ce.locals = none := I6.free
        rw [cL] at z
        exact z
      obtain ⟨m, hn, _⟩ := I6.loc
      have hn : h'.Ns ce.locals m := hn
      rw [cL] at hn
      obtain ⟨e0, e1, e2, e3, e4, e5⟩ := I3.fpOk (Nat.le_refl _) nC
      exact ⟨m, hn, fun h'' sb => ⟨.ref D, H5, I7.turned (t' := s5.toks) (fun b o hb e => (sb.2 b hb).trans e) e0 e1 e3 e4 e5, rfl, qq⟩⟩
    · obtain ⟨its, rv, pl, hz⟩ := I5.list hq
      obtain ⟨u, hu, ru⟩ := rv.get hx
      refine wpAny_pyNext_list_item st5 pl.isList (x := u) (by simpa using hu) fun h' st' sb => ?_
      have I6 : Inv (X.blk s3 H3 scope ce [it]) [p] (wipe σ (own.map (·.2))) H5 { s5 with heap := h' } := I5.turned (t' := s5.toks) (fun b o hb e => (sb.2 b hb).trans e) g0 g1 g3 g4 g5
      obtain ⟨oi, ei, ci, di⟩ := id st'
      refine go_of (s := { s5 with heap := h' }) ei ci di (by decide) ?_
      have I7 : Inv (X.blk s3 H3 scope ce [it]) ([p] ++ pinsAt [it] h') (wipe σ (own.map (·.2))) H5 { s5 with heap := h' } := I6.pinned (fun b hb => by
        obtain rfl : b = it := by simpa using hb
        exact stat I6 n5) fun b hb => by
        obtain rfl : b = it := by simpa using hb
        exact ⟨oi, ei, fun v z => by rw [di] at z; cases z⟩
      refine thnF (pg.run _ _ _ H5 x0 u _ I7 ru (step x0 H5 ⟨rfl, fun ys hy => by rw [I6.list_inj hy hq]; exact hx⟩)) fun _ s8 ⟨σ8, H8, I8, hw8, q8⟩ => ?_
      refine thnF (pt.run _ s8 σ8 H8 _ I8 q8) fun b s9 ⟨H9, I9, q9⟩ => ?_
      have fin : ∀ {s' : Shared} {H' : Hp}, Inv (X.blk s3 H3 scope ce [it]) ([p] ++ pinsAt [it] h') σ8 H' s' → Nx H' → ∃ m, m < n ∧ ∃ i H', Inv (X.blk s3 H3 scope ce [it]) [p] (wipe σ (own.map (·.2))) H' s' ∧ s'.heap.IsListIter it a i ∧ H' it = none ∧ W i m H' := fun {s' H'} I' nx => by
        obtain ⟨m', hm, w'⟩ := hNx H' nx
        have pin' : ∀ o, h'.get? it = some o → s'.heap.get? it = some o ∧ H' it = none := fun o e =>
          let z := I'.pin (it, o) (List.mem_append_right _ (List.mem_append_right _ (mem_pinsAt (by simp) e)))
          ⟨z.1, z.2.1⟩
        have hl : (wipe σ (own.map (·.2))).length = σ8.length := by rw [← hw8, wipe_length]
        refine ⟨m', hm, i + 1, H', (I'.unpinned (pins := [p])).weak hl (fun j v e => ?_), st'.at fun o e => (pin' o e).1, (pin' oi ei).2, w'⟩
        rw [← hw8] at e
        exact (wipe_some e).1
      cases b with
      | false =>
        simp only [Bool.false_eq_true, if_false] at q9 ⊢
        exact fin I9 q9
      | true =>
        simp only [if_true] at q9 ⊢
        refine thnF (pe.run _ s9 σ8 H9 _ I9 q9) fun z s10 ⟨yv, H10, I10, r10, acc, hD10, hz10, nx⟩ => ?_
        exact app_ok (X := X.blk s3 H3 scope ce [it]) I10 hD10 hz10 r10 fun s11 I11 => fin I11 nx
  exact codeAny_compStart_list loop (wpAny_pyIter_listiter st4 loop)
end
end L2

set_option Elab.async false
set_option linter.all false
set_option maxRecDepth 100000
set_option maxHeartbeats 2000000
namespace VLR
open PySem PySem.Spec PyProof.Rows RT
section
variable {prog : Program} {w : World} {A : Around} {E : Value → Shared → Prop} {s : Shared}
/-- list.__init__(S, reversed list iterator) on an empty list S -/
theorem init_rev {R : Result → Shared → Prop} {it l S : Addr} {items : Array Value} (hh : A.handled = none) (hit : s.heap.IsRevIter it l ((items.size : Int) - 1)) (hl : s.heap.IsList l items) (hne : l ≠ it) (hn : items.size ≤ sizeLine)
    (hS : s.heap.get? S = some { cls := .type "list", data := .seq #[] }) (hSi : S ≠ it) (hSl : S ≠ l)
    (hR : ∀ (h' : Heap) (tk : Nat) (acc : Array Value) (c : Nat), (∀ b o, b ≠ S → b ≠ it → s.heap.get? b = some o → h'.get? b = some o) → h'.get? S = some { cls := .type "list", dict := none, data := .seq acc c, slots := #[] } →
      ItemsOf (fun i v => items[items.size - 1 - i]? = some v) acc items.size → R (.ok (.ret .none)) { s with heap := h', toks := tk }) :
    wpAny (model prog w) A.in1 (Builtin.«list.__init__» ⟨[.ref S, .ref it], []⟩)
      (fun fin s' => match fin with | .done f => R (.ok f) s' | .again c' => c'.quiet = true ∧ codeAny (model prog w) A c' R s') (fun e s' => R (.error e) s') s := by
  have hSf : S ∉ [it, l] := by simp only [List.mem_cons, List.not_mem_nil, or_false, not_or]; exact ⟨hSi, hSl⟩
  have W := (Walks.listRev (prog := prog) (w := w) (A := A.in1) hh it l hne items).toS
  show wpAny _ _ (Builtin.List.listItems (.ref S) >>= fun old => Builtin.List.listUpdate (.ref S) (fun _ => #[]) >>= fun _ => letGo old.toList.reverse >>= fun _ => Builtin.List.listExtendWith (.ref S) (.ref it) .none) _ _ s
  refine wpAny_bind ?_
  unfold Builtin.List.listItems
  refine wpAny_bind (wpAny_seqItems hS rfl (wpAny_pure ?_))
  refine wpAny_bind (m := updateSeq S (fun _ => #[])) (wpAny_updateSeq hS rfl ?_)
  have hS₂ := Heap.get?_update_self (Obj.mapSeq (fun _ => (#[] : Array Value))) hS rfl
  have other : ∀ b o, b ≠ S → s.heap.get? b = some o → (s.heap.update S (Obj.mapSeq (fun _ => (#[] : Array Value)))).get? b = some o := fun b o hb e => (Heap.get?_update_other _ _ (Ne.symm hb)).trans e
  refine wpAny_bind (wpAny_letGo ?_)
  obtain ⟨oi, hoi, ci, di⟩ := id hit
  have hit2 : (s.heap.update S (Obj.mapSeq (fun _ => (#[] : Array Value)))).IsRevIter it l ((items.size : Int) - 1) := hit.at fun o e => other _ _ (Ne.symm hSi) e
  have hl2 : (s.heap.update S (Obj.mapSeq (fun _ => (#[] : Array Value)))).IsList l items := by
    obtain ⟨ol, hol, r⟩ := id hl
    exact ⟨ol, other _ _ (Ne.symm hSl) hol, r⟩
  have hT : ({ s with heap := s.heap.update S (Obj.mapSeq (fun _ => (#[] : Array Value))) } : Shared).TypeIs (.ref it) "list_reverseiterator" := Heap.IsRevIter.typeIs (s := { s with heap := s.heap.update S (Obj.mapSeq (fun _ => (#[] : Array Value))) }) hit2
  have h1 : Builtin.List.listSameRef (.ref S) (.ref it) = false := by simp [Builtin.List.listSameRef, hSi]
  unfold Builtin.List.listExtendWith
  refine wpAny_bind (wpAny_typeOf hT ?_)
  rw [if_neg (by rw [h1]; decide)]
  refine wpAny_bind (wpAny_pyIter_revIter (s := { s with heap := s.heap.update S (Obj.mapSeq (fun _ => (#[] : Array Value))) }) hit2 ?_)
  refine wpAny_bind (wpAny_holding ?_)
  unfold Builtin.List.listLengthHint
  refine wpAny_bind (wpAny_specialOf hT nolen_lri ?_)
  show wpAny _ A.in1 (specialOf (Value.ref it) (Str.ofString "__length_hint__") >>= _) _ _ _
  refine wpAny_bind (wpAny_specialOf hT hint_lri ?_)
  generalize hid : ("list_reverseiterator.__length_hint__" : String) = id0
  wp_delta
  rw [show splitId id0 = some ("list_reverseiterator", "__length_hint__") from by subst hid; decide +kernel]
  subst hid
  refine wpAny_bind (wpAny_isInstance (b := true) hT (by rw [isSubtype_type]; kernel_rfl) ?_)
  refine wpAny_pure ?_
  rw [if_neg (by decide)]
  have e0 : ((items.size : Nat) : Int) - 1 - ((0 : Nat) : Int) = (items.size : Int) - 1 := by omega
  refine wpAny_pure ⟨plainId_quiet F.plain_extend_loop _, codeAny_extend_loopS W hn S hSf _ items.size 0 _ _ _ rfl (Nat.zero_le _) ⟨Nat.zero_le _, by rw [e0]; exact hit2, hl2⟩ hS₂ (ItemsOf.nil _) fun s' acc' c' hm hS' hacc => ?_⟩
  rw [Moved.eq_with hm]
  refine hR s'.heap s'.toks acc' c' (fun b o hb hi e => hm.heap b o (fun hmem => ?_) (other b o hb e)) hS' hacc
  rcases List.mem_cons.mp hmem with e' | hmem
  · exact hb e'
  · exact hi (List.mem_singleton.mp hmem)
theorem call_list_rev {it l : Addr} {items : Array Value} {Q : Value → Shared → Prop} (hh : A.handled = none) (hit : s.heap.IsRevIter it l ((items.size : Int) - 1)) (hl : s.heap.IsList l items) (hne : l ≠ it) (hn : items.size ≤ sizeLine)
    (hQ : ∀ (h' : Heap) (tk : Nat) (acc : Array Value) (c : Nat), (∀ b o, b ≠ it → s.heap.get? b = some o → h'.get? b = some o) → h'.get? s.heap.objs.size = some { cls := .type "list", dict := none, data := .seq acc c, slots := #[] } →
      ItemsOf (fun i v => items[items.size - 1 - i]? = some v) acc items.size → Q (.ref s.heap.objs.size) { s with heap := h', toks := tk }) :
    wpAny (model prog w) A (call (.type "list") [.ref it]) Q E s := by
  refine callType_codes (Q₁ := fun obj s₁ => obj = .ref s.heap.objs.size ∧ s₁ = { s with heap := s.heap.push { cls := .type "list", data := .seq #[] } }) F.called_list (F.typeCall_list_1 _) F.entry_list_init
    (code_list_new _ ⟨rfl, rfl⟩) fun obj s₁ h₁ => ?_
  obtain ⟨rfl, rfl⟩ := h₁
  have hS : (s.heap.push { cls := .type "list", data := .seq #[] }).get? s.heap.objs.size = some { cls := .type "list", data := .seq #[] } := Heap.get?_push_size _ rfl
  obtain ⟨oi, hoi, _⟩ := id hit
  obtain ⟨ol, hol, _⟩ := id hl
  refine ⟨⟨_, hS, rfl⟩, F.args_list_init_2 _ _, init_rev (A := A.in1) hh (hit.at fun o e => Heap.get?_push_of_some _ e) (hl.push _) hne hn hS (Nat.ne_of_gt (Heap.lt_size hoi)) (Nat.ne_of_gt (Heap.lt_size hol)) fun h' tk acc c k hS' hacc => ?_⟩
  exact ⟨rfl, hQ h' tk acc c (fun b o hb e => k b o (Nat.ne_of_lt (Heap.lt_size e)) hb (Heap.get?_push_of_some _ e)) hS' hacc⟩
end
end VLR
namespace L2
open PySem PySem.Spec PyProof.Rows RT
def tLstRev (K : PySem.W.Frag) (te : TE) : TE := fun σ H Q => te σ H fun v H1 => ∃ (a : Addr) (xs : List V), v = .ref a ∧ SqL K H1 a xs ∧ ∀ p, H1 p = none → Q (.ref p) (upd H1 p (.lst xs.reverse))
section
variable {X : Cx}
theorem pe_lstRev {e : Expr} {te : TE} {p p2 pos pos2 : Pos} (hc : X.calm = true) (hg : Gl X "list") (hm : X.mg "list" = none) (hg2 : Gl X "reversed") (hm2 : X.mg "reversed" = none) (he : PE X e te)
    (hs : starEach [e] X.env = (false, eval e X.env) :: starEach [] X.env := by rfl)
    (hs2 : starEach [.Call (.Name "reversed" p2) [e] [] pos2] X.env = (false, eval (.Call (.Name "reversed" p2) [e] [] pos2) X.env) :: starEach [] X.env := by rfl) :
    PE X (.Call (.Name "list" p) [.Call (.Name "reversed" p2) [e] [] pos2] [] pos) (tLstRev X.K te) := by
  refine ⟨fun pins s σ H Q I h => ?_⟩
  refine Call_ (ld_blt I hg hm boot_list (PyProof.Rows.callWith_type1 (args_cons (Call_ (ld_blt I hg2 hm2 PyProof.Rows.boot_reversed (PyProof.Rows.callWith_type1 (args_cons (thn (he.run pins s σ H _ I h) fun u s1 ⟨v, H1, I1, r1, q1⟩ => args_nil ?_) hs) hs rfl))) hs2) hs2 rfl))
  obtain ⟨a, xs, ev, hq, q⟩ := q1
  subst ev
  obtain rfl : u = Value.ref a := r1
  obtain ⟨its, rv, p', hz⟩ := I1.list hq
  refine call_reversed_list p'.isList (args_nil ?_)
  have k0 : ∀ b o, s1.heap.get? b = some o → (s1.heap.push (revObj a ((its.toArray.size : Int) - 1))).get? b = some o := fun b o e => Heap.get?_push_of_some _ e
  have I2 : Inv X pins σ H1 { s1 with heap := s1.heap.push (revObj a ((its.toArray.size : Int) - 1)) } := I1.kept (t' := s1.toks) k0
  obtain ⟨f0, f1, f2, f3, f4, f5⟩ := I1.fpOk (H' := H1) (b := s1.heap.objs.size) (Nat.le_refl _) (I1.hok.fresh (Nat.le_refl _))
  have hl := p'.isList
  obtain ⟨ol, hol, _⟩ := id hl
  have hne : a ≠ s1.heap.objs.size := Nat.ne_of_lt (Heap.lt_size hol)
  have hn : its.toArray.size ≤ sizeLine := by rw [List.size_toArray, ← rv.length]; exact hz
  have hsz : (s1.heap.push (revObj a ((its.toArray.size : Int) - 1))).objs.size = s1.heap.objs.size + 1 := Heap.size_push _ _
  refine VLR.call_list_rev (s := { s1 with heap := s1.heap.push (revObj a ((its.toArray.size : Int) - 1)) }) (I1.ok.hd hc) ⟨_, Heap.get?_push_size _ rfl, rfl, rfl⟩ (hl.push _) hne hn fun h' tk acc c hk hS hi => ?_
  have k1 : ∀ b o, s1.heap.get? b = some o → h'.get? b = some o := fun b o e => hk b o (Nat.ne_of_lt (Heap.lt_size e)) (k0 b o e)
  have hS' : h'.get? (s1.heap.objs.size + 1) = some { cls := .type "list", data := .seq acc.toList.toArray c } := by
    rw [Array.toArray_toList, ← hsz]
    exact hS
  have J : Inv X pins σ (upd H1 (s1.heap.objs.size + 1) (.lst xs.reverse)) { s1 with heap := h', toks := tk } :=
    I1.laid (t' := tk) k1 (Nat.le_succ _) (show ObjOk X.prog X.w _ _ _ (.lst xs.reverse) from ⟨by rw [List.length_reverse]; exact hz, acc.toList, c, vals_rev rv hi, hS'⟩)
  refine ⟨.ref (s1.heap.objs.size + 1), _, J, ?_, q _ (I1.hok.fresh (Nat.le_succ _))⟩
  show Value.ref (s1.heap.push (revObj a ((its.toArray.size : Int) - 1))).objs.size = _
  rw [hsz]
end
end L2

set_option Elab.async false
set_option linter.all false
set_option maxRecDepth 100000
set_option maxHeartbeats 2000000
namespace L2
open PySem PySem.Spec PyProof.Rows
/-- a def of the text: its function, its name in the module, how its arguments bind -/
structure Def (K : PySem.W.Frag) (mg : Str → Option Value) (x : Str) (st : Stmt) (ps : List Str) (f : Addr) (fd : FuncData) : Prop where
  fn : Fun K x x st f fd
  g : mg x = some (.ref f)
  b : Binds K fd ps []
theorem takesN0 {X : Cx} : L2N.Takes X (fun _ _ _ _ => False) := fun _ _ x => by
  obtain ⟨_, _, _, _, _, _, _, _, _, _, _, _, _, _, _, _, z⟩ := x
  exact z.elim
theorem Fun.okN {P : Program} {w : World} {K : PySem.W.Frag} {mg : Str → Option Value} {base : Heap} {x qual : Str} {st : Stmt} {f : Addr} {fd : FuncData} {N ps : List Str} {k : Nat} {sp : Sp} (F : Fun K x qual st f fd) (S : FnScope N ps (defScope st)) (len : ∀ vs H Q E, sp vs H Q E → vs.length = ps.length)
    (hbody : ∀ (cdv : Value) (A : Around) (outer : List Env) (s : Shared) (H : Hp) (vs : List V) (Q : VK) (E : XK), Room k (A.deeper (envOfC qual (defScope st) s.heap.objs.size f cdv)) → sp vs H Q E →
      ∃ t, PSs (cxOf (L2N.CX P w) P w K mg base N qual (defScope st) f cdv A outer s H E) (defBody st) t ∧ t { nx := fun _ H' => Q .non H', rt := Q } (start N vs) H) : FnOk P w K mg base (L2N.CX P w) (k + 1) f fd ps sp := by
  obtain ⟨oc, od, kV, doc, pm, an, cdv, ct, osl, rfl, lk, hcd⟩ := F.ex
  exact fn_of lk hcd S len fun A outer s H vs Q E hr hsp => hbody cdv A outer s H vs Q E hr hsp
/-- all but the list at st stands as it stood -/
def But (st : Addr) (H H' : Hp) : Prop := ∀ b o, b ≠ st → H b = some o → H' b = some o
theorem But.refl {st : Addr} {H : Hp} : But st H H := fun _ _ _ h => h
theorem But.trans {st : Addr} {H H1 H2 : Hp} (a : But st H H1) (b : But st H1 H2) : But st H H2 := fun c o n h => b c o n (a c o n h)
theorem But.set {st : Addr} {H : Hp} {o : HO} : But st H (upd H st o) := fun b u n e => by rw [upd_ne n]; exact e
theorem But.new {st p : Addr} {H : Hp} {o : HO} (h : H p = none) : But st H (upd H p o) := fun b u n e => by rw [upd_ne (ne_of_none e h)]; exact e
theorem But.of {st : Addr} {H H' : Hp} (h : Same H H') : But st H H' := fun b o _ e => h b o e
/-- the script's cells and the drawer's counters: a list of a list and ints -/
structure Store (H : Hp) (st : Addr) : Prop where
  ex : ∃ (cl : Addr) (ns : List Int) (a b c d e g : Int), H st = some (.lst [.ref cl, .int a, .int b, .int c, .int d, .int e, .int g]) ∧ H cl = some (.lst (ns.map V.int)) ∧ 0 ≤ a ∧ ns.length ≤ 63 ∧ cl ≠ st
theorem Store.some {H : Hp} {st : Addr} (S : Store H st) : ∃ o, H st = some o := by
  obtain ⟨_, _, _, _, _, _, _, _, h, _⟩ := S.ex
  exact ⟨_, h⟩
theorem Store.keep {H H' : Hp} {st : Addr} (S : Store H st) (h : Same H H') : Store H' st := by
  obtain ⟨cl, ns, a, b, c, d, e, g, h1, h2, h3⟩ := S.ex
  exact ⟨cl, ns, a, b, c, d, e, g, h _ _ h1, h _ _ h2, h3⟩
theorem But.free {st : Addr} {H H' : Hp} (a : But st H H') (S : Store H' st) {l : Addr} (h : H' l = Option.none) : H l = Option.none := by
  cases q : H l with
  | none => rfl
  | some o =>
    obtain ⟨u, hu⟩ := S.some
    have ne : l ≠ st := fun z => by rw [z, hu] at h; cases h
    rw [a l o ne q] at h
    cases h
theorem same_new {H : Hp} {p : Addr} {o : HO} (h : H p = none) : Same H (upd H p o) := fun b u e => by rw [upd_ne (ne_of_none e h)]; exact e
theorem of_dec {p : Prop} [Decidable p] (h : decide p = true) : p := of_decide_eq_true h
theorem of_ndec {p : Prop} [Decidable p] (h : ¬ decide p = true) : ¬ p := fun z => h (decide_eq_true z)
end L2
namespace L2
open PySem PySem.Spec PyProof.Rows
/-! ### sizes -/
theorem fm_lo {a m : Int} (h : 0 < m) : 0 ≤ a.fmod m := by
  rw [Int.fmod_eq_emod_of_nonneg _ (Int.le_of_lt h)]
  exact Int.emod_nonneg _ (by omega)
theorem fm_hi {a m : Int} (h : 0 < m) : a.fmod m < m := by
  rw [Int.fmod_eq_emod_of_nonneg _ (Int.le_of_lt h)]
  exact Int.emod_lt_of_pos _ h
theorem cm_fmod {a m b : Int} (h : 0 < m) (h2 : m ≤ 2 ^ 64) : CMul (a.fmod m) b := .inl ⟨by have := fm_lo (a := a) h; omega, by have := fm_hi (a := a) h; omega⟩
theorem cm_l {a b : Int} (h : -(2 ^ 64) < a) (h2 : a < 2 ^ 64) : CMul a b := .inl ⟨h, h2⟩
theorem cm_r {a b : Int} (h : -(2 ^ 64) < b) (h2 : b < 2 ^ 64) : CMul a b := .inr ⟨h, h2⟩
end L2
namespace L2
open PySem PySem.Spec PyProof.Rows
theorem Same.mut {H H' : Hp} {D : Addr} {o : HO} (e : Same H H') (h : H D = none) : Same H (upd H' D o) := fun b u z => by
  rw [upd_ne (ne_of_none z h)]
  exact e b u z
theorem take_one {α : Type} {l : List α} {i : Nat} {x : α} (h : l[i]? = some x) : l.take (i + 1) = l.take i ++ [x] := by
  rw [List.take_succ, h]
  rfl
end L2
namespace L2
open PySem PySem.Spec PyProof.Rows
/-- between a statement and the rest: a word Mid, from which the rest is shown once -/
def tMid (t u : TS) : TS := fun D σ H => ∃ R : St → Hp → Prop, t { D with nx := R } σ H ∧ ∀ σ' H', R σ' H' → u D σ' H'
theorem pss_mid {X : Cx} {st : Stmt} {more : List Stmt} {t u : TS} (a : PS X st t) (b : PSs X more u) : PSs X (st :: more) (tMid t u) := ⟨fun pins s σ H D I ⟨_, hm, hu⟩ =>
  wpAny_execs_cons (thn (a.run pins s σ H _ I hm) fun f s1 q => match f, q with
    | .next, ⟨σ', H', J, q⟩ => b.run pins s1 σ' H' D J (hu σ' H' q)
    | .ret _, q => q
    | .brk, q => q
    | .cont, q => q)⟩
/-- what the store holds at its places; reading and writing it -/
theorem upd2 {H : Hp} {a : Addr} {o u : HO} : upd (upd H a o) a u = upd H a u := upd_upd
end L2

set_option Elab.async false
set_option linter.all false
set_option maxRecDepth 100000
set_option maxHeartbeats 2000000
namespace K11
open PySem PySem.Spec PyProof.Rows L2
def top (i : Nat) : Stmt := PySem.Challenge.pw_holdingsshut_k11_least_steps_and_stops.main.body.getD i (.Pass ⟨0, 0, 0, 0⟩)
abbrev s_is_whole : Stmt := top 16
abbrev N_is_whole : List Str := ["value"]
abbrev p_is_whole : List Str := ["value"]
theorem sc_is_whole : FnScope N_is_whole p_is_whole (defScope s_is_whole) := ⟨rfl, rfl, rfl, by decide +kernel, rfl, by decide +kernel, by decide +kernel⟩
abbrev s_choose : Stmt := top 17
abbrev N_choose : List Str := ["n", "k", "many", "taken"]
abbrev p_choose : List Str := ["n", "k"]
theorem sc_choose : FnScope N_choose p_choose (defScope s_choose) := ⟨rfl, rfl, rfl, by decide +kernel, rfl, by decide +kernel, by decide +kernel⟩
abbrev s_need_cells : Stmt := top 19
abbrev N_need_cells : List Str := ["cells"]
abbrev p_need_cells : List Str := ["cells"]
theorem sc_need_cells : FnScope N_need_cells p_need_cells (defScope s_need_cells) := ⟨rfl, rfl, rfl, by decide +kernel, rfl, by decide +kernel, by decide +kernel⟩
abbrev s_rounds : Stmt := top 20
abbrev N_rounds : List Str := ["length", "cells", "many"]
abbrev p_rounds : List Str := ["length", "cells"]
theorem sc_rounds : FnScope N_rounds p_rounds (defScope s_rounds) := ⟨rfl, rfl, rfl, by decide +kernel, rfl, by decide +kernel, by decide +kernel⟩
abbrev s_least_steps : Stmt := top 21
abbrev N_least_steps : List Str := ["length", "cells", "many"]
abbrev p_least_steps : List Str := ["length", "cells"]
theorem sc_least_steps : FnScope N_least_steps p_least_steps (defScope s_least_steps) := ⟨rfl, rfl, rfl, by decide +kernel, rfl, by decide +kernel, by decide +kernel⟩
abbrev s_best_stop : Stmt := top 22
abbrev N_best_stop : List Str := ["length", "cells", "due", "stop"]
abbrev p_best_stop : List Str := ["length", "cells"]
theorem sc_best_stop : FnScope N_best_stop p_best_stop (defScope s_best_stop) := ⟨rfl, rfl, rfl, by decide +kernel, rfl, by decide +kernel, by decide +kernel⟩
abbrev s_store : Stmt := top 24
abbrev N_store : List Str := ["script", "seed", "cell"]
abbrev p_store : List Str := ["script"]
theorem sc_store : FnScope N_store p_store (defScope s_store) := ⟨rfl, rfl, rfl, by decide +kernel, rfl, by decide +kernel, by decide +kernel⟩
abbrev s_mix : Stmt := top 25
abbrev N_mix : List Str := ["n", "k", "x"]
abbrev p_mix : List Str := ["n", "k"]
theorem sc_mix : FnScope N_mix p_mix (defScope s_mix) := ⟨rfl, rfl, rfl, by decide +kernel, rfl, by decide +kernel, by decide +kernel⟩
abbrev s_take : Stmt := top 26
abbrev N_take : List Str := ["store", "many", "cell", "digit"]
abbrev p_take : List Str := ["store", "many"]
theorem sc_take : FnScope N_take p_take (defScope s_take) := ⟨rfl, rfl, rfl, by decide +kernel, rfl, by decide +kernel, by decide +kernel⟩
abbrev s_edge : Stmt := top 27
abbrev N_edge : List Str := ["store", "many", "way"]
abbrev p_edge : List Str := ["store", "many"]
theorem sc_edge : FnScope N_edge p_edge (defScope s_edge) := ⟨rfl, rfl, rfl, by decide +kernel, rfl, by decide +kernel, by decide +kernel⟩
abbrev s_odds : Stmt := top 28
abbrev N_odds : List Str := ["store", "many"]
abbrev p_odds : List Str := ["store", "many"]
theorem sc_odds : FnScope N_odds p_odds (defScope s_odds) := ⟨rfl, rfl, rfl, by decide +kernel, rfl, by decide +kernel, by decide +kernel⟩
abbrev s_pick : Stmt := top 29
abbrev N_pick : List Str := ["store", "items"]
abbrev p_pick : List Str := ["store", "items"]
theorem sc_pick : FnScope N_pick p_pick (defScope s_pick) := ⟨rfl, rfl, rfl, by decide +kernel, rfl, by decide +kernel, by decide +kernel⟩
abbrev s_length : Stmt := top 30
abbrev N_length : List Str := ["store", "way"]
abbrev p_length : List Str := ["store"]
theorem sc_length : FnScope N_length p_length (defScope s_length) := ⟨rfl, rfl, rfl, by decide +kernel, rfl, by decide +kernel, by decide +kernel⟩
abbrev s_cellcount : Stmt := top 31
abbrev N_cellcount : List Str := ["store"]
abbrev p_cellcount : List Str := ["store"]
theorem sc_cellcount : FnScope N_cellcount p_cellcount (defScope s_cellcount) := ⟨rfl, rfl, rfl, by decide +kernel, rfl, by decide +kernel, by decide +kernel⟩
abbrev s_badcells : Stmt := top 32
abbrev N_badcells : List Str := ["store"]
abbrev p_badcells : List Str := ["store"]
theorem sc_badcells : FnScope N_badcells p_badcells (defScope s_badcells) := ⟨rfl, rfl, rfl, by decide +kernel, rfl, by decide +kernel, by decide +kernel⟩
abbrev s_leastups : Stmt := top 33
abbrev N_leastups : List Str := ["n", "many", "total", "part", "q"]
abbrev p_leastups : List Str := ["n", "many"]
theorem sc_leastups : FnScope N_leastups p_leastups (defScope s_leastups) := ⟨rfl, rfl, rfl, by decide +kernel, rfl, by decide +kernel, by decide +kernel⟩
abbrev s_same : Stmt := top 34
abbrev N_same : List Str := ["one", "two", "key", "listed", "paired", "k"]
abbrev p_same : List Str := ["one", "two"]
theorem sc_same : FnScope N_same p_same (defScope s_same) := ⟨rfl, rfl, rfl, by decide +kernel, rfl, by decide +kernel, by decide +kernel⟩
abbrev s_kinds : Stmt := top 35
abbrev N_kinds : List Str := ["e", "rows", "row"]
abbrev p_kinds : List Str := ["e"]
theorem sc_kinds : FnScope N_kinds p_kinds (defScope s_kinds) := ⟨rfl, rfl, rfl, by decide +kernel, rfl, by decide +kernel, by decide +kernel⟩
abbrev s_clean : Stmt := top 36
abbrev N_clean : List Str := ["e", "base", "word"]
abbrev p_clean : List Str := ["e", "base", "word"]
theorem sc_clean : FnScope N_clean p_clean (defScope s_clean) := ⟨rfl, rfl, rfl, by decide +kernel, rfl, by decide +kernel, by decide +kernel⟩
abbrev s_binomial : Stmt := top 37
abbrev N_binomial : List Str := ["n", "k", "told", "j"]
abbrev p_binomial : List Str := ["n", "k"]
theorem sc_binomial : FnScope N_binomial p_binomial (defScope s_binomial) := ⟨rfl, rfl, rfl, by decide +kernel, rfl, by decide +kernel, by decide +kernel⟩
abbrev s_roundsof : Stmt := top 38
abbrev N_roundsof : List Str := ["n", "many", "r"]
abbrev p_roundsof : List Str := ["n", "many"]
theorem sc_roundsof : FnScope N_roundsof p_roundsof (defScope s_roundsof) := ⟨rfl, rfl, rfl, by decide +kernel, rfl, by decide +kernel, by decide +kernel⟩
abbrev s_stopsum : Stmt := top 39
abbrev N_stopsum : List Str := ["n", "many", "stop", "behind"]
abbrev p_stopsum : List Str := ["n", "many", "stop"]
theorem sc_stopsum : FnScope N_stopsum p_stopsum (defScope s_stopsum) := ⟨rfl, rfl, rfl, by decide +kernel, rfl, by decide +kernel, by decide +kernel⟩
abbrev s_stopof : Stmt := top 40
abbrev N_stopof : List Str := ["n", "many", "best", "least", "stop", "total"]
abbrev p_stopof : List Str := ["n", "many"]
theorem sc_stopof : FnScope N_stopof p_stopof (defScope s_stopof) := ⟨rfl, rfl, rfl, by decide +kernel, rfl, by decide +kernel, by decide +kernel⟩
abbrev s_edgelength : Stmt := top 41
abbrev N_edgelength : List Str := ["store", "many", "n"]
abbrev p_edgelength : List Str := ["store", "many"]
theorem sc_edgelength : FnScope N_edgelength p_edgelength (defScope s_edgelength) := ⟨rfl, rfl, rfl, by decide +kernel, rfl, by decide +kernel, by decide +kernel⟩
abbrev s_refusal : Stmt := top 42
abbrev N_refusal : List Str := ["e"]
abbrev p_refusal : List Str := ["e"]
theorem sc_refusal : FnScope N_refusal p_refusal (defScope s_refusal) := ⟨rfl, rfl, rfl, by decide +kernel, rfl, by decide +kernel, by decide +kernel⟩
abbrev s_said : Stmt := top 43
abbrev N_said : List Str := ["what", "n", "many", "e"]
abbrev p_said : List Str := ["what", "n", "many"]
theorem sc_said : FnScope N_said p_said (defScope s_said) := ⟨rfl, rfl, rfl, by decide +kernel, rfl, by decide +kernel, by decide +kernel⟩
abbrev s_dueof : Stmt := top 44
abbrev N_dueof : List Str := ["n", "many", "stop", "least", "total", "rows"]
abbrev p_dueof : List Str := ["n", "many"]
theorem sc_dueof : FnScope N_dueof p_dueof (defScope s_dueof) := ⟨rfl, rfl, rfl, by decide +kernel, rfl, by decide +kernel, by decide +kernel⟩
abbrev s_law : Stmt := top 45
abbrev N_law : List Str := ["script", "store", "asked", "k", "many", "n", "right", "rows", "what", "due", "odd", "bad", "told"]
abbrev p_law : List Str := ["script"]
theorem sc_law : FnScope N_law p_law (defScope s_law) := ⟨rfl, rfl, rfl, by decide +kernel, rfl, by decide +kernel, by decide +kernel⟩

/-- what the top has written: built-in names are free, each class stands where it stands -/
structure Txt (P : Program) (K : PySem.W.Frag) (mg : Str → Option Value) (C_VaultError C_TooMany C_NumberError C_BadPrime C_NoInverse C_NoNumber C_BadTable C_BadCells C_TextError C_ShapeError C_PlanError C_CourseError C_KnowError C_PaperError fV fI : Addr) : Prop where
  b_int : mg "int" = none
  b_bool : mg "bool" = none
  b_isinstance : mg "isinstance" = none
  b_range : mg "range" = none
  b_min : mg "min" = none
  b_max : mg "max" = none
  b_abs : mg "abs" = none
  b_len : mg "len" = none
  b_list : mg "list" = none
  b_reversed : mg "reversed" = none
  b_str : mg "str" = none
  b_dict : mg "dict" = none
  b_tuple : mg "tuple" = none
  b_ValueError : mg "ValueError" = none
  g_VaultError : mg "VaultError" = some (.ref C_VaultError)
  g_TooMany : mg "TooMany" = some (.ref C_TooMany)
  g_NumberError : mg "NumberError" = some (.ref C_NumberError)
  g_BadPrime : mg "BadPrime" = some (.ref C_BadPrime)
  g_NoInverse : mg "NoInverse" = some (.ref C_NoInverse)
  g_NoNumber : mg "NoNumber" = some (.ref C_NoNumber)
  g_BadTable : mg "BadTable" = some (.ref C_BadTable)
  g_BadCells : mg "BadCells" = some (.ref C_BadCells)
  g_TextError : mg "TextError" = some (.ref C_TextError)
  g_ShapeError : mg "ShapeError" = some (.ref C_ShapeError)
  g_PlanError : mg "PlanError" = some (.ref C_PlanError)
  g_CourseError : mg "CourseError" = some (.ref C_CourseError)
  g_KnowError : mg "KnowError" = some (.ref C_KnowError)
  g_PaperError : mg "PaperError" = some (.ref C_PaperError)
  lf_BadCells : PySem.VX.Leaf P K mg C_BadCells fV fI "BadCells" ["cells"]
  ix_BadCells : PySem.W.exmOne K (.ref C_BadCells) (.ref C_VaultError) = some true
  k_VaultError : PySem.W.kitOne K (.ref C_BadCells) (.ref C_VaultError) = some true
  k_TooMany : PySem.W.kitOne K (.ref C_BadCells) (.ref C_TooMany) = some false
  k_NumberError : PySem.W.kitOne K (.ref C_BadCells) (.ref C_NumberError) = some true
  k_BadPrime : PySem.W.kitOne K (.ref C_BadCells) (.ref C_BadPrime) = some false
  k_NoInverse : PySem.W.kitOne K (.ref C_BadCells) (.ref C_NoInverse) = some false
  k_NoNumber : PySem.W.kitOne K (.ref C_BadCells) (.ref C_NoNumber) = some false
  k_BadTable : PySem.W.kitOne K (.ref C_BadCells) (.ref C_BadTable) = some false
  k_BadCells : PySem.W.kitOne K (.ref C_BadCells) (.ref C_BadCells) = some true
  k_TextError : PySem.W.kitOne K (.ref C_BadCells) (.ref C_TextError) = some false
  k_ShapeError : PySem.W.kitOne K (.ref C_BadCells) (.ref C_ShapeError) = some false
  k_PlanError : PySem.W.kitOne K (.ref C_BadCells) (.ref C_PlanError) = some false
  k_CourseError : PySem.W.kitOne K (.ref C_BadCells) (.ref C_CourseError) = some false
  k_KnowError : PySem.W.kitOne K (.ref C_BadCells) (.ref C_KnowError) = some false
  k_PaperError : PySem.W.kitOne K (.ref C_BadCells) (.ref C_PaperError) = some false
  k_ValueError : PySem.W.kitOne K (.ref C_BadCells) (.type "ValueError") = some true
end K11

set_option Elab.async false
set_option linter.all false
set_option maxRecDepth 100000
set_option maxHeartbeats 4000000
set_option pp.deepTerms false
set_option pp.deepTerms.threshold 12
namespace K11
open PySem PySem.Spec PyProof.Rows L2
local macro_rules | `(tactic| walk_at "cm") => `(tactic| first | exact cm_r (by decide) (by decide) | exact cm_l (by decide) (by decide) | exact cm_fmod (by decide) (by decide) | exact cm_r (by omega) (by omega) | exact cm_l (by omega) (by omega))
local macro_rules | `(tactic| walk_at "dv") => `(tactic| first | exact ⟨by decide, by decide⟩ | exact ⟨by omega, by omega⟩)
local macro_rules | `(tactic| walk_at "r1") => `(tactic| first
  | refine ⟨_, rfl, ?_⟩ | refine ⟨_, _, rfl, rfl, ?_⟩ | refine Or.inl ⟨_, rfl, ?_⟩ | refine Or.inr ⟨_, rfl, ?_⟩
  | refine And.intro (a := CMul _ _) (by walk_at "cm") ?_ | refine And.intro (a := CDivN _ _) (by walk_at "dv") ?_ | refine And.intro (a := _ ≠ (0 : Int)) (by first | decide | omega) ?_ | refine And.intro (a := scal _ _ = true) rfl ?_ | refine ⟨_, _, _, _, rfl, rfl, SqL.of (by first | exact upd_same | assumption), rfl, ?_⟩ | refine ⟨_, _, _, _, rfl, rfl, (by first | exact upd_same | assumption), rfl, ?_⟩ | refine ⟨_, _, rfl, ?_⟩)
local macro_rules | `(tactic| walk_at "rd") => `(tactic| repeat walk_at "r1")
local macro_rules | `(tactic| walk_at "yes") => `(tactic| (change (if true = true then _ else _); rw [if_pos rfl]))
local macro_rules | `(tactic| walk_at "no") => `(tactic| (change (if false = true then _ else _); rw [if_neg Bool.false_ne_true]))

section
variable {P : Program} {w : World} {K : PySem.W.Frag} {mg : Str → Option Value} {base : Heap}
variable {C_VaultError C_TooMany C_NumberError C_BadPrime C_NoInverse C_NoNumber C_BadTable C_BadCells C_TextError C_ShapeError C_PlanError C_CourseError C_KnowError C_PaperError fV fI : Addr}
variable (T : Txt P K mg C_VaultError C_TooMany C_NumberError C_BadPrime C_NoInverse C_NoNumber C_BadTable C_BadCells C_TextError C_ShapeError C_PlanError C_CourseError C_KnowError C_PaperError fV fI)
include T

def spMix : Sp := fun vs H Q _ => ∃ n k : Int, vs = [.int n, .int k] ∧ ∀ r, Q (.int r) H
theorem ok_mix {f : Addr} {fd : FuncData} (F : Fun K "_law_mix" "_law_mix" s_mix f fd) : FnOk P w K mg base CX0 1 f fd p_mix spMix := by
  refine F.ok sc_mix (fun vs H Q E h => ?_) (fun cdv A outer s H vs Q E hr h => ?_)
  · obtain ⟨n, k, rfl, _⟩ := h
    rfl
  · obtain ⟨n, k, rfl, q⟩ := h
    refine ⟨_, (pss_cons (ps_set (i := 2) sc_mix.nd rfl (Or.inl rfl) (by exact (pe_op op_modN (pe_op op_add (pe_op op_add (pe_op op_mul (pe_callTy call_int1 (by rfl) T.b_int (by first | exact PySem.boot_int | decide +kernel) (pa_cons (pv 0) pa_nil)) pe_int) (pe_op op_mul (pe_callTy call_int1 (by rfl) T.b_int (by first | exact PySem.boot_int | decide +kernel) (pa_cons (pv 1) pa_nil)) pe_int)) pe_int) pe_int)))
      (pss_cons (ps_set (i := 2) sc_mix.nd rfl (Or.inl rfl) (by exact (pe_op op_modN (pe_op op_add (pe_op op_add (pe_op op_mul (pv 2) (pv 2)) (pe_op op_mul (pe_callTy call_int1 (by rfl) T.b_int (by first | exact PySem.boot_int | decide +kernel) (pa_cons (pv 1) pa_nil)) pe_int)) pe_int) pe_int)))
      (pss_cons (ps_set (i := 2) sc_mix.nd rfl (Or.inl rfl) (by exact (pe_op op_modN (pe_op op_add (pe_op op_add (pe_op op_mul (pv 2) (pv 2)) (pe_op op_mul (pe_op op_modN (pe_callTy call_int1 (by rfl) T.b_int (by first | exact PySem.boot_int | decide +kernel) (pa_cons (pv 0) pa_nil)) pe_int) pe_int)) (pe_op op_fdivN (pv 2) pe_int)) pe_int)))
      (pss_one (ps_ret (by exact (pe_op op_fdivN (pv 2) pe_int))))))), ?_⟩
    walk_at "rd"
    exact q _
omit T in
theorem cut63 (ns : List Int) : cutV (ns.map V.int) none (some 63) = (ns.take 63).map V.int := by
  unfold cutV
  rw [show (some (63 : Int)) = some ((63 : Nat) : Int) from rfl, HT.sIx_nat, HT.sIx_none, List.drop_zero, Nat.sub_zero, List.length_map, List.map_take]
  by_cases h : 63 ≤ ns.length
  · rw [Nat.min_eq_left h]
  · rw [Nat.min_eq_right (by omega), List.take_of_length_le (by rw [List.length_map]; omega), List.take_of_length_le (by rw [List.length_map]; omega)]
omit T in
theorem int_at {ns : List Int} {i : Nat} {y : V} (h : (ns.map V.int)[i]? = some y) : ∃ z, ns[i]? = some z ∧ y = V.int z := by
  rw [List.getElem?_map] at h
  cases e : ns[i]? with
  | none => rw [e] at h; cases h
  | some z => rw [e] at h; exact ⟨z, rfl, (Option.some.inj h).symm⟩
omit T in
theorem sz_le {n : Nat} (h : n ≤ 100000) : n ≤ sizeLine := Nat.le_trans h (by decide)
omit T in
theorem sz_lt {n : Nat} (h : n < 100000) : n < sizeLine := Nat.lt_of_lt_of_le h (by decide)
def spStore (K : PySem.W.Frag) : Sp := fun vs H Q _ => ∃ (a : Addr) (ns : List Int), vs = [.ref a] ∧ SqL K H a (ns.map V.int) ∧ ∀ st H', Store H' st → Same H H' → H st = none → Q (.ref st) H'
theorem ok_store {f : Addr} {fd : FuncData} (F : Fun K "_law_store" "_law_store" s_store f fd) : FnOk P w K mg base CX0 1 f fd p_store (spStore K) := by
  refine F.ok sc_store (fun vs H Q E h => ?_) (fun cdv A outer s H vs Q E hr h => ?_)
  · obtain ⟨a, ns, rfl, _⟩ := h
    rfl
  · obtain ⟨a, ns, rfl, hS, q⟩ := h
    refine ⟨_, (pss_cons (ps_set (i := 1) sc_store.nd rfl (Or.inl rfl) (by exact pe_int))
      (pss_cons (ps_for PassesOwn.never rfl (pi_list (pe_slice sl_list (pv 0) po_none (po_some pe_int))) (pg_name (i := 2) sc_store.nd rfl (Or.inl rfl)) (pss_one (ps_set (i := 1) sc_store.nd rfl (Or.inl rfl) (by exact (pe_op op_modN (pe_op op_add (pe_op op_add (pe_op op_add (pe_op op_mul (pv 1) pe_int) (pe_op op_mul (pe_callB call_abs (by rfl) T.b_abs (by first | exact PySem.boot_abs | decide +kernel) (pa_cons (pe_callTy call_int1 (by rfl) T.b_int (by first | exact PySem.boot_int | decide +kernel) (pa_cons (pv 2) pa_nil)) pa_nil)) pe_int)) (pe_callTy call_int1 (by rfl) T.b_int (by first | exact PySem.boot_int | decide +kernel) (pa_cons (pe_cmpR op_lt (pe_callTy call_int1 (by rfl) T.b_int (by first | exact PySem.boot_int | decide +kernel) (pa_cons (pv 2) pa_nil)) pe_int (nomark _)) pa_nil))) pe_int) pe_int)))))
      (pss_one (ps_ret (by exact (pe_lst (pa_cons (pe_lc (own := [("cell", 2)]) (g := gName 2) rfl sc_store.nd (pi_list (pe_slice sl_list (pv 0) po_none (po_some pe_int))) (blkOk_by (own := [("cell", 2)]) (N := N_store) (sc := defScope s_store) (by decide +kernel)) (fun _ _ _ _ _ => pg_name (i := 2) sc_store.nd rfl (Or.inl rfl)) (fun _ _ _ _ _ => pts_nil) (fun _ _ _ _ _ => (pe_callTy call_int1 (by rfl) T.b_int (by first | exact PySem.boot_int | decide +kernel) (pa_cons (pv 2) pa_nil)))) (pa_cons pe_int (pa_cons pe_int (pa_cons pe_int (pa_cons pe_int (pa_cons pe_int (pa_cons (pv 1) pa_nil))))))))))))), ?_⟩
    refine ⟨_, rfl, 63, rfl, a, _, rfl, hS, fun p hp => ?_⟩
    rw [cut63]
    refine ⟨p, rfl, ⟨_, SqL.of upd_same⟩, for_list (K := K) (a := p) (xs := (ns.take 63).map V.int) (fun i σ H' => ∃ (sd : Int) (v : Option V), σ = [some (.ref a), some (.int sd), v] ∧ H' = upd H p (.lst ((ns.take 63).map V.int)) ∧ -(2 ^ 40) < sd ∧ sd < 2 ^ 40) ⟨1009, none, rfl, rfl, by decide, by decide⟩ (fun i σ H' _ ⟨_, _, _, e, _⟩ => by rw [e]; exact SqL.of upd_same) ?_ ?_⟩
    · rintro i y σ H' hi ⟨sd, v, rfl, rfl, h1, h2⟩
      obtain ⟨z, _, rfl⟩ := int_at hi
      walk_at "rd"
      exact ⟨Int.lt_of_lt_of_le (by decide) (fm_lo (by decide)), Int.lt_of_lt_of_le (fm_hi (by decide)) (by decide)⟩
    · rintro σ H' ⟨sd, v, rfl, rfl, _⟩
      have s1 : Same H (upd H p (.lst ((ns.take 63).map V.int))) := same_new hp
      refine ⟨_, rfl, 63, rfl, a, _, rfl, s1.seq hS, fun p2 hp2 => ?_⟩
      rw [cut63]
      have s2 : Same H (upd (upd H p (.lst ((ns.take 63).map V.int))) p2 (.lst ((ns.take 63).map V.int))) := s1.trans (same_new hp2)
      generalize hH2 : upd (upd H p (.lst ((ns.take 63).map V.int))) p2 (.lst ((ns.take 63).map V.int)) = H2 at s2
      have e2 : H2 p2 = some (.lst ((ns.take 63).map V.int)) := by rw [← hH2]; exact upd_same
      refine ⟨p2, rfl, ⟨_, SqL.of e2⟩, fun D hD => lc_list (K := K) (a := p2) (xs := (ns.take 63).map V.int) (fun i H' => Same H2 H' ∧ H' D = some (.lst ((ns.take 63).map V.int |>.take i))) ⟨same_new hD, upd_same⟩ (fun i H' _ ⟨e, _⟩ => SqL.of (e _ _ e2)) ?_ ?_⟩
      · rintro i y H' hi ⟨e3, e4⟩
        obtain ⟨z, hz, rfl⟩ := int_at hi
        refine ⟨rfl, ?_⟩
        refine ⟨_, rfl, .inl ⟨z, rfl, _, e4, sz_lt ?_, e3.mut hD, ?_⟩⟩
        · rw [List.length_take, List.length_map, List.length_take]
          omega
        · rw [upd_same, take_one hi]
      · rintro H' ⟨e3, e4⟩
        rw [List.take_length] at e4
        refine ⟨_, rfl, sz_le (by show 7 ≤ 100000; decide), fun st hst => ?_⟩
        have hDst : D ≠ st := ne_of_none e4 hst
        have s3 : Same H (upd H' st (.lst [.ref D, .int 0, .int 0, .int 0, .int 0, .int 0, .int sd])) := (s2.trans e3).trans (same_new hst)
        exact q st _ ⟨D, ns.take 63, 0, 0, 0, 0, 0, sd, upd_same, by rw [upd_ne hDst]; exact e4, Int.le_refl 0, by rw [List.length_take]; omega, hDst⟩ s3 ((s2.trans e3).free hst)
/-- a number from 0 to below the greater of 1 and m; the drawer has moved on -/
def spTake : Sp := fun vs H Q _ => ∃ (st : Addr) (m : Int), vs = [.ref st, .int m] ∧ m < 1000000000 ∧ Store H st ∧ ∀ d H', 0 ≤ d → d < (if m > 1 then m else 1) → Store H' st → But st H H' → Q (.int d) H'
theorem ok_take {f : Addr} {fd : FuncData} (F : Fun K "_law_take" "_law_take" s_take f fd) {f_mix : Addr} {fd_mix : FuncData} (D_mix : Def K mg "_law_mix" s_mix p_mix f_mix fd_mix) (G_mix : FnOk P w K mg base CX0 1 f_mix fd_mix p_mix spMix) : FnOk P w K mg base CX0 2 f fd p_take spTake := by
  refine F.ok sc_take (fun vs H Q E h => ?_) (fun cdv A outer s H vs Q E hr h => ?_)
  · obtain ⟨st, m, rfl, _⟩ := h
    rfl
  · obtain ⟨st, m, rfl, hm, S, q⟩ := h
    obtain ⟨cl, ns, a, b, c, d, e, g, h1, h2, ha, hlen, hne⟩ := S.ex
    refine ⟨_, (pss_cons (ps_set (i := 1) sc_take.nd rfl (Or.inl rfl) (by exact (pe_callB (call_max2 rfl) (by rfl) T.b_max (by first | exact PySem.boot_max | decide +kernel) (pa_cons pe_int (pa_cons (pe_callTy call_int1 (by rfl) T.b_int (by first | exact PySem.boot_int | decide +kernel) (pa_cons (pv 1) pa_nil)) pa_nil)))))
      (pss_cons (ps_asg (by exact (pe_op op_add (pe_callTy call_int1 (by rfl) T.b_int (by first | exact PySem.boot_int | decide +kernel) (pa_cons (pe_ix ix_list (pv 0) pe_int (fun _ _ => rfl)) pa_nil)) pe_int)) (pg_sub (pv 0) pe_int set_list))
      (pss_mid (ps_if (PW.pt (pw_and (pt_cmpR op_eq (pe_callTy call_int1 (by rfl) T.b_int (by first | exact PySem.boot_int | decide +kernel) (pa_cons (pe_ix ix_list (pv 0) pe_int (fun _ _ => rfl)) pa_nil)) pe_int (nomark _)) (pw_and (pt_cmpR op_eq (pe_callTy call_int1 (by rfl) T.b_int (by first | exact PySem.boot_int | decide +kernel) (pa_cons (pe_ix ix_list (pv 0) pe_int (fun _ _ => rfl)) pa_nil)) pe_int (nomark _)) (pw_and1 (pt_cmpR op_lt (pe_callTy call_int1 (by rfl) T.b_int (by first | exact PySem.boot_int | decide +kernel) (pa_cons (pe_ix ix_list (pv 0) pe_int (fun _ _ => rfl)) pa_nil)) (pe_callB call_len_seq (by rfl) T.b_len (by first | exact PySem.boot_len | decide +kernel) (pa_cons (pe_ix ix_list (pv 0) pe_int (fun _ _ => rfl)) pa_nil)) (nomark _)))))) (pss_cons (ps_set (i := 2) sc_take.nd rfl (Or.inl rfl) (by exact (pe_callTy call_int1 (by rfl) T.b_int (by first | exact PySem.boot_int | decide +kernel) (pa_cons (pe_ix ix_list (pe_ix ix_list (pv 0) pe_int (fun _ _ => rfl)) (pe_ix ix_list (pv 0) pe_int (fun _ _ => rfl)) (fun _ _ => rfl)) pa_nil))))
          (pss_cons (ps_asg (by exact (pe_op op_add (pe_callTy call_int1 (by rfl) T.b_int (by first | exact PySem.boot_int | decide +kernel) (pa_cons (pe_ix ix_list (pv 0) pe_int (fun _ _ => rfl)) pa_nil)) pe_int)) (pg_sub (pv 0) pe_int set_list))
          (pss_one (ps_if (pt_cmpR op_ge (pe_callB call_abs (by rfl) T.b_abs (by first | exact PySem.boot_abs | decide +kernel) (pa_cons (pv 2) pa_nil)) (pe_op op_pow pe_int pe_int) (nomark _)) (pss_one (ps_asg (by exact (pe_callB call_abs (by rfl) T.b_abs (by first | exact PySem.boot_abs | decide +kernel) (pa_cons (pv 2) pa_nil))) (pg_sub (pv 0) pe_int set_list))) (pss_cons (ps_asg (by exact pe_int) (pg_sub (pv 0) pe_int set_list))
              (pss_one (ps_asg (by exact (pe_op op_add (pe_op op_mul (pe_callB call_abs (by rfl) T.b_abs (by first | exact PySem.boot_abs | decide +kernel) (pa_cons (pv 2) pa_nil)) pe_int) (pe_callTy call_int1 (by rfl) T.b_int (by first | exact PySem.boot_int | decide +kernel) (pa_cons (pe_cmpR op_lt (pv 2) pe_int (nomark _)) pa_nil)))) (pg_sub (pv 0) pe_int set_list)))))))) pss_nil)
      (pss_mid (ps_if (pt_cmpR op_gt (pe_callTy call_int1 (by rfl) T.b_int (by first | exact PySem.boot_int | decide +kernel) (pa_cons (pe_ix ix_list (pv 0) pe_int (fun _ _ => rfl)) pa_nil)) pe_int (nomark _)) (pss_cons (ps_set (i := 3) sc_take.nd rfl (Or.inl rfl) (by exact (pe_op op_modN (pe_callTy call_int1 (by rfl) T.b_int (by first | exact PySem.boot_int | decide +kernel) (pa_cons (pe_ix ix_list (pv 0) pe_int (fun _ _ => rfl)) pa_nil)) (pv 1))))
          (pss_cons (ps_asg (by exact (pe_op op_fdivN (pe_callTy call_int1 (by rfl) T.b_int (by first | exact PySem.boot_int | decide +kernel) (pa_cons (pe_ix ix_list (pv 0) pe_int (fun _ _ => rfl)) pa_nil)) (pv 1))) (pg_sub (pv 0) pe_int set_list))
          (pss_one (ps_ret (by exact (pv 3)))))) pss_nil)
      (pss_mid (ps_if (pt_cmpR op_gt (pe_callTy call_int1 (by rfl) T.b_int (by first | exact PySem.boot_int | decide +kernel) (pa_cons (pe_ix ix_list (pv 0) pe_int (fun _ _ => rfl)) pa_nil)) pe_int (nomark _)) (pss_cons (ps_asg (by exact (pe_op op_sub (pe_callTy call_int1 (by rfl) T.b_int (by first | exact PySem.boot_int | decide +kernel) (pa_cons (pe_ix ix_list (pv 0) pe_int (fun _ _ => rfl)) pa_nil)) pe_int)) (pg_sub (pv 0) pe_int set_list))
          (pss_one (ps_ret (by exact (pe_op op_modN (pe_call G_mix (hr.mono (by decide)) rfl D_mix.g D_mix.fn.kp D_mix.b .nil pass0 (pa_cons (pe_callTy call_int1 (by rfl) T.b_int (by first | exact PySem.boot_int | decide +kernel) (pa_cons (pe_ix ix_list (pv 0) pe_int (fun _ _ => rfl)) pa_nil)) (pa_cons (pe_callTy call_int1 (by rfl) T.b_int (by first | exact PySem.boot_int | decide +kernel) (pa_cons (pe_ix ix_list (pv 0) pe_int (fun _ _ => rfl)) pa_nil)) pa_nil))) (pv 1)))))) pss_nil)
      (pss_one (ps_ret (by exact (pe_op op_modN (pe_call G_mix (hr.mono (by decide)) rfl D_mix.g D_mix.fn.kp D_mix.b .nil pass0 (pa_cons (pe_callTy call_int1 (by rfl) T.b_int (by first | exact PySem.boot_int | decide +kernel) (pa_cons (pe_ix ix_list (pv 0) pe_int (fun _ _ => rfl)) pa_nil)) (pa_cons (pe_callTy call_int1 (by rfl) T.b_int (by first | exact PySem.boot_int | decide +kernel) (pa_cons (pe_ix ix_list (pv 0) pe_int (fun _ _ => rfl)) pa_nil)) pa_nil))) (pv 1)))))))))), ?_⟩
    walk_at "rd"
    generalize hM : (if m > 1 then m else 1) = M at q
    have hM0 : 0 < M := by rw [← hM]; split <;> omega
    have hM1 : M < 1000000000 := by rw [← hM]; split <;> omega
    -- every write to the store keeps it one
    have put : ∀ (a b c d e g : Int), 0 ≤ a → Store (upd H st (.lst [.ref cl, .int a, .int b, .int c, .int d, .int e, .int g])) st ∧ But st H (upd H st (.lst [.ref cl, .int a, .int b, .int c, .int d, .int e, .int g])) :=
      fun a b c d e g ha => ⟨⟨cl, ns, a, b, c, d, e, g, upd_same, by rw [upd_ne hne]; exact h2, ha, hlen, hne⟩, .set⟩
    refine ⟨fun σ H' => ∃ (v : Option V) (a b c d e g : Int), σ = [some (.ref st), some (.int M), v, none] ∧ H' = upd H st (.lst [.ref cl, .int a, .int b, .int c, .int d, .int e, .int g]) ∧ 0 ≤ a, ?_, ?_⟩
    · have fin : ∀ {σ : L2.St} {H' : Hp} (v : Option V) (a b c d e g : Int), 0 ≤ a → σ = [some (.ref st), some (.int M), v, none] → H' = upd H st (.lst [.ref cl, .int a, .int b, .int c, .int d, .int e, .int g]) →
          ∃ (v : Option V) (a b c d e g : Int), σ = [some (.ref st), some (.int M), v, none] ∧ H' = upd H st (.lst [.ref cl, .int a, .int b, .int c, .int d, .int e, .int g]) ∧ 0 ≤ a := fun v a b c d e g h1 h2 h3 => ⟨v, a, b, c, d, e, g, h2, h3, h1⟩
      have hcl : ∀ o, (upd H st o) cl = some (.lst (ns.map V.int)) := fun o => by rw [upd_ne hne]; exact h2
      walk_at "rd"
      refine ite2 (fun hc => ?_) (fun hc => fin none _ _ _ _ _ _ ha rfl rfl)
      walk_at "rd"
      refine ite2 (fun hc => ?_) (fun hc => fin none _ _ _ _ _ _ ha rfl rfl)
      walk_at "rd"
      refine ⟨_, _, rfl, .inl (SqL.of (hcl _)), ?_⟩
      walk_at "rd"
      refine ite2 (fun hc => ?_) (fun hc => fin none _ _ _ _ _ _ ha rfl rfl)
      have hlt : a < ns.length := by
        have z := of_decide_eq_true hc
        rw [List.length_map] at z
        exact z
      obtain ⟨j, rfl⟩ : ∃ j : Nat, a = (j : Int) := ⟨a.toNat, by omega⟩
      have hj : j < ns.length := by omega
      walk_at "rd"
      refine ⟨_, _, _, _, rfl, rfl, SqL.of (hcl _), atI_nat (by rw [List.getElem?_map, List.getElem?_eq_getElem hj]; rfl), ?_⟩
      walk_at "rd"
      refine ⟨⟨by decide, by decide, by decide⟩, ?_⟩
      walk_at "rd"
      refine ite2 (fun hc => ?_) (fun hc => ?_)
      · walk_at "rd"
        rw [upd2, upd2]
        exact fin (some (.int ns[j])) (j + 1) _ _ _ _ _ (by omega) rfl rfl
      · walk_at "rd"
        rw [upd2, upd2, upd2]
        exact fin (some (.int ns[j])) (j + 1) _ _ _ _ _ (by omega) rfl rfl
    · rintro σ' H' ⟨v, a', b', c', d', e', g', rfl, rfl, ha'⟩
      refine ⟨fun σ H' => ∃ (v : Option V) (a b c d e g : Int), σ = [some (.ref st), some (.int M), v, none] ∧ H' = upd H st (.lst [.ref cl, .int a, .int b, .int c, .int d, .int e, .int g]) ∧ 0 ≤ a, ?_, ?_⟩
      · walk_at "rd"
        refine ite2 (fun hc => ?_) (fun hc => ⟨v, a', b', c', d', e', g', rfl, rfl, ha'⟩)
        walk_at "rd"
        show Q (.int (b'.fmod M)) _
        rw [upd2]
        obtain ⟨p1, p2⟩ := put a' (b'.fdiv M) c' d' e' g' ha'
        exact q _ _ (fm_lo hM0) (fm_hi hM0) p1 p2
      · rintro σ' H' ⟨v, a', b', c', d', e', g', rfl, rfl, ha'⟩
        refine ⟨fun σ H' => ∃ (v : Option V) (a b c d e g : Int), σ = [some (.ref st), some (.int M), v, none] ∧ H' = upd H st (.lst [.ref cl, .int a, .int b, .int c, .int d, .int e, .int g]) ∧ 0 ≤ a, ?_, ?_⟩
        · walk_at "rd"
          refine ite2 (fun hc => ?_) (fun hc => ⟨v, a', b', c', d', e', g', rfl, rfl, ha'⟩)
          walk_at "rd"
          intro r
          walk_at "rd"
          show Q (.int (r.fmod M)) _
          rw [upd2]
          obtain ⟨p1, p2⟩ := put a' b' (c' - 1) d' e' g' ha'
          exact q _ _ (fm_lo hM0) (fm_hi hM0) p1 p2
        · rintro σ' H' ⟨v, a', b', c', d', e', g', rfl, rfl, ha'⟩
          walk_at "rd"
          intro r
          walk_at "rd"
          obtain ⟨p1, p2⟩ := put a' b' c' d' e' g' ha'
          exact q _ _ (fm_lo hM0) (fm_hi hM0) p1 p2
end
end K11

set_option Elab.async false
set_option linter.all false
set_option maxRecDepth 100000
set_option maxHeartbeats 4000000
set_option pp.deepTerms false
set_option pp.deepTerms.threshold 12
namespace K11
open PySem PySem.Spec PyProof.Rows L2
local macro_rules | `(tactic| walk_at "cm") => `(tactic| first | exact cm_r (by decide) (by decide) | exact cm_l (by decide) (by decide) | exact cm_fmod (by decide) (by decide) | exact cm_r (by omega) (by omega) | exact cm_l (by omega) (by omega))
local macro_rules | `(tactic| walk_at "dv") => `(tactic| first | exact ⟨by decide, by decide⟩ | exact ⟨by omega, by omega⟩)
local macro_rules | `(tactic| walk_at "r1") => `(tactic| first
  | refine ⟨_, rfl, ?_⟩ | refine ⟨_, _, rfl, rfl, ?_⟩ | refine Or.inl ⟨_, rfl, ?_⟩ | refine Or.inr ⟨_, rfl, ?_⟩
  | refine And.intro (a := CMul _ _) (by walk_at "cm") ?_ | refine And.intro (a := CDivN _ _) (by walk_at "dv") ?_ | refine And.intro (a := _ ≠ (0 : Int)) (by first | decide | omega) ?_ | refine And.intro (a := scal _ _ = true) rfl ?_ | refine ⟨_, _, _, _, rfl, rfl, SqL.of (by first | exact upd_same | assumption), rfl, ?_⟩ | refine ⟨_, _, _, _, rfl, rfl, (by first | exact upd_same | assumption), rfl, ?_⟩ | refine ⟨_, _, rfl, ?_⟩)
local macro_rules | `(tactic| walk_at "rd") => `(tactic| repeat walk_at "r1")
local macro_rules | `(tactic| walk_at "yes") => `(tactic| (change (if true = true then _ else _); rw [if_pos rfl]))
local macro_rules | `(tactic| walk_at "no") => `(tactic| (change (if false = true then _ else _); rw [if_neg Bool.false_ne_true]))

section
variable {P : Program} {w : World} {K : PySem.W.Frag} {mg : Str → Option Value} {base : Heap}
variable {C_VaultError C_TooMany C_NumberError C_BadPrime C_NoInverse C_NoNumber C_BadTable C_BadCells C_TextError C_ShapeError C_PlanError C_CourseError C_KnowError C_PaperError fV fI : Addr}
variable (T : Txt P K mg C_VaultError C_TooMany C_NumberError C_BadPrime C_NoInverse C_NoNumber C_BadTable C_BadCells C_TextError C_ShapeError C_PlanError C_CourseError C_KnowError C_PaperError fV fI)
include T

omit T in
theorem pickM (m : Int) : 0 < (if m > 1 then m else 1) := by split <;> omega
theorem ok_edge {f : Addr} {fd : FuncData} (F : Fun K "_law_edge" "_law_edge" s_edge f fd) {f_take : Addr} {fd_take : FuncData} (D_take : Def K mg "_law_take" s_take p_take f_take fd_take) (G_take : FnOk P w K mg base CX0 2 f_take fd_take p_take spTake) : FnOk P w K mg base CX0 3 f fd p_edge spTake := by
  refine F.ok sc_edge (fun vs H Q E h => ?_) (fun cdv A outer s H vs Q E hr h => ?_)
  · obtain ⟨st, m, rfl, _⟩ := h
    rfl
  · obtain ⟨st, m, rfl, hm, S, q⟩ := h
    refine ⟨_, (pss_cons (ps_set (i := 2) sc_edge.nd rfl (Or.inl rfl) (by exact (pe_call G_take (hr.mono (by decide)) rfl D_take.g D_take.fn.kp D_take.b .nil pass0 (pa_cons (pv 0) (pa_cons pe_int pa_nil)))))
      (pss_cons (ps_if (pt_cmpR op_eq (pv 2) pe_int (nomark _)) (pss_one (ps_ret (by exact pe_int))) pss_nil)
      (pss_cons (ps_if (pt_cmpR op_eq (pv 2) pe_int (nomark _)) (pss_one (ps_ret (by exact (pe_op op_sub (pe_callB (call_max2 rfl) (by rfl) T.b_max (by first | exact PySem.boot_max | decide +kernel) (pa_cons pe_int (pa_cons (pe_callTy call_int1 (by rfl) T.b_int (by first | exact PySem.boot_int | decide +kernel) (pa_cons (pv 1) pa_nil)) pa_nil))) pe_int)))) pss_nil)
      (pss_one (ps_ret (by exact (pe_call G_take (hr.mono (by decide)) rfl D_take.g D_take.fn.kp D_take.b .nil pass0 (pa_cons (pv 0) (pa_cons (pv 1) pa_nil))))))))), ?_⟩
    walk_at "rd"
    refine ⟨by decide, S, fun d H1 d0 d1 S1 b1 => ?_⟩
    walk_at "rd"
    have pm := pickM m
    refine ite2 (fun hc => ?_) (fun hc => ?_)
    · exact q 0 H1 (Int.le_refl 0) pm S1 b1
    walk_at "rd"
    refine ite2 (fun hc => ?_) (fun hc => ?_)
    · walk_at "rd"
      exact q _ H1 (by show 0 ≤ (if m > 1 then m else 1) - 1; omega) (by show (if m > 1 then m else 1) - 1 < _; omega) S1 b1
    · walk_at "rd"
      exact ⟨hm, S1, fun d H2 d0 d1 S2 b2 => q d H2 d0 d1 S2 (b1.trans b2)⟩
def spOdds : Sp := fun vs H Q _ => ∃ (st : Addr) (m : Int), vs = [.ref st, .int m] ∧ m < 1000000000 ∧ Store H st ∧ ∀ b H', Store H' st → But st H H' → Q (.bl b) H'
theorem ok_odds {f : Addr} {fd : FuncData} (F : Fun K "_law_odds" "_law_odds" s_odds f fd) {f_take : Addr} {fd_take : FuncData} (D_take : Def K mg "_law_take" s_take p_take f_take fd_take) (G_take : FnOk P w K mg base CX0 2 f_take fd_take p_take spTake) : FnOk P w K mg base CX0 3 f fd p_odds spOdds := by
  refine F.ok sc_odds (fun vs H Q E h => ?_) (fun cdv A outer s H vs Q E hr h => ?_)
  · obtain ⟨st, m, rfl, _⟩ := h
    rfl
  · obtain ⟨st, m, rfl, hm, S, q⟩ := h
    refine ⟨_, (pss_one (ps_ret (by exact (pe_cmpR op_eq (pe_call G_take (hr.mono (by decide)) rfl D_take.g D_take.fn.kp D_take.b .nil pass0 (pa_cons (pv 0) (pa_cons (pv 1) pa_nil))) pe_int (nomark _))))), ?_⟩
    walk_at "rd"
    refine ⟨hm, S, fun d H1 d0 d1 S1 b1 => ?_⟩
    walk_at "rd"
    exact q _ H1 S1 b1
/-- one of the items -/
def spPick : Sp := fun vs H Q _ => ∃ (st l : Addr) (xs : List V), vs = [.ref st, .ref l] ∧ H l = some (.lst xs) ∧ l ≠ st ∧ 0 < xs.length ∧ xs.length ≤ 1000 ∧ Store H st ∧ ∀ v H', v ∈ xs → Store H' st → But st H H' → Q v H'
theorem ok_pick {f : Addr} {fd : FuncData} (F : Fun K "_law_pick" "_law_pick" s_pick f fd) {f_take : Addr} {fd_take : FuncData} (D_take : Def K mg "_law_take" s_take p_take f_take fd_take) (G_take : FnOk P w K mg base CX0 2 f_take fd_take p_take spTake) : FnOk P w K mg base CX0 3 f fd p_pick spPick := by
  refine F.ok sc_pick (fun vs H Q E h => ?_) (fun cdv A outer s H vs Q E hr h => ?_)
  · obtain ⟨st, l, xs, rfl, _⟩ := h
    rfl
  · obtain ⟨st, l, xs, rfl, hl, hne, h0, h1, S, q⟩ := h
    refine ⟨_, (pss_one (ps_ret (by exact (pe_ix ix_list (pv 1) (pe_call G_take (hr.mono (by decide)) rfl D_take.g D_take.fn.kp D_take.b .nil pass0 (pa_cons (pv 0) (pa_cons (pe_callB call_len_seq (by rfl) T.b_len (by first | exact PySem.boot_len | decide +kernel) (pa_cons (pv 1) pa_nil)) pa_nil))) (fun _ _ => rfl))))), ?_⟩
    walk_at "rd"
    refine ⟨_, _, rfl, .inl (SqL.of hl), ?_⟩
    walk_at "rd"
    refine ⟨by omega, S, fun d H1 d0 d1 S1 b1 => ?_⟩
    have hd : d < xs.length := by
      revert d1
      split <;> omega
    obtain ⟨j, rfl⟩ : ∃ j : Nat, d = (j : Int) := ⟨d.toNat, by omega⟩
    have hj : j < xs.length := by omega
    refine ⟨_, _, _, _, rfl, rfl, SqL.of (b1 _ _ hne hl), atI_nat (List.getElem?_eq_getElem hj), ?_⟩
    exact q _ H1 (List.getElem_mem hj) S1 b1
def spLen : Sp := fun vs H Q _ => ∃ (st : Addr), vs = [.ref st] ∧ Store H st ∧ ∀ n H', 1 ≤ n → n ≤ 120 → Store H' st → But st H H' → Q (.int n) H'
theorem ok_length {f : Addr} {fd : FuncData} (F : Fun K "_law_length" "_law_length" s_length f fd) {f_take : Addr} {fd_take : FuncData} (D_take : Def K mg "_law_take" s_take p_take f_take fd_take) (G_take : FnOk P w K mg base CX0 2 f_take fd_take p_take spTake) {f_edge : Addr} {fd_edge : FuncData} (D_edge : Def K mg "_law_edge" s_edge p_edge f_edge fd_edge) (G_edge : FnOk P w K mg base CX0 3 f_edge fd_edge p_edge spTake) : FnOk P w K mg base CX0 4 f fd p_length spLen := by
  refine F.ok sc_length (fun vs H Q E h => ?_) (fun cdv A outer s H vs Q E hr h => ?_)
  · obtain ⟨st, rfl, _⟩ := h
    rfl
  · obtain ⟨st, rfl, S, q⟩ := h
    refine ⟨_, (pss_cons (ps_set (i := 1) sc_length.nd rfl (Or.inl rfl) (by exact (pe_call G_take (hr.mono (by decide)) rfl D_take.g D_take.fn.kp D_take.b .nil pass0 (pa_cons (pv 0) (pa_cons pe_int pa_nil)))))
      (pss_cons (ps_if (pt_cmpR op_eq (pv 1) pe_int (nomark _)) (pss_one (ps_ret (by exact (pe_op op_add pe_int (pe_call G_edge (hr.mono (by decide)) rfl D_edge.g D_edge.fn.kp D_edge.b .nil pass0 (pa_cons (pv 0) (pa_cons pe_int pa_nil))))))) pss_nil)
      (pss_cons (ps_if (pt_cmpR op_eq (pv 1) pe_int (nomark _)) (pss_one (ps_ret (by exact (pe_op op_add pe_int (pe_call G_take (hr.mono (by decide)) rfl D_take.g D_take.fn.kp D_take.b .nil pass0 (pa_cons (pv 0) (pa_cons pe_int pa_nil))))))) pss_nil)
      (pss_one (ps_ret (by exact (pe_op op_add pe_int (pe_call G_take (hr.mono (by decide)) rfl D_take.g D_take.fn.kp D_take.b .nil pass0 (pa_cons (pv 0) (pa_cons pe_int pa_nil)))))))))), ?_⟩
    walk_at "rd"
    refine ⟨by decide, S, fun d H1 d0 d1 S1 b1 => ?_⟩
    walk_at "rd"
    refine ite2 (fun hc => ?_) (fun hc => ?_)
    · walk_at "rd"
      refine ⟨by decide, S1, fun d H2 d0 d1 S2 b2 => ?_⟩
      rw [if_pos (by decide)] at d1
      walk_at "rd"
      exact q _ H2 (by omega) (by omega) S2 (b1.trans b2)
    walk_at "rd"
    refine ite2 (fun hc => ?_) (fun hc => ?_)
    · walk_at "rd"
      refine ⟨by decide, S1, fun d H2 d0 d1 S2 b2 => ?_⟩
      rw [if_pos (by decide)] at d1
      walk_at "rd"
      exact q _ H2 (by omega) (by omega) S2 (b1.trans b2)
    · walk_at "rd"
      refine ⟨by decide, S1, fun d H2 d0 d1 S2 b2 => ?_⟩
      rw [if_pos (by decide)] at d1
      walk_at "rd"
      exact q _ H2 (by omega) (by omega) S2 (b1.trans b2)
theorem ok_cellcount {f : Addr} {fd : FuncData} (F : Fun K "_law_cellcount" "_law_cellcount" s_cellcount f fd) {f_take : Addr} {fd_take : FuncData} (D_take : Def K mg "_law_take" s_take p_take f_take fd_take) (G_take : FnOk P w K mg base CX0 2 f_take fd_take p_take spTake) {f_edge : Addr} {fd_edge : FuncData} (D_edge : Def K mg "_law_edge" s_edge p_edge f_edge fd_edge) (G_edge : FnOk P w K mg base CX0 3 f_edge fd_edge p_edge spTake) {f_odds : Addr} {fd_odds : FuncData} (D_odds : Def K mg "_law_odds" s_odds p_odds f_odds fd_odds) (G_odds : FnOk P w K mg base CX0 3 f_odds fd_odds p_odds spOdds) : FnOk P w K mg base CX0 4 f fd p_cellcount spLen := by
  refine F.ok sc_cellcount (fun vs H Q E h => ?_) (fun cdv A outer s H vs Q E hr h => ?_)
  · obtain ⟨st, rfl, _⟩ := h
    rfl
  · obtain ⟨st, rfl, S, q⟩ := h
    refine ⟨_, (pss_cons (ps_if (pt_val (pe_call G_odds (hr.mono (by decide)) rfl D_odds.g D_odds.fn.kp D_odds.b .nil pass0 (pa_cons (pv 0) (pa_cons pe_int pa_nil)))) (pss_one (ps_ret (by exact (pe_op op_add pe_int (pe_call G_edge (hr.mono (by decide)) rfl D_edge.g D_edge.fn.kp D_edge.b .nil pass0 (pa_cons (pv 0) (pa_cons pe_int pa_nil))))))) pss_nil)
      (pss_one (ps_ret (by exact (pe_op op_add pe_int (pe_call G_take (hr.mono (by decide)) rfl D_take.g D_take.fn.kp D_take.b .nil pass0 (pa_cons (pv 0) (pa_cons pe_int pa_nil)))))))), ?_⟩
    walk_at "rd"
    refine ⟨by decide, S, fun b H1 S1 b1 => ?_⟩
    walk_at "rd"
    refine ite2 (fun hc => ?_) (fun hc => ?_)
    · walk_at "rd"
      refine ⟨by decide, S1, fun d H2 d0 d1 S2 b2 => ?_⟩
      rw [if_pos (by decide)] at d1
      walk_at "rd"
      exact q _ H2 (by omega) (by omega) S2 (b1.trans b2)
    · walk_at "rd"
      refine ⟨by decide, S1, fun d H2 d0 d1 S2 b2 => ?_⟩
      rw [if_pos (by decide)] at d1
      walk_at "rd"
      exact q _ H2 (by omega) (by omega) S2 (b1.trans b2)
end
end K11

/-! binomial numbers, rounds and least steps: plain mathematics -/
namespace M11
def bin : Nat → Nat → Nat
  | _, 0 => 1
  | 0, _ + 1 => 0
  | n + 1, k + 1 => bin n k + bin n (k + 1)
theorem bin_0 (n : Nat) : bin n 0 = 1 := by cases n <;> rfl
theorem bin_ss (n k : Nat) : bin (n + 1) (k + 1) = bin n k + bin n (k + 1) := rfl
theorem bin_lt : ∀ {n k : Nat}, n < k → bin n k = 0
  | 0, 0, h => absurd h (Nat.lt_irrefl _)
  | 0, k + 1, _ => rfl
  | n + 1, 0, h => absurd h (Nat.not_lt_zero _)
  | n + 1, k + 1, h => by rw [bin_ss, bin_lt (by omega), bin_lt (by omega)]
theorem bin_self : ∀ n : Nat, bin n n = 1
  | 0 => rfl
  | n + 1 => by rw [bin_ss, bin_self n, bin_lt (Nat.lt_succ_self n)]
theorem bin_mul : ∀ n k : Nat, bin n (k + 1) * (k + 1) = bin n k * (n - k)
  | 0, 0 => rfl
  | 0, k + 1 => by rw [bin_lt (by omega), bin_lt (by omega)]; simp
  | n + 1, 0 => by
    have h := bin_mul n 0
    rw [bin_0] at h
    rw [bin_ss, bin_0, bin_0]
    omega
  | n + 1, k + 1 => by
    have h1 := bin_mul n k
    have h2 := bin_mul n (k + 1)
    rw [bin_ss, bin_ss]
    by_cases hk : k + 1 ≤ n
    · have e1 : n + 1 - (k + 1) = (n - (k + 1)) + 1 := by omega
      have e2 : n - k = (n - (k + 1)) + 1 := by omega
      rw [e2] at h1
      rw [e1]
      generalize n - (k + 1) = d at h1 h2 ⊢
      generalize bin n (k + 1) = x at h1 h2 ⊢
      generalize bin n (k + 1 + 1) = y at h1 h2 ⊢
      generalize bin n k = z at h1 h2 ⊢
      have a1 : (x + y) * (k + 1 + 1) = x * (k + 1) + x + y * (k + 1 + 1) := by
        rw [Nat.add_mul, Nat.mul_succ x]
      have a2 : (z + x) * (d + 1) = z * (d + 1) + (x * d + x) := by
        rw [Nat.add_mul, Nat.mul_succ x]
      rw [a1, a2]
      omega
    · have e1 : n + 1 - (k + 1) = 0 := by omega
      rw [e1, Nat.mul_zero, bin_lt (show n < k + 1 by omega), bin_lt (show n < k + 1 + 1 by omega)]
      simp
theorem bin_symm : ∀ a b : Nat, bin (a + b) a = bin (a + b) b
  | 0, b => by rw [bin_0, Nat.zero_add, bin_self]
  | a + 1, 0 => by rw [Nat.add_zero, bin_0, bin_self]
  | a + 1, b + 1 => by
    have h1 := bin_symm a (b + 1)
    have h2 := bin_symm (a + 1) b
    have e : a + 1 + (b + 1) = (a + (b + 1)) + 1 := by omega
    have e2 : a + 1 + b = a + (b + 1) := by omega
    rw [e2] at h2
    rw [e, bin_ss, bin_ss, h1, h2]
    omega
theorem bin_min {n k : Nat} (h : k ≤ n) : bin n (min k (n - k)) = bin n k := by
  by_cases c : k ≤ n - k
  · rw [Nat.min_eq_left c]
  · rw [Nat.min_eq_right (by omega)]
    have e := bin_symm (n - k) k
    rw [Nat.sub_add_cancel h] at e
    exact e
theorem bin_step (n t : Nat) : bin n t * (n - t) / (t + 1) = bin n (t + 1) := by
  rw [← bin_mul]
  exact Nat.mul_div_cancel _ (Nat.succ_pos t)
/-- B c q: the worlds of q rounds -/
def B (c q : Nat) : Nat := bin (c + q) c
theorem B_0 (c : Nat) : B c 0 = 1 := bin_self c
theorem B_pascal (c q : Nat) : B (c + 1) (q + 1) = B c (q + 1) + B (c + 1) q := by
  unfold B
  have e1 : c + 1 + (q + 1) = (c + (q + 1)) + 1 := by omega
  have e2 : c + 1 + q = c + (q + 1) := by omega
  rw [e1, bin_ss, e2]
theorem B_pos (c : Nat) : ∀ q, 1 ≤ B c q := by
  intro q
  induction c generalizing q with
  | zero => unfold B; rw [bin_0]; exact Nat.le_refl 1
  | succ c ih =>
    induction q with
    | zero => rw [B_0]; exact Nat.le_refl 1
    | succ q iq => rw [B_pascal]; omega
theorem B_lt (c q : Nat) : B (c + 1) q < B (c + 1) (q + 1) := by
  rw [B_pascal]
  have := B_pos c (q + 1)
  omega
theorem B_mono_q (c : Nat) {q r : Nat} (h : q ≤ r) : B c q ≤ B c r := by
  cases c with
  | zero =>
    unfold B
    rw [bin_0, bin_0]
    exact Nat.le_refl 1
  | succ c =>
    induction r with
    | zero =>
      have : q = 0 := by omega
      rw [this]
      exact Nat.le_refl _
    | succ r ih =>
      by_cases e : q = r + 1
      · rw [e]
        exact Nat.le_refl _
      · exact Nat.le_trans (ih (by omega)) (Nat.le_of_lt (B_lt c r))
theorem B_mono_c (c q : Nat) : B c q ≤ B (c + 1) q := by
  cases q with
  | zero => rw [B_0, B_0]; exact Nat.le_refl 1
  | succ q => rw [B_pascal]; omega
theorem B_ge (c : Nat) : ∀ q, q + 1 ≤ B (c + 1) q := by
  intro q
  induction q with
  | zero => rw [B_0]; exact Nat.le_refl 1
  | succ q ih =>
    have := B_lt c q
    omega
theorem B_step (c q : Nat) : B c q * (c + q + 1) / (q + 1) = B c (q + 1) := by
  have e1 : B c q = bin (c + q) q := by unfold B; exact bin_symm c q
  have e2 : B c (q + 1) = bin (c + (q + 1)) (q + 1) := by unfold B; exact bin_symm c (q + 1)
  have key : ∀ n k : Nat, bin (n + 1) (k + 1) * (k + 1) = bin n k * (n + 1) := by
    intro n k
    rw [bin_ss, Nat.add_mul, bin_mul]
    by_cases h : k ≤ n
    · rw [← Nat.mul_add]
      congr 1
      omega
    · rw [bin_lt (show n < k by omega)]
      simp
  rw [e1, e2, show c + (q + 1) = (c + q) + 1 from rfl, ← key]
  exact Nat.mul_div_cancel _ (Nat.succ_pos q)
/-- the rounds -/
def IsR (n c r : Nat) : Prop := (∀ q, q < r → B c q ≤ n) ∧ n < B c r
theorem IsR.uniq {n c r s : Nat} (a : IsR n c r) (b : IsR n c s) : r = s := by
  rcases Nat.lt_trichotomy r s with h | h | h
  · exact absurd (b.1 r h) (Nat.not_le.mpr a.2)
  · exact h
  · exact absurd (a.1 s h) (Nat.not_le.mpr b.2)
theorem IsR.ex (n c : Nat) : ∃ r, IsR n (c + 1) r := by
  have key : ∀ N, (∀ q, q < N → B (c + 1) q ≤ n) ∨ ∃ r, IsR n (c + 1) r := by
    intro N
    induction N with
    | zero => exact .inl fun q h => absurd h (Nat.not_lt_zero _)
    | succ N ih =>
      rcases ih with h | h
      · by_cases e : B (c + 1) N ≤ n
        · exact .inl fun q hq => (Nat.lt_succ_iff_lt_or_eq.mp hq).elim (h q) fun z => z ▸ e
        · exact .inr ⟨N, h, by omega⟩
      · exact .inr h
  rcases key (n + 1) with h | h
  · have h1 := h n (Nat.lt_succ_self n)
    have h2 := B_ge c n
    omega
  · exact h
/-- r*(n + 1) less the sum of the first r of B c -/
def S (n c r : Nat) : Int := (r : Int) * ((n : Int) + 1) - (bin (c + r) (c + 1) : Nat)
theorem S_0 (n c : Nat) : S n c 0 = 0 := by
  unfold S
  rw [Nat.add_zero, bin_lt (Nat.lt_succ_self c)]
  simp
theorem S_succ (n c r : Nat) : S n c (r + 1) = S n c r + ((n : Int) + 1 - (B c r : Nat)) := by
  unfold S B
  rw [show c + (r + 1) = (c + r) + 1 from rfl, bin_ss]
  have e : ((r + 1 : Nat) : Int) * ((n : Int) + 1) = (r : Int) * ((n : Int) + 1) + ((n : Int) + 1) := by
    rw [Int.natCast_add, Int.add_mul]
    simp
  rw [e, Int.natCast_add]
  omega
/-- S grows while B c q <= n + 1, then falls -/
theorem S_up {n c r s : Nat} (h : r ≤ s) (hb : ∀ q, r ≤ q → q < s → B c q ≤ n + 1) : S n c r ≤ S n c s := by
  induction s with
  | zero =>
    have : r = 0 := by omega
    rw [this]
    exact Int.le_refl _
  | succ s ih =>
    by_cases e : r = s + 1
    · rw [e]
      exact Int.le_refl _
    · have h1 := ih (by omega) fun q a b => hb q a (by omega)
      have h2 := hb s (by omega) (Nat.lt_succ_self s)
      rw [S_succ]
      omega
theorem S_down {n c r s : Nat} (h : r ≤ s) (hb : ∀ q, r ≤ q → q < s → n + 1 ≤ B c q) : S n c s ≤ S n c r := by
  induction s with
  | zero =>
    have : r = 0 := by omega
    rw [this]
    exact Int.le_refl _
  | succ s ih =>
    by_cases e : r = s + 1
    · rw [e]
      exact Int.le_refl _
    · have h1 := ih (by omega) fun q a b => hb q a (by omega)
      have h2 := hb s (by omega) (Nat.lt_succ_self s)
      rw [S_succ]
      omega
/-- r is a top of S if its neighbours say so -/
theorem S_top {n c r : Nat} (h1 : ∀ q, q < r → B c q ≤ n + 1) (h2 : n + 1 ≤ B c r) (s : Nat) : S n c s ≤ S n c r := by
  by_cases h : s ≤ r
  · exact S_up h fun q _ b => h1 q b
  · exact S_down (by omega) fun q a _ => Nat.le_trans h2 (B_mono_q c a)
theorem IsR.top {n c r : Nat} (h : IsR n c r) (s : Nat) : S n c s ≤ S n c r := S_top (fun q hq => by have := h.1 q hq; omega) h.2 s
theorem S_eq {n c r s : Nat} (h : IsR n c r) (h1 : ∀ q, q < s → B c q ≤ n + 1) (h2 : n + 1 ≤ B c s) : S n c s = S n c r := Int.le_antisymm (h.top s) (S_top h1 h2 r)
/-- the least steps -/
def IsT (n c : Nat) (t : Int) : Prop := ∃ r, IsR n c r ∧ t = S n c r
theorem IsT.uniq {n c : Nat} {s t : Int} (a : IsT n c s) (b : IsT n c t) : s = t := by
  obtain ⟨r, h1, rfl⟩ := a
  obtain ⟨q, h2, rfl⟩ := b
  rw [h1.uniq h2]
theorem IsT.ex (n c : Nat) : ∃ t, IsT n (c + 1) t := by
  obtain ⟨r, h⟩ := IsR.ex n c
  exact ⟨_, r, h, rfl⟩
open Classical in
noncomputable def T (n c : Nat) : Int := if h : ∃ t, IsT n c t then Classical.choose h else 0
theorem T_is (n c : Nat) : IsT n (c + 1) (T n (c + 1)) := by
  unfold T
  rw [dif_pos (IsT.ex n c)]
  exact Classical.choose_spec (IsT.ex n c)
theorem IsT.eq {n c : Nat} {t : Int} (h : IsT n (c + 1) t) : t = T n (c + 1) := h.uniq (T_is n c)
theorem T_0 (c : Nat) : T 0 (c + 1) = 0 := by
  have h : IsT 0 (c + 1) 0 := ⟨0, ⟨fun q h => absurd h (Nat.not_lt_zero _), by rw [B_0]; exact Nat.zero_lt_one⟩, (S_0 _ _).symm⟩
  exact h.eq.symm
theorem T_1 (n : Nat) : T (n + 1) 1 = (n + 1 : Int) + T n 1 := by
  have hb : ∀ q, B 1 q = q + 1 := by
    intro q
    induction q with
    | zero => exact B_0 1
    | succ q ih =>
      rw [B_pascal, ih]
      unfold B
      rw [bin_0]
      omega
  have isr : ∀ m, IsR m 1 m := fun m => ⟨fun q h => by rw [hb]; omega, by rw [hb]; omega⟩
  have e1 : T (n + 1) 1 = S (n + 1) 1 (n + 1) := (IsT.eq (c := 0) ⟨_, isr (n + 1), rfl⟩).symm
  have e2 : T n 1 = S n 1 n := (IsT.eq (c := 0) ⟨_, isr n, rfl⟩).symm
  rw [e1, e2, S_succ, hb]
  unfold S
  have e : ((n : Nat) : Int) * ((n + 1 : Nat) + 1 : Int) = (n : Int) * ((n : Int) + 1) + n := by
    rw [Int.natCast_add, Int.mul_add, Int.mul_add, Int.mul_add]
    omega
  have e3 : ((n + 1 : Nat) : Int) = (n : Int) + 1 := by omega
  rw [e]
  omega
theorem B_R1 {n c r : Nat} (h : IsR n (c + 1) r) (hn : 1 ≤ n) : 1 ≤ r := by
  rcases Nat.eq_zero_or_pos r with e | e
  · have := h.2
    rw [e, B_0] at this
    omega
  · exact e
theorem IsR.le {n c r : Nat} (h : IsR n (c + 1) r) : r ≤ n := by
  rcases Nat.lt_or_ge n r with a | a
  · have h1 := h.1 n a
    have h2 := B_ge c n
    omega
  · exact a
/-- no stop has a lesser sum -/
theorem T_le {n c m : Nat} (h1 : 1 ≤ m) (h2 : m ≤ n) : T n (c + 2) ≤ (m : Int) + T (n - m) (c + 1) + T (m - 1) (c + 2) := by
  obtain ⟨r, hr, e⟩ := T_is n (c + 1)
  obtain ⟨r1, hr1, e1⟩ := T_is (n - m) c
  obtain ⟨r2, hr2, e2⟩ := T_is (m - 1) (c + 1)
  have hp := B_R1 hr (by omega)
  obtain ⟨k, rfl⟩ : ∃ k, r = k + 1 := ⟨r - 1, by omega⟩
  have a1 := hr1.top (k + 1)
  have a2 := hr2.top k
  rw [← e1] at a1
  rw [← e2] at a2
  have a2' : S (m - 1) (c + 2) k ≤ T (m - 1) (c + 2) := a2
  clear a2
  have key : S n (c + 2) (k + 1) = (m : Int) + S (n - m) (c + 1) (k + 1) + S (m - 1) (c + 2) k := by
    unfold S
    have ep : bin (c + 2 + (k + 1)) (c + 2 + 1) = bin (c + 1 + (k + 1)) (c + 1 + 1) + bin (c + 2 + k) (c + 2 + 1) := by
      rw [show c + 2 + (k + 1) = (c + 2 + k) + 1 from rfl, bin_ss, show c + 1 + (k + 1) = c + 2 + k by omega]
    rw [ep]
    have en : ((n - m : Nat) : Int) = (n : Int) - m := by omega
    have em : ((m - 1 : Nat) : Int) + 1 = (m : Int) := by omega
    rw [en, em]
    have d1 : ((k + 1 : Nat) : Int) * ((n : Int) - m + 1) = ((k + 1 : Nat) : Int) * ((n : Int) + 1) - ((k + 1 : Nat) : Int) * m := by
      rw [← Int.mul_sub]
      congr 1
      omega
    have d2 : ((k + 1 : Nat) : Int) * (m : Int) = (k : Int) * m + m := by
      rw [Int.natCast_add, Int.add_mul]
      simp
    rw [d1, d2]
    omega
  rw [e, key]
  omega
/-- some stop has the least sum -/
theorem T_at {n c : Nat} (hn : 1 ≤ n) : ∃ m, 1 ≤ m ∧ m ≤ n ∧ T n (c + 2) = (m : Int) + T (n - m) (c + 1) + T (m - 1) (c + 2) := by
  obtain ⟨r, hr, e⟩ := T_is n (c + 1)
  have hp := B_R1 hr hn
  obtain ⟨k, rfl⟩ : ∃ k, r = k + 1 := ⟨r - 1, by omega⟩
  have u1 := hr.1 k (Nat.lt_succ_self k)
  have u2 := hr.2
  have p1 := B_pascal (c + 1) k
  have p2 := B_mono_c (c + 1) k
  have p3 := B_pos (c + 1) (k + 1)
  have p4 := B_mono_q (c + 1) (Nat.le_succ k)
  have p5 := B_pos (c + 2) k
  have u1' : B (c + 2) k ≤ n := u1
  have u2' : n < B (c + 2) (k + 1) := u2
  -- the last of B (c + 2) ahead of k
  obtain ⟨z, hz, z1, z2⟩ : ∃ z, (∀ q, q < k → B (c + 2) q ≤ z) ∧ z ≤ B (c + 2) k ∧ z + B (c + 1) k ≤ n + 1 := by
    cases k with
    | zero => exact ⟨0, fun q h => absurd h (Nat.not_lt_zero _), Nat.zero_le _, by rw [B_0]; omega⟩
    | succ k =>
      refine ⟨B (c + 2) k, fun q h => B_mono_q _ (by omega), Nat.le_of_lt (B_lt (c + 1) k), ?_⟩
      have p6 := B_pascal (c + 1) k
      have u1'' : B (c + 1 + 1) (k + 1) ≤ n := u1'
      rw [p6] at u1''
      have e9 : B (c + 2) k = B (c + 1 + 1) k := rfl
      omega
  have p1' : B (c + 2) (k + 1) = B (c + 1) (k + 1) + B (c + 2) k := p1
  have p2' : B (c + 1) k ≤ B (c + 2) k := p2
  obtain ⟨m, m1, m2, m3, m4, m5, m6⟩ : ∃ m, 1 ≤ m ∧ m ≤ n ∧ z ≤ m ∧ m ≤ B (c + 2) k ∧ n + 1 ≤ m + B (c + 1) (k + 1) ∧ m + B (c + 1) k ≤ n + 1 := by
    have p4' : B (c + 1) k ≤ B (c + 1) (k + 1) := p4
    have p5' : 1 ≤ B (c + 2) k := p5
    clear p1 p2 p4 p5 u1 u2
    generalize B (c + 1) (k + 1) = x1 at *
    generalize B (c + 2) (k + 1) = x2 at *
    generalize B (c + 1) k = x3 at *
    generalize B (c + 2) k = x4 at *
    by_cases q1 : 1 ≤ z
    · by_cases q2 : n + 1 - x1 ≤ z
      · exact ⟨z, by omega, by omega, by omega, by omega, by omega, by omega⟩
      · exact ⟨n + 1 - x1, by omega, by omega, by omega, by omega, by omega, by omega⟩
    · by_cases q2 : n + 1 - x1 ≤ 1
      · exact ⟨1, by omega, by omega, by omega, by omega, by omega, by omega⟩
      · exact ⟨n + 1 - x1, by omega, by omega, by omega, by omega, by omega, by omega⟩
  refine ⟨m, m1, m2, Int.le_antisymm (T_le m1 m2) ?_⟩
  obtain ⟨r1, hr1, e1⟩ := T_is (n - m) c
  obtain ⟨r2, hr2, e2⟩ := T_is (m - 1) (c + 1)
  have a1 : S (n - m) (c + 1) (k + 1) = S (n - m) (c + 1) r1 := by
    refine S_eq hr1 (fun q hq => ?_) ?_
    · have := B_mono_q (c + 1) (show q ≤ k by omega)
      omega
    · omega
  have a2 : S (m - 1) (c + 2) k = S (m - 1) (c + 2) r2 := by
    refine S_eq hr2 (fun q hq => ?_) ?_
    · have := hz q hq
      omega
    · omega
  have key : S n (c + 2) (k + 1) = (m : Int) + S (n - m) (c + 1) (k + 1) + S (m - 1) (c + 2) k := by
    unfold S
    have ep : bin (c + 2 + (k + 1)) (c + 2 + 1) = bin (c + 1 + (k + 1)) (c + 1 + 1) + bin (c + 2 + k) (c + 2 + 1) := by
      rw [show c + 2 + (k + 1) = (c + 2 + k) + 1 from rfl, bin_ss, show c + 1 + (k + 1) = c + 2 + k by omega]
    rw [ep]
    have en : ((n - m : Nat) : Int) = (n : Int) - m := by omega
    have em : ((m - 1 : Nat) : Int) + 1 = (m : Int) := by omega
    rw [en, em]
    have d1 : ((k + 1 : Nat) : Int) * ((n : Int) - m + 1) = ((k + 1 : Nat) : Int) * ((n : Int) + 1) - ((k + 1 : Nat) : Int) * m := by
      rw [← Int.mul_sub]
      congr 1
      omega
    have d2 : ((k + 1 : Nat) : Int) * (m : Int) = (k : Int) * m + m := by
      rw [Int.natCast_add, Int.add_mul]
      simp
    rw [d1, d2]
    omega
  rw [e, key, a1, a2, e1, e2]
  exact Int.le_refl _

/-- the sum that a stop gives, if it is one -/
noncomputable def sm (n c m : Nat) : Option Int := if c = 0 then (if m < n then none else some ((m : Int) + T (m - 1) 1)) else some ((m : Int) + T (n - m) c + T (m - 1) (c + 1))
structure IsStop (n c m : Nat) : Prop where
  lo : 1 ≤ m
  hi : m ≤ n
  at_ : sm n c m = some (T n (c + 1))
  first : ∀ j, 1 ≤ j → j < m → sm n c j ≠ some (T n (c + 1))
theorem sm_le {n c m : Nat} {l : Int} (h1 : 1 ≤ m) (h2 : m ≤ n) (e : sm n c m = some l) : T n (c + 1) ≤ l := by
  unfold sm at e
  by_cases hc : c = 0
  · rw [if_pos hc] at e
    by_cases hm : m < n
    · rw [if_pos hm] at e
      cases e
    · rw [if_neg hm] at e
      injection e with e
      obtain ⟨k, rfl⟩ : ∃ k, n = k + 1 := ⟨n - 1, by omega⟩
      have : m = k + 1 := by omega
      subst this
      subst hc
      have t1 := T_1 k
      rw [Nat.add_sub_cancel] at e
      have e2 : ((k + 1 : Nat) : Int) = (k : Int) + 1 := rfl
      rw [← e, e2]
      show T (k + 1) 1 ≤ _
      rw [t1]
      exact Int.le_refl _
  · rw [if_neg hc] at e
    injection e with e
    obtain ⟨d, rfl⟩ : ∃ d, c = d + 1 := ⟨c - 1, by omega⟩
    rw [← e]
    exact T_le h1 h2
theorem sm_ex {n c : Nat} (hn : 1 ≤ n) : ∃ m, 1 ≤ m ∧ m ≤ n ∧ sm n c m = some (T n (c + 1)) := by
  by_cases hc : c = 0
  · refine ⟨n, hn, Nat.le_refl n, ?_⟩
    unfold sm
    rw [if_pos hc, if_neg (Nat.lt_irrefl n)]
    obtain ⟨k, rfl⟩ : ∃ k, n = k + 1 := ⟨n - 1, by omega⟩
    subst hc
    have t1 := T_1 k
    rw [Nat.add_sub_cancel]
    show _ = some (T (k + 1) 1)
    rw [t1]
    rfl
  · obtain ⟨d, rfl⟩ : ∃ d, c = d + 1 := ⟨c - 1, by omega⟩
    obtain ⟨m, h1, h2, e⟩ := T_at (n := n) (c := d) hn
    refine ⟨m, h1, h2, ?_⟩
    unfold sm
    rw [if_neg hc]
    exact congrArg some e.symm
theorem stop_1 {n : Nat} (hn : 1 ≤ n) : IsStop n 0 n := by
  obtain ⟨m, h1, h2, e⟩ := sm_ex (c := 0) hn
  have hm : m = n := by
    unfold sm at e
    rw [if_pos rfl] at e
    by_cases q : m < n
    · rw [if_pos q] at e
      cases e
    · omega
  subst hm
  refine ⟨h1, h2, e, fun j h1 h2 z => ?_⟩
  unfold sm at z
  rw [if_pos rfl, if_pos h2] at z
  cases z
/-- while none of the first i is the stop, i < n -/
theorem stop_more {n c i : Nat} (hn : 1 ≤ n) (h : ∀ j, 1 ≤ j → j ≤ i → sm n c j ≠ some (T n (c + 1))) : i < n := by
  obtain ⟨m, h1, h2, e⟩ := sm_ex (c := c) hn
  rcases Nat.lt_or_ge i m with a | a
  · omega
  · exact absurd e (h m h1 a)
/-- the least so far -/
inductive Best (n c i : Nat) : Option (Nat × Int) → Prop
  | no (h : ∀ j, 1 ≤ j → j ≤ i → sm n c j = none) : Best n c i none
  | yes (m : Nat) (l : Int) (h1 : 1 ≤ m) (h2 : m ≤ i) (e : sm n c m = some l) (le : ∀ j k, 1 ≤ j → j ≤ i → sm n c j = some k → l ≤ k) (lt : ∀ j k, 1 ≤ j → j < m → sm n c j = some k → l < k) : Best n c i (some (m, l))
theorem Best.zero (n c : Nat) : Best n c 0 none := .no fun j a b => absurd (Nat.le_trans a b) (Nat.not_succ_le_zero 0)
theorem Best.skip {n c i : Nat} {o : Option (Nat × Int)} (b : Best n c i o) (e : sm n c (i + 1) = none) : Best n c (i + 1) o := by
  cases b with
  | no h => exact .no fun j a b => (Nat.lt_or_ge i j).elim (fun z => by rw [show j = i + 1 by omega]; exact e) (h j a)
  | yes m l h1 h2 e0 le lt => exact .yes m l h1 (by omega) e0 (fun j k a b q => (Nat.lt_or_ge i j).elim (fun z => by rw [show j = i + 1 by omega, e] at q; cases q) fun z => le j k a z q) lt
theorem Best.keep {n c i m : Nat} {l k0 : Int} (b : Best n c i (some (m, l))) (e : sm n c (i + 1) = some k0) (h : l ≤ k0) : Best n c (i + 1) (some (m, l)) := by
  cases b with
  | yes _ _ h1 h2 e0 le lt => exact .yes m l h1 (by omega) e0 (fun j k a b q => (Nat.lt_or_ge i j).elim (fun z => by rw [show j = i + 1 by omega, e] at q; injection q with q; omega) fun z => le j k a z q) lt
theorem Best.first {n c i : Nat} {k0 : Int} (b : Best n c i none) (e : sm n c (i + 1) = some k0) : Best n c (i + 1) (some (i + 1, k0)) := by
  cases b with
  | no h => exact .yes (i + 1) k0 (by omega) (Nat.le_refl _) e (fun j k a b q => (Nat.lt_or_ge i j).elim (fun z => by rw [show j = i + 1 by omega, e] at q; injection q with q; omega) fun z => by rw [h j a z] at q; cases q) (fun j k a b q => by rw [h j a (by omega)] at q; cases q)
theorem Best.less {n c i m : Nat} {l k0 : Int} (b : Best n c i (some (m, l))) (e : sm n c (i + 1) = some k0) (h : k0 < l) : Best n c (i + 1) (some (i + 1, k0)) := by
  cases b with
  | yes _ _ h1 h2 e0 le lt => exact .yes (i + 1) k0 (by omega) (Nat.le_refl _) e (fun j k a b q => (Nat.lt_or_ge i j).elim (fun z => by rw [show j = i + 1 by omega, e] at q; injection q with q; omega) fun z => by have := le j k a z q; omega) (fun j k a b q => by have := le j k a (by omega) q; omega)
theorem Best.end_ {n c : Nat} {o : Option (Nat × Int)} (hn : 1 ≤ n) (b : Best n c n o) : ∃ m, o = some (m, T n (c + 1)) ∧ IsStop n c m := by
  obtain ⟨m0, a1, a2, a3⟩ := sm_ex (c := c) hn
  cases b with
  | no h => rw [h m0 a1 a2] at a3; cases a3
  | yes m l h1 h2 e0 le lt =>
    have q1 := sm_le h1 h2 e0
    have q2 := le m0 _ a1 a2 a3
    have q3 : l = T n (c + 1) := by omega
    subst q3
    exact ⟨m, rfl, h1, h2, e0, fun j b1 b2 z => by have := lt j _ b1 b2 z; omega⟩
theorem IsStop.uniq {n c a b : Nat} (x : IsStop n c a) (y : IsStop n c b) : a = b := by
  rcases Nat.lt_trichotomy a b with h | h | h
  · exact absurd x.at_ (y.first a x.lo h)
  · exact h
  · exact absurd y.at_ (x.first b y.lo h)
theorem T_tri (n : Nat) : 2 * T n 1 = (n : Int) * ((n : Int) + 1) := by
  induction n with
  | zero =>
    rw [show T 0 1 = 0 from T_0 0]
    rfl
  | succ n ih =>
    rw [T_1, Int.mul_add, ih]
    have e : ((n + 1 : Nat) : Int) = (n : Int) + 1 := rfl
    rw [e, Int.add_mul, Int.mul_add (n : Int) ((n : Int) + 1) 1, Int.mul_one]
    omega
theorem T11 : T 1 1 = 1 := by
  have := T_tri 1
  have e : ((1 : Nat) : Int) * (((1 : Nat) : Int) + 1) = 2 := rfl
  omega
theorem T120 : T 120 1 = 7260 := by
  have := T_tri 120
  have e : ((120 : Nat) : Int) * (((120 : Nat) : Int) + 1) = 14520 := rfl
  omega
theorem R0 (c : Nat) : IsR 0 (c + 1) 0 := ⟨fun q h => absurd h (Nat.not_lt_zero _), by rw [B_0]; exact Nat.zero_lt_one⟩
theorem R1 : IsR 1 120 1 := ⟨fun q h => by rw [show q = 0 by omega, B_0]; exact Nat.le_refl 1, B_ge 119 1⟩
end M11

set_option Elab.async false
set_option linter.all false
set_option maxRecDepth 100000
set_option maxHeartbeats 4000000
set_option pp.deepTerms false
set_option pp.deepTerms.threshold 12
namespace K11
open PySem PySem.Spec PyProof.Rows L2
local macro_rules | `(tactic| walk_at "cm") => `(tactic| first | exact cm_r (by decide) (by decide) | exact cm_l (by decide) (by decide) | exact cm_fmod (by decide) (by decide) | exact cm_r (by omega) (by omega) | exact cm_l (by omega) (by omega))
local macro_rules | `(tactic| walk_at "dv") => `(tactic| first | exact ⟨by decide, by decide⟩ | exact ⟨by omega, by omega⟩)
local macro_rules | `(tactic| walk_at "r1") => `(tactic| first
  | refine ⟨_, rfl, ?_⟩ | refine ⟨_, _, rfl, rfl, ?_⟩ | refine Or.inl ⟨_, rfl, ?_⟩ | refine Or.inr ⟨_, rfl, ?_⟩
  | refine And.intro (a := CMul _ _) (by walk_at "cm") ?_ | refine And.intro (a := CDivN _ _) (by walk_at "dv") ?_ | refine And.intro (a := _ ≠ (0 : Int)) (by first | decide | omega) ?_ | refine And.intro (a := scal _ _ = true) rfl ?_ | refine ⟨_, _, _, _, rfl, rfl, SqL.of (by first | exact upd_same | assumption), rfl, ?_⟩ | refine ⟨_, _, _, _, rfl, rfl, (by first | exact upd_same | assumption), rfl, ?_⟩ | refine ⟨_, _, rfl, ?_⟩)
local macro_rules | `(tactic| walk_at "rd") => `(tactic| repeat walk_at "r1")
local macro_rules | `(tactic| walk_at "yes") => `(tactic| (change (if true = true then _ else _); rw [if_pos rfl]))
local macro_rules | `(tactic| walk_at "no") => `(tactic| (change (if false = true then _ else _); rw [if_neg Bool.false_ne_true]))

section
variable {P : Program} {w : World} {K : PySem.W.Frag} {mg : Str → Option Value} {base : Heap}
variable {C_VaultError C_TooMany C_NumberError C_BadPrime C_NoInverse C_NoNumber C_BadTable C_BadCells C_TextError C_ShapeError C_PlanError C_CourseError C_KnowError C_PaperError fV fI : Addr}
variable (T : Txt P K mg C_VaultError C_TooMany C_NumberError C_BadPrime C_NoInverse C_NoNumber C_BadTable C_BadCells C_TextError C_ShapeError C_PlanError C_CourseError C_KnowError C_PaperError fV fI)
include T

omit T in
theorem minsub {n k : Nat} (hk : k ≤ n) : (if (n : Int) - k < k then (n : Int) - k else (k : Int)) = ((min k (n - k) : Nat) : Int) := by
  by_cases h : n - k < k
  · rw [if_pos (by omega), Nat.min_eq_right (by omega)]
    omega
  · rw [if_neg (by omega), Nat.min_eq_left (by omega)]
omit T in
theorem fdiv_nat (a b : Nat) : ((a : Int).fdiv (b : Int)) = ((a / b : Nat) : Int) := by
  rw [Int.fdiv_eq_ediv_of_nonneg _ (by omega)]
  rfl
omit T in
theorem binN {n j : Nat} (h : j ≤ n) : (((M11.bin n j : Nat) : Int) * ((n : Int) - j)).fdiv ((j : Int) + 1) = ((M11.bin n (j + 1) : Nat) : Int) := by
  have e : ((M11.bin n j : Nat) : Int) * ((n : Int) - j) = ((M11.bin n j * (n - j) : Nat) : Int) := by
    rw [Int.natCast_mul, Int.ofNat_sub h]
  rw [e, show (j : Int) + 1 = ((j + 1 : Nat) : Int) from rfl, fdiv_nat, M11.bin_step]
omit T in
theorem bN {c q : Nat} : (((M11.B c q : Nat) : Int) * ((c : Int) + q + 1)).fdiv ((q : Int) + 1) = ((M11.B c (q + 1) : Nat) : Int) := by
  have e : ((M11.B c q : Nat) : Int) * ((c : Int) + q + 1) = ((M11.B c q * (c + q + 1) : Nat) : Int) := by
    rw [Int.natCast_mul]
    rfl
  rw [e, show (q : Int) + 1 = ((q + 1 : Nat) : Int) from rfl, fdiv_nat, M11.B_step]
def spBin : Sp := fun vs H Q _ => ∃ a b : Int, vs = [.int a, .int b] ∧ ∃ n k : Nat, (a = n ∧ b = k) ∧ k ≤ n ∧ n ≤ 1000 ∧ Q (.int (M11.bin n k)) H
theorem ok_binomial {f : Addr} {fd : FuncData} (F : Fun K "_law_binomial" "_law_binomial" s_binomial f fd) : FnOk P w K mg base CX0 1 f fd p_binomial spBin := by
  refine F.ok sc_binomial (fun vs H Q E h => ?_) (fun cdv A outer s H vs Q E hr h => ?_)
  · obtain ⟨a, b, rfl, _⟩ := h
    rfl
  · obtain ⟨_, _, rfl, n, k, ⟨rfl, rfl⟩, hk, hn, q⟩ := h
    refine ⟨_, (pss_cons (ps_set (i := 2) sc_binomial.nd rfl (Or.inl rfl) (by exact pe_int))
      (pss_cons (ps_for PassesOwn.never rfl (pi_range1 (by rfl) T.b_range (pa_cons (pe_callB (call_min2 rfl) (by rfl) T.b_min (by first | exact PySem.boot_min | decide +kernel) (pa_cons (pv 1) (pa_cons (pe_op op_sub (pv 0) (pv 1)) pa_nil))) pa_nil)) (pg_name (i := 3) sc_binomial.nd rfl (Or.inl rfl)) (pss_one (ps_set (i := 2) sc_binomial.nd rfl (Or.inl rfl) (by exact (pe_op op_fdivN (pe_op op_mul (pv 2) (pe_op op_sub (pv 0) (pv 3))) (pe_op op_add (pv 3) pe_int))))))
      (pss_one (ps_ret (by exact (pv 2)))))), ?_⟩
    walk_at "rd"
    rw [minsub hk]
    have hm : min k (n - k) ≤ n := Nat.le_trans (Nat.min_le_left _ _) hk
    refine ⟨by omega, by omega, ?_⟩
    refine for_range (fun i σ H' => ∃ v : Option V, σ = [some (.int n), some (.int k), some (.int (M11.bin n i : Nat)), v] ∧ H' = H) ⟨none, by rw [M11.bin_0]; rfl, rfl⟩ ?_ ?_
    · rintro i σ H' hi ⟨v, rfl, rfl⟩
      have hi2 : i < min k (n - k) := hi
      walk_at "rd"
      refine ⟨some (.int (0 + i)), ?_, rfl⟩
      rw [show (0 : Int) + (i : Int) = i from Int.zero_add _]
      show [_, _, some (V.int ((((M11.bin n i : Nat) : Int) * ((n : Int) - (i : Int))).fdiv ((i : Int) + 1))), _] = _
      rw [binN (by omega)]
    · rintro σ H' ⟨v, rfl, rfl⟩
      walk_at "rd"
      show Q (.int ((M11.bin n (min k (n - k)) : Nat) : Int)) _
      rw [M11.bin_min hk]
      exact q
def spCh : Sp := fun vs H Q _ => ∃ a b : Int, vs = [.int a, .int b] ∧ ∃ n k : Nat, (a = n ∧ b = k) ∧ n ≤ 1000 ∧ Q (.int (M11.bin n k)) H
theorem ok_choose {f : Addr} {fd : FuncData} (F : Fun K "choose" "choose" s_choose f fd) : FnOk P w K mg base CX0 1 f fd p_choose spCh := by
  refine F.ok sc_choose (fun vs H Q E h => ?_) (fun cdv A outer s H vs Q E hr h => ?_)
  · obtain ⟨a, b, rfl, _⟩ := h
    rfl
  · obtain ⟨_, _, rfl, n, k, ⟨rfl, rfl⟩, hn, q⟩ := h
    refine ⟨_, (pss_cons (ps_if (PW.pt (pw_or (pt_cmpR op_lt (pv 1) pe_int (nomark _)) (pw_or1 (pt_cmpR op_gt (pv 1) (pv 0) (nomark _))))) (pss_one (ps_ret (by exact pe_int))) pss_nil)
      (pss_cons (ps_set (i := 2) sc_choose.nd rfl (Or.inl rfl) (by exact pe_int))
      (pss_cons (ps_for PassesOwn.never rfl (pi_range1 (by rfl) T.b_range (pa_cons (pe_callB (call_min2 rfl) (by rfl) T.b_min (by first | exact PySem.boot_min | decide +kernel) (pa_cons (pv 1) (pa_cons (pe_op op_sub (pv 0) (pv 1)) pa_nil))) pa_nil)) (pg_name (i := 3) sc_choose.nd rfl (Or.inl rfl)) (pss_one (ps_set (i := 2) sc_choose.nd rfl (Or.inl rfl) (by exact (pe_op op_fdivN (pe_op op_mul (pv 2) (pe_op op_sub (pv 0) (pv 3))) (pe_op op_add (pv 3) pe_int))))))
      (pss_one (ps_ret (by exact (pv 2))))))), ?_⟩
    walk_at "rd"
    refine ite2 (fun hc => ?_) (fun hc => ?_)
    · walk_at "rd"
      have := of_decide_eq_true hc
      rw [M11.bin_lt (by omega)] at q
      exact q
    have hk : k ≤ n := by
      have := of_ndec hc
      omega
    walk_at "rd"
    rw [minsub hk]
    have hm : min k (n - k) ≤ n := Nat.le_trans (Nat.min_le_left _ _) hk
    refine ⟨by omega, by omega, ?_⟩
    refine for_range (fun i σ H' => ∃ v : Option V, σ = [some (.int n), some (.int k), some (.int (M11.bin n i : Nat)), v] ∧ H' = H) ⟨none, by rw [M11.bin_0]; rfl, rfl⟩ ?_ ?_
    · rintro i σ H' hi ⟨v, rfl, rfl⟩
      have hi2 : i < min k (n - k) := hi
      walk_at "rd"
      refine ⟨some (.int (0 + i)), ?_, rfl⟩
      rw [show (0 : Int) + (i : Int) = i from Int.zero_add _]
      show [_, _, some (V.int ((((M11.bin n i : Nat) : Int) * ((n : Int) - (i : Int))).fdiv ((i : Int) + 1))), _] = _
      rw [binN (by omega)]
    · rintro σ H' ⟨v, rfl, rfl⟩
      walk_at "rd"
      show Q (.int ((M11.bin n (min k (n - k)) : Nat) : Int)) _
      rw [M11.bin_min hk]
      exact q
def spUps : Sp := fun vs H Q _ => ∃ a b : Int, vs = [.int a, .int b] ∧ ∃ n c : Nat, (a = n ∧ b = (c + 1 : Nat)) ∧ n ≤ 1000 ∧ c ≤ 1000 ∧ Q (.int (M11.T n (c + 1))) H
theorem ok_leastups {f : Addr} {fd : FuncData} (F : Fun K "_law_leastups" "_law_leastups" s_leastups f fd) : FnOk P w K mg base CX0 1 f fd p_leastups spUps := by
  refine F.ok sc_leastups (fun vs H Q E h => ?_) (fun cdv A outer s H vs Q E hr h => ?_)
  · obtain ⟨a, b, rfl, _⟩ := h
    rfl
  · obtain ⟨_, _, rfl, n, c, ⟨rfl, rfl⟩, hn, hc, q⟩ := h
    refine ⟨_, (pss_cons (ps_set (i := 2) sc_leastups.nd rfl (Or.inl rfl) (by exact pe_int))
      (pss_cons (ps_set (i := 3) sc_leastups.nd rfl (Or.inl rfl) (by exact pe_int))
      (pss_cons (ps_for PassesOwn.never rfl (pi_range1 (by rfl) T.b_range (pa_cons (pe_op op_add (pv 0) pe_int) pa_nil)) (pg_name (i := 4) sc_leastups.nd rfl (Or.inl rfl)) (pss_cons (ps_if (pt_cmpR op_le (pe_op op_add (pv 0) pe_int) (pv 3) (nomark _)) (pss_one ps_break) pss_nil)
          (pss_cons (ps_set (i := 2) sc_leastups.nd rfl (Or.inl rfl) (by exact (pe_op op_sub (pe_op op_add (pe_op op_add (pv 2) (pv 0)) pe_int) (pv 3))))
          (pss_one (ps_set (i := 3) sc_leastups.nd rfl (Or.inl rfl) (by exact (pe_op op_fdivN (pe_op op_mul (pv 3) (pe_op op_add (pe_op op_add (pv 1) (pv 4)) pe_int)) (pe_op op_add (pv 4) pe_int))))))))
      (pss_one (ps_ret (by exact (pv 2))))))), ?_⟩
    walk_at "rd"
    refine ⟨by omega, by omega, ?_⟩
    refine for_range (fun i σ H' => ∃ v : Option V, σ = [some (.int n), some (.int ((c + 1 : Nat) : Int)), some (.int (M11.S n (c + 1) i)), some (.int (M11.B (c + 1) i : Nat)), v] ∧ H' = H ∧ ∀ q, q < i → M11.B (c + 1) q ≤ n) ⟨none, by rw [M11.S_0, M11.B_0]; rfl, rfl, fun q h => absurd h (Nat.not_lt_zero _)⟩ ?_ ?_
    · rintro i σ H' hi ⟨v, rfl, rfl, hb⟩
      walk_at "rd"
      refine ite2 (fun hc => ?_) (fun hc => ?_)
      · have hr : M11.IsR n (c + 1) i := ⟨hb, by have := of_decide_eq_true hc; omega⟩
        walk_at "rd"
        show Q (.int (M11.S n (c + 1) i)) _
        rw [M11.IsT.eq ⟨i, hr, rfl⟩]
        exact q
      · have hlt := of_ndec hc
        walk_at "rd"
        refine ⟨some (.int (0 + i)), ?_, rfl, fun q hq => ?_⟩
        · rw [M11.S_succ, show (0 : Int) + (i : Int) = i from Int.zero_add _]
          show [_, _, some (V.int (M11.S n (c + 1) i + (n : Int) + 1 - (M11.B (c + 1) i : Nat))), some (V.int ((((M11.B (c + 1) i : Nat) : Int) * (((c + 1 : Nat) : Int) + (i : Int) + 1)).fdiv ((i : Int) + 1))), _] = _
          rw [bN]
          rw [show M11.S n (c + 1) i + ((n : Int) + 1 - (M11.B (c + 1) i : Nat)) = M11.S n (c + 1) i + (n : Int) + 1 - (M11.B (c + 1) i : Nat) by omega]
        · rcases Nat.lt_succ_iff_lt_or_eq.mp hq with a | a
          · exact hb q a
          · rw [a]
            omega
    · rintro σ H' ⟨v, rfl, rfl, hb⟩
      exfalso
      have h1 := hb n (by omega)
      have h2 := M11.B_ge c n
      omega
def spRounds : Sp := fun vs H Q _ => ∃ a b : Int, vs = [.int a, .int b] ∧ ∃ n c r : Nat, (a = n ∧ b = (c + 1 : Nat)) ∧ 1 ≤ n ∧ n ≤ 400 ∧ c ≤ 400 ∧ M11.IsR n (c + 1) r ∧ Q (.int r) H
theorem ok_roundsof {f : Addr} {fd : FuncData} (F : Fun K "_law_roundsof" "_law_roundsof" s_roundsof f fd) {f_binomial : Addr} {fd_binomial : FuncData} (D_binomial : Def K mg "_law_binomial" s_binomial p_binomial f_binomial fd_binomial) (G_binomial : FnOk P w K mg base CX0 1 f_binomial fd_binomial p_binomial spBin) : FnOk P w K mg base CX0 2 f fd p_roundsof spRounds := by
  refine F.ok sc_roundsof (fun vs H Q E h => ?_) (fun cdv A outer s H vs Q E hr h => ?_)
  · obtain ⟨a, b, rfl, _⟩ := h
    rfl
  · obtain ⟨_, _, rfl, n, c, r, ⟨rfl, rfl⟩, hn1, hn, hc, hR, q⟩ := h
    refine ⟨_, (pss_cons (ps_for PassesOwn.never rfl (pi_range2 (by rfl) T.b_range (pa_cons pe_int (pa_cons (pe_op op_add (pv 0) pe_int) pa_nil))) (pg_name (i := 2) sc_roundsof.nd rfl (Or.inl rfl)) (pss_one (ps_if (pt_chain op_le op_lt (pe_call G_binomial (hr.mono (by decide)) rfl D_binomial.g D_binomial.fn.kp D_binomial.b .nil pass0 (pa_cons (pe_op op_sub (pe_op op_add (pv 1) (pv 2)) pe_int) (pa_cons (pv 1) pa_nil))) (pv 0) (pe_call G_binomial (hr.mono (by decide)) rfl D_binomial.g D_binomial.fn.kp D_binomial.b .nil pass0 (pa_cons (pe_op op_add (pv 1) (pv 2)) (pa_cons (pv 1) pa_nil)))) (pss_one (ps_ret (by exact (pv 2)))) pss_nil)))
      (pss_one (ps_ret (by exact pe_int)))), ?_⟩
    walk_at "rd"
    refine ⟨⟨by omega, by omega, by omega, by omega⟩, ?_⟩
    have hsz : ((n : Int) + 1 - 1).toNat = n := by omega
    rw [hsz]
    refine for_range (fun i σ H' => ∃ v : Option V, σ = [some (.int n), some (.int ((c + 1 : Nat) : Int)), v] ∧ H' = H ∧ ∀ q, q ≤ i → M11.B (c + 1) q ≤ n) ⟨none, rfl, rfl, fun q h => by rw [Nat.le_zero.mp h, M11.B_0]; exact hn1⟩ ?_ ?_
    · rintro i σ H' hi ⟨v, rfl, rfl, hb⟩
      walk_at "rd"
      have hi2 : i < n := by omega
      refine ⟨c + 1 + i, c + 1, ⟨by omega, rfl⟩, by omega, by omega, ?_⟩
      walk_at "rd"
      refine ite2 (fun hc => ?_) (fun hc => ?_)
      · walk_at "rd"
        refine ⟨c + 1 + (i + 1), c + 1, ⟨by omega, rfl⟩, by omega, by omega, ?_⟩
        walk_at "rd"
        refine ite2 (fun hc2 => ?_) (fun hc2 => ?_)
        · walk_at "rd"
          have hr : M11.IsR n (c + 1) (i + 1) := ⟨fun q hq => hb q (by omega), by have := of_decide_eq_true hc2; unfold M11.B; omega⟩
          have e := hr.uniq hR
          show Q (.int (1 + i)) _
          rw [← e] at q
          rw [show (1 : Int) + (i : Int) = ((i + 1 : Nat) : Int) by omega]
          exact q
        · have hlt := of_ndec hc2
          refine ⟨_, rfl, rfl, fun q hq => ?_⟩
          rcases Nat.lt_or_ge i q with a | a
          · rw [show q = i + 1 by omega]
            unfold M11.B
            omega
          · exact hb q a
      · exfalso
        have h1 := of_ndec hc
        have h2 := hb i (Nat.le_refl i)
        unfold M11.B at h2
        omega
    · rintro σ H' ⟨v, rfl, rfl, hb⟩
      exfalso
      have h1 := hb n (Nat.le_refl n)
      have h2 := M11.B_ge c n
      omega
end
end K11

set_option Elab.async false
set_option linter.all false
set_option maxRecDepth 100000
set_option maxHeartbeats 4000000
set_option pp.deepTerms false
set_option pp.deepTerms.threshold 12
namespace K11
open PySem PySem.Spec PyProof.Rows L2
local macro_rules | `(tactic| walk_at "cm") => `(tactic| first | exact cm_r (by decide) (by decide) | exact cm_l (by decide) (by decide) | exact cm_fmod (by decide) (by decide) | exact cm_r (by omega) (by omega) | exact cm_l (by omega) (by omega))
local macro_rules | `(tactic| walk_at "dv") => `(tactic| first | exact ⟨by decide, by decide⟩ | exact ⟨by omega, by omega⟩)
local macro_rules | `(tactic| walk_at "r1") => `(tactic| first
  | refine ⟨_, rfl, ?_⟩ | refine ⟨_, _, rfl, rfl, ?_⟩ | refine Or.inl ⟨_, rfl, ?_⟩ | refine Or.inr ⟨_, rfl, ?_⟩
  | refine And.intro (a := CMul _ _) (by walk_at "cm") ?_ | refine And.intro (a := CDivN _ _) (by walk_at "dv") ?_ | refine And.intro (a := _ ≠ (0 : Int)) (by first | decide | omega) ?_ | refine And.intro (a := scal _ _ = true) rfl ?_ | refine ⟨_, _, _, _, rfl, rfl, SqL.of (by first | exact upd_same | assumption), rfl, ?_⟩ | refine ⟨_, _, _, _, rfl, rfl, (by first | exact upd_same | assumption), rfl, ?_⟩ | refine ⟨_, _, rfl, ?_⟩ | refine And.intro (a := (_ : V) = V.non) rfl ?_)
local macro_rules | `(tactic| walk_at "rd") => `(tactic| repeat walk_at "r1")
local macro_rules | `(tactic| walk_at "yes") => `(tactic| (change (if true = true then _ else _); rw [if_pos rfl]))
local macro_rules | `(tactic| walk_at "no") => `(tactic| (change (if false = true then _ else _); rw [if_neg Bool.false_ne_true]))

section
variable {P : Program} {w : World} {K : PySem.W.Frag} {mg : Str → Option Value} {base : Heap}
variable {C_VaultError C_TooMany C_NumberError C_BadPrime C_NoInverse C_NoNumber C_BadTable C_BadCells C_TextError C_ShapeError C_PlanError C_CourseError C_KnowError C_PaperError fV fI : Addr}
variable (T : Txt P K mg C_VaultError C_TooMany C_NumberError C_BadPrime C_NoInverse C_NoNumber C_BadTable C_BadCells C_TextError C_ShapeError C_PlanError C_CourseError C_KnowError C_PaperError fV fI)
include T

def ov : Option Int → V
  | none => .non
  | some k => .int k
def spSum : Sp := fun vs H Q _ => ∃ a b m0 : Int, vs = [.int a, .int b, .int m0] ∧ ∃ n c m : Nat, (a = n ∧ b = (c + 1 : Nat) ∧ m0 = m) ∧ 1 ≤ m ∧ m ≤ n ∧ n ≤ 1000 ∧ c ≤ 1000 ∧ Q (ov (M11.sm n c m)) H
theorem ok_stopsum {f : Addr} {fd : FuncData} (F : Fun K "_law_stopsum" "_law_stopsum" s_stopsum f fd) {f_leastups : Addr} {fd_leastups : FuncData} (D_leastups : Def K mg "_law_leastups" s_leastups p_leastups f_leastups fd_leastups) (G_leastups : FnOk P w K mg base CX0 1 f_leastups fd_leastups p_leastups spUps) : FnOk P w K mg base CX0 2 f fd p_stopsum spSum := by
  refine F.ok sc_stopsum (fun vs H Q E h => ?_) (fun cdv A outer s H vs Q E hr h => ?_)
  · obtain ⟨a, b, m, rfl, _⟩ := h
    rfl
  · obtain ⟨_, _, _, rfl, n, c, m, ⟨rfl, rfl, rfl⟩, hm1, hm, hn, hc, q⟩ := h
    refine ⟨_, (pss_mid (ps_if (PW.pt (pw_and (pt_cmpR op_eq (pv 1) pe_int (nomark _)) (pw_and1 (pt_cmpR op_lt (pv 2) (pv 0) (nomark _))))) (pss_one (ps_ret (by exact pe_non))) pss_nil)
      (pss_cons (ps_set (i := 3) sc_stopsum.nd rfl (Or.inl rfl) (by exact pe_int))
      (pss_mid (ps_if (pt_cmpR op_lt (pv 2) (pv 0) (nomark _)) (pss_one (ps_set (i := 3) sc_stopsum.nd rfl (Or.inl rfl) (by exact (pe_call G_leastups (hr.mono (by decide)) rfl D_leastups.g D_leastups.fn.kp D_leastups.b .nil pass0 (pa_cons (pe_op op_sub (pv 0) (pv 2)) (pa_cons (pe_op op_sub (pv 1) pe_int) pa_nil)))))) pss_nil)
      (pss_one (ps_ret (by exact (pe_op op_add (pe_op op_add (pv 2) (pv 3)) (pe_call G_leastups (hr.mono (by decide)) rfl D_leastups.g D_leastups.fn.kp D_leastups.b .nil pass0 (pa_cons (pe_op op_sub (pv 2) pe_int) (pa_cons (pv 1) pa_nil)))))))))), ?_⟩
    walk_at "rd"
    refine ⟨fun σ H' => σ = [some (.int n), some (.int (c + 1 : Nat)), some (.int m), none] ∧ H' = H ∧ (c = 0 → ¬ m < n), ?_, ?_⟩
    · walk_at "rd"
      refine ite2 (fun hc => ?_) (fun hc => ?_)
      · have c0 : c = 0 := by
          have := V.int.inj (of_decide_eq_true hc)
          omega
        walk_at "rd"
        refine ite2 (fun hc => ?_) (fun hc => ?_)
        · have m0 := of_decide_eq_true hc
          walk_at "rd"
          unfold M11.sm at q
          rw [if_pos c0, if_pos (by omega)] at q
          exact q
        · have m0 := of_ndec hc
          exact ⟨rfl, rfl, fun _ => by omega⟩
      · have c0 : ¬ c = 0 := fun z => of_ndec hc (by rw [z]; rfl)
        exact ⟨rfl, rfl, fun z => absurd z c0⟩
    rintro σ H2 ⟨rfl, rfl, hx⟩
    walk_at "rd"
    refine ⟨fun σ H' => σ = [some (.int n), some (.int (c + 1 : Nat)), some (.int m), some (.int (if m < n then M11.T (n - m) c else 0))] ∧ H' = H2, ?_, ?_⟩
    · walk_at "rd"
      refine ite2 (fun hc => ?_) (fun hc => ?_)
      · have m0 := of_decide_eq_true hc
        have m1 : m < n := by omega
        have c0 : c ≠ 0 := fun z => hx z m1
        obtain ⟨d, rfl⟩ : ∃ d, c = d + 1 := ⟨c - 1, by omega⟩
        walk_at "rd"
        refine ⟨n - m, d, ⟨by omega, by omega⟩, by omega, by omega, ?_⟩
        walk_at "rd"
        rw [if_pos m1]
        exact ⟨rfl, rfl⟩
      · have m0 := of_ndec hc
        rw [if_neg (by omega)]
        exact ⟨rfl, rfl⟩
    rintro σ H3 ⟨rfl, rfl⟩
    walk_at "rd"
    refine ⟨m - 1, c, ⟨by omega, rfl⟩, by omega, by omega, ?_⟩
    walk_at "rd"
    unfold M11.sm at q
    by_cases c0 : c = 0
    · rw [if_pos c0, if_neg (hx c0)] at q
      rw [if_neg (hx c0)]
      subst c0
      show Q (.int ((m : Int) + 0 + M11.T (m - 1) 1)) _
      rw [Int.add_zero]
      exact q
    · rw [if_neg c0] at q
      by_cases hm2 : m < n
      · rw [if_pos hm2]
        exact q
      · rw [if_neg hm2]
        rw [show n - m = 0 by omega] at q
        obtain ⟨d, rfl⟩ : ∃ d, c = d + 1 := ⟨c - 1, by omega⟩
        rw [M11.T_0] at q
        exact q
def spStopof : Sp := fun vs H Q _ => ∃ a b : Int, vs = [.int a, .int b] ∧ ∃ n c : Nat, (a = n ∧ b = (c + 1 : Nat)) ∧ 1 ≤ n ∧ n ≤ 1000 ∧ c ≤ 1000 ∧ ∀ p m, M11.IsStop n c m → H p = none → Q (.ref p) (upd H p (.tup [.int m, .int (M11.T n (c + 1))]))
def bs : Option (Nat × Int) → V × V
  | none => (.non, .int 0)
  | some (m, l) => (.int m, .int l)
theorem ok_stopof {f : Addr} {fd : FuncData} (F : Fun K "_law_stopof" "_law_stopof" s_stopof f fd) {f_stopsum : Addr} {fd_stopsum : FuncData} (D_stopsum : Def K mg "_law_stopsum" s_stopsum p_stopsum f_stopsum fd_stopsum) (G_stopsum : FnOk P w K mg base CX0 2 f_stopsum fd_stopsum p_stopsum spSum) : FnOk P w K mg base CX0 3 f fd p_stopof spStopof := by
  refine F.ok sc_stopof (fun vs H Q E h => ?_) (fun cdv A outer s H vs Q E hr h => ?_)
  · obtain ⟨a, b, rfl, _⟩ := h
    rfl
  · obtain ⟨_, _, rfl, n, c, ⟨rfl, rfl⟩, hn1, hn, hc, q⟩ := h
    refine ⟨_, (pss_cons (ps_set (i := 2) sc_stopof.nd rfl (Or.inl rfl) (by exact pe_non))
      (pss_cons (ps_set (i := 3) sc_stopof.nd rfl (Or.inl rfl) (by exact pe_int))
      (pss_cons (ps_for PassesOwn.never rfl (pi_range2 (by rfl) T.b_range (pa_cons pe_int (pa_cons (pe_op op_add (pv 0) pe_int) pa_nil))) (pg_name (i := 4) sc_stopof.nd rfl (Or.inl rfl)) (pss_cons (ps_set (i := 5) sc_stopof.nd rfl (Or.inl rfl) (by exact (pe_call G_stopsum (hr.mono (by decide)) rfl D_stopsum.g D_stopsum.fn.kp D_stopsum.b .nil pass0 (pa_cons (pv 0) (pa_cons (pv 1) (pa_cons (pv 4) pa_nil))))))
          (pss_one (ps_if (PW.pt (pw_and (pt_cmpR op_notN (pv 5) pe_non (nomark _)) (pw_and1 (PW.pt (pw_or (pt_cmpR op_isN (pv 2) pe_non (nomark _)) (pw_or1 (pt_cmpR op_lt (pv 5) (pv 3) (nomark _)))))))) (pss_cons (ps_set (i := 2) sc_stopof.nd rfl (Or.inl rfl) (by exact (pv 4)))
              (pss_one (ps_set (i := 3) sc_stopof.nd rfl (Or.inl rfl) (by exact (pv 5))))) pss_nil))))
      (pss_one (ps_ret (by exact (pe_tup (pa_cons (pv 2) (pa_cons (pv 3) pa_nil))))))))), ?_⟩
    walk_at "rd"
    refine ⟨⟨by omega, by omega, by omega, by omega⟩, ?_⟩
    have hsz : ((n : Int) + 1 - 1).toNat = n := by omega
    rw [hsz]
    refine for_range (fun i σ H' => ∃ (o : Option (Nat × Int)) (v u : Option V), σ = [some (.int n), some (.int (c + 1 : Nat)), some (bs o).1, some (bs o).2, v, u] ∧ H' = H ∧ M11.Best n c i o) ⟨none, none, none, rfl, rfl, .zero n c⟩ ?_ ?_
    · rintro i σ H' hi ⟨o, v, u, rfl, rfl, hb⟩
      walk_at "rd"
      refine ⟨_, _, _, rfl, n, c, i + 1, ⟨rfl, rfl, by show (1 : Int) + (i : Int) = _; omega⟩, by omega, by omega, by omega, by omega, ?_⟩
      have ei : (1 : Int) + (i : Int) = ((i + 1 : Nat) : Int) := by omega
      rw [ei]
      cases e : M11.sm n c (i + 1) with
      | none =>
        walk_at "rd"
        exact ⟨o, _, _, rfl, rfl, hb.skip e⟩
      | some k0 =>
        cases o with
        | none =>
          walk_at "rd"
          exact ⟨some (i + 1, k0), _, _, rfl, rfl, hb.first e⟩
        | some ml =>
          obtain ⟨m, l⟩ := ml
          walk_at "rd"
          refine ite2 (fun hc => ?_) (fun hc => ?_)
          · have hlt := of_decide_eq_true hc
            walk_at "rd"
            exact ⟨some (i + 1, k0), _, _, rfl, rfl, hb.less e hlt⟩
          · have hge := of_ndec hc
            walk_at "rd"
            exact ⟨some (m, l), _, _, rfl, rfl, hb.keep e (by omega)⟩
    · rintro σ H' ⟨o, v, u, rfl, rfl, hb⟩
      obtain ⟨m, rfl, hm⟩ := hb.end_ hn1
      walk_at "rd"
      refine ⟨sz_le (by show 2 ≤ 100000; decide), fun p hp => ?_⟩
      exact q p m hm hp
end
end K11

set_option Elab.async false
set_option linter.all false
set_option maxRecDepth 100000
set_option maxHeartbeats 4000000
set_option pp.deepTerms false
set_option pp.deepTerms.threshold 12
namespace K11
open PySem PySem.Spec PyProof.Rows L2
local macro_rules | `(tactic| walk_at "cm") => `(tactic| first | exact cm_r (by decide) (by decide) | exact cm_l (by decide) (by decide) | exact cm_fmod (by decide) (by decide) | exact cm_r (by omega) (by omega) | exact cm_l (by omega) (by omega))
local macro_rules | `(tactic| walk_at "dv") => `(tactic| first | exact ⟨by decide, by decide⟩ | exact ⟨by omega, by omega⟩)
local macro_rules | `(tactic| walk_at "r1") => `(tactic| first
  | refine ⟨_, rfl, ?_⟩ | refine ⟨_, _, rfl, rfl, ?_⟩ | refine Or.inl ⟨_, rfl, ?_⟩ | refine Or.inr ⟨_, rfl, ?_⟩
  | refine And.intro (a := CMul _ _) (by walk_at "cm") ?_ | refine And.intro (a := CDivN _ _) (by walk_at "dv") ?_ | refine And.intro (a := _ ≠ (0 : Int)) (by first | decide | omega) ?_ | refine And.intro (a := scal _ _ = true) rfl ?_ | refine ⟨_, _, _, _, rfl, rfl, SqL.of (by first | exact upd_same | assumption), rfl, ?_⟩ | refine ⟨_, _, _, _, rfl, rfl, (by first | exact upd_same | assumption), rfl, ?_⟩ | refine ⟨_, _, rfl, ?_⟩ | refine And.intro (a := (_ : V) = V.non) rfl ?_ | refine And.intro (a := (_ : List V) = []) rfl ?_ | refine ⟨_, _, rfl, SqT.of (by first | exact upd_same | assumption), rfl, ?_⟩)
local macro_rules | `(tactic| walk_at "rd") => `(tactic| repeat walk_at "r1")
local macro_rules | `(tactic| walk_at "yes") => `(tactic| (change (if true = true then _ else _); rw [if_pos rfl]))
local macro_rules | `(tactic| walk_at "no") => `(tactic| (change (if false = true then _ else _); rw [if_neg Bool.false_ne_true]))
local macro_rules | `(tactic| walk_at "nw") => `(tactic| refine And.intro (a := _ ≤ sizeLine) (sz_le (Nat.le_of_ble_eq_true rfl)) ?_)

section
variable {P : Program} {w : World} {K : PySem.W.Frag} {mg : Str → Option Value} {base : Heap}
variable {C_VaultError C_TooMany C_NumberError C_BadPrime C_NoInverse C_NoNumber C_BadTable C_BadCells C_TextError C_ShapeError C_PlanError C_CourseError C_KnowError C_PaperError fV fI : Addr}
variable (T : Txt P K mg C_VaultError C_TooMany C_NumberError C_BadPrime C_NoInverse C_NoNumber C_BadTable C_BadCells C_TextError C_ShapeError C_PlanError C_CourseError C_KnowError C_PaperError fV fI)
include T

def spEdgeL : Sp := fun vs H Q _ => ∃ (st : Addr) (b : Int), vs = [.ref st, .int b] ∧ ∃ c : Nat, (b = (c + 1 : Nat) ∧ c < 120) ∧ Store H st ∧ ∀ n H', 1 ≤ n → n ≤ 120 → Store H' st → But st H H' → Q (.int n) H'
theorem ok_edgelength {f : Addr} {fd : FuncData} (F : Fun K "_law_edgelength" "_law_edgelength" s_edgelength f fd) {f_take : Addr} {fd_take : FuncData} (D_take : Def K mg "_law_take" s_take p_take f_take fd_take) (G_take : FnOk P w K mg base CX0 2 f_take fd_take p_take spTake) {f_binomial : Addr} {fd_binomial : FuncData} (D_binomial : Def K mg "_law_binomial" s_binomial p_binomial f_binomial fd_binomial) (G_binomial : FnOk P w K mg base CX0 1 f_binomial fd_binomial p_binomial spBin) : FnOk P w K mg base CX0 3 f fd p_edgelength spEdgeL := by
  refine F.ok sc_edgelength (fun vs H Q E h => ?_) (fun cdv A outer s H vs Q E hr h => ?_)
  · obtain ⟨a, b, rfl, _⟩ := h
    rfl
  · obtain ⟨st, _, rfl, c, ⟨rfl, hc⟩, S, q⟩ := h
    refine ⟨_, (pss_cons (ps_set (i := 2) sc_edgelength.nd rfl (Or.inl rfl) (by exact (pe_op op_sub (pe_call G_binomial (hr.mono (by decide)) rfl D_binomial.g D_binomial.fn.kp D_binomial.b .nil pass0 (pa_cons (pe_op op_add (pe_op op_add (pv 1) pe_int) (pe_call G_take (hr.mono (by decide)) rfl D_take.g D_take.fn.kp D_take.b .nil pass0 (pa_cons (pv 0) (pa_cons pe_int pa_nil)))) (pa_cons (pv 1) pa_nil))) (pe_call G_take (hr.mono (by decide)) rfl D_take.g D_take.fn.kp D_take.b .nil pass0 (pa_cons (pv 0) (pa_cons pe_int pa_nil))))))
      (pss_cons (ps_if (PW.pt (pw_or (pt_cmpR op_gt (pv 2) pe_int (nomark _)) (pw_or1 (pt_cmpR op_lt (pv 2) pe_int (nomark _))))) (pss_one (ps_ret (by exact (pe_callB (call_max2 rfl) (by rfl) T.b_max (by first | exact PySem.boot_max | decide +kernel) (pa_cons pe_int (pa_cons (pe_callB (call_min2 rfl) (by rfl) T.b_min (by first | exact PySem.boot_min | decide +kernel) (pa_cons pe_int (pa_cons (pe_op op_add (pe_op op_sub (pv 1) pe_int) (pe_call G_take (hr.mono (by decide)) rfl D_take.g D_take.fn.kp D_take.b .nil pass0 (pa_cons (pv 0) (pa_cons pe_int pa_nil)))) pa_nil))) pa_nil)))))) pss_nil)
      (pss_one (ps_ret (by exact (pv 2)))))), ?_⟩
    walk_at "rd"
    refine ⟨by decide, S, fun d H1 d0 d1 S1 b1 => ?_⟩
    walk_at "rd"
    rw [if_pos (by decide)] at d1
    obtain ⟨j, rfl⟩ : ∃ j : Nat, d = (j : Int) := ⟨d.toNat, by omega⟩
    refine ⟨c + 1 + 1 + j, c + 1, ⟨by omega, rfl⟩, by omega, by omega, ?_⟩
    walk_at "rd"
    refine ⟨by decide, S1, fun d H2 e0 e1 S2 b2 => ?_⟩
    walk_at "rd"
    have b12 := b1.trans b2
    have fin : ∀ H3 (e : Int), Store H3 st → But st H H3 → Q (V.int (if (if e < 120 then e else 120) > 1 then (if e < 120 then e else 120) else 1)) H3 := by
      intro H3 e S b
      refine q _ H3 ?_ ?_ S b
      · split <;> omega
      · split <;> (try split) <;> omega
    refine ite2 (fun hc => ?_) (fun hc => ?_)
    · walk_at "rd"
      refine ⟨by decide, S2, fun d3 H3 f0 f1 S3 b3 => ?_⟩
      walk_at "rd"
      exact fin H3 _ S3 (b12.trans b3)
    · walk_at "rd"
      refine ite2 (fun hc2 => ?_) (fun hc2 => ?_)
      · walk_at "rd"
        refine ⟨by decide, S2, fun d3 H3 f0 f1 S3 b3 => ?_⟩
        walk_at "rd"
        exact fin H3 _ S3 (b12.trans b3)
      · have a1 := of_ndec hc
        have a2 := of_ndec hc2
        walk_at "rd"
        exact q ((M11.bin (c + 1 + 1 + j) (c + 1) : Nat) - d) H2 (by omega) (by omega) S2 b12
inductive Good : Str → Nat → Nat → Int → Prop
  | steps (n c : Nat) : Good "steps" n c (M11.T n (c + 1))
  | rounds (n c r : Nat) (h : M11.IsR n (c + 1) r) : Good "rounds" n c r
  | stop (n c m : Nat) (h : M11.IsStop n c m) : Good "stop" n c m
def Row (H : Hp) (x : V) : Prop := ∃ (t : Addr) (w : Str) (n c : Nat) (d : Int), x = .ref t ∧ H t = some (.tup [.str w, .int n, .int (c + 1 : Nat), .int d]) ∧ n ≤ 120 ∧ c < 120 ∧ Good w n c d
omit T in
theorem same_free {H H' : Hp} {l : Addr} (e : H' l = none) (h : Same H H') : H l = none := by
  cases q : H l with
  | none => rfl
  | some o =>
    rw [h _ _ q] at e
    cases e
def spDue : Sp := fun vs H Q _ => ∃ a b : Int, vs = [.int a, .int b] ∧ ∃ n c : Nat, (a = n ∧ b = (c + 1 : Nat)) ∧ 1 ≤ n ∧ n ≤ 120 ∧ c < 120 ∧ ∀ p r t1 t2 t3 H', Same H H' → H' p = some (.tup [.bl true, .ref r]) → H' r = some (.lst [t1, t2, t3]) → H r = none → Row H' t1 → Row H' t2 → Row H' t3 → Q (.ref p) H'
theorem ok_dueof {f : Addr} {fd : FuncData} (F : Fun K "_law_dueof" "_law_dueof" s_dueof f fd) {f_stopof : Addr} {fd_stopof : FuncData} (D_stopof : Def K mg "_law_stopof" s_stopof p_stopof f_stopof fd_stopof) (G_stopof : FnOk P w K mg base CX0 3 f_stopof fd_stopof p_stopof spStopof) {f_leastups : Addr} {fd_leastups : FuncData} (D_leastups : Def K mg "_law_leastups" s_leastups p_leastups f_leastups fd_leastups) (G_leastups : FnOk P w K mg base CX0 1 f_leastups fd_leastups p_leastups spUps) {f_roundsof : Addr} {fd_roundsof : FuncData} (D_roundsof : Def K mg "_law_roundsof" s_roundsof p_roundsof f_roundsof fd_roundsof) (G_roundsof : FnOk P w K mg base CX0 2 f_roundsof fd_roundsof p_roundsof spRounds) : FnOk P w K mg base CX0 4 f fd p_dueof spDue := by
  refine F.ok sc_dueof (fun vs H Q E h => ?_) (fun cdv A outer s H vs Q E hr h => ?_)
  · obtain ⟨a, b, rfl, _⟩ := h
    rfl
  · obtain ⟨_, _, rfl, n, c, ⟨rfl, rfl⟩, hn1, hn, hc, q⟩ := h
    refine ⟨_, (pss_cons (ps_asg (by exact (pe_call G_stopof (hr.mono (by decide)) rfl D_stopof.g D_stopof.fn.kp D_stopof.b .nil pass0 (pa_cons (pv 0) (pa_cons (pv 1) pa_nil)))) (pg_tup rfl (pgs_cons (pg_name (i := 2) sc_dueof.nd rfl (Or.inl rfl)) (pgs_cons (pg_name (i := 3) sc_dueof.nd rfl (Or.inl rfl)) pgs_nil))))
      (pss_cons (ps_set (i := 4) sc_dueof.nd rfl (Or.inl rfl) (by exact (pe_call G_leastups (hr.mono (by decide)) rfl D_leastups.g D_leastups.fn.kp D_leastups.b .nil pass0 (pa_cons (pv 0) (pa_cons (pv 1) pa_nil)))))
      (pss_cons (ps_set (i := 5) sc_dueof.nd rfl (Or.inl rfl) (by exact (pe_lst (pa_cons (pe_tup (pa_cons pe_str (pa_cons (pv 0) (pa_cons (pv 1) (pa_cons (pv 4) pa_nil))))) (pa_cons (pe_tup (pa_cons pe_str (pa_cons (pv 0) (pa_cons (pv 1) (pa_cons (pe_call G_roundsof (hr.mono (by decide)) rfl D_roundsof.g D_roundsof.fn.kp D_roundsof.b .nil pass0 (pa_cons (pv 0) (pa_cons (pv 1) pa_nil))) pa_nil))))) (pa_cons (pe_tup (pa_cons pe_str (pa_cons (pv 0) (pa_cons (pv 1) (pa_cons (pv 2) pa_nil))))) pa_nil))))))
      (pss_one (ps_ret (by exact (pe_tup (pa_cons (pe_cmpR op_eq (pv 3) (pv 4) (nomark _)) (pa_cons (pv 5) pa_nil))))))))), ?_⟩
    walk_at "rd"
    refine ⟨n, c, ⟨rfl, rfl⟩, hn1, by omega, by omega, fun p m hm hp => ?_⟩
    walk_at "rd"
    refine ⟨n, c, ⟨rfl, rfl⟩, by omega, by omega, ?_⟩
    walk_at "rd"
    walk_at "nw"
    intro t1 h1
    walk_at "rd"
    obtain ⟨r, hr⟩ := M11.IsR.ex n c
    refine ⟨n, c, r, ⟨rfl, rfl⟩, hn1, by omega, by omega, hr, ?_⟩
    walk_at "rd"
    walk_at "nw"
    intro t2 h2
    walk_at "rd"
    walk_at "nw"
    intro t3 h3
    walk_at "rd"
    walk_at "nw"
    intro l h4
    walk_at "rd"
    walk_at "nw"
    intro u h5
    refine q u l (.ref t1) (.ref t2) (.ref t3) _ ((((((same_new hp).trans (same_new h1)).trans (same_new h2)).trans (same_new h3)).trans (same_new h4)).trans (same_new h5)) (by rw [decide_eq_true rfl]; exact upd_same) (same_new h5 _ _ upd_same) (same_free h4 ((((same_new hp).trans (same_new h1)).trans (same_new h2)).trans (same_new h3))) ?_ ?_ ?_
    · exact ⟨t1, "steps", n, c, _, rfl, same_new h5 _ _ (same_new h4 _ _ (same_new h3 _ _ (same_new h2 _ _ upd_same))), hn, hc, .steps n c⟩
    · exact ⟨t2, "rounds", n, c, _, rfl, same_new h5 _ _ (same_new h4 _ _ (same_new h3 _ _ upd_same)), hn, hc, .rounds n c r hr⟩
    · exact ⟨t3, "stop", n, c, _, rfl, same_new h5 _ _ (same_new h4 _ _ upd_same), hn, hc, .stop n c m hm⟩
end
end K11

set_option Elab.async false
set_option linter.all false
set_option maxRecDepth 100000
set_option maxHeartbeats 4000000
set_option pp.deepTerms false
set_option pp.deepTerms.threshold 12
namespace K11
open PySem PySem.Spec PyProof.Rows L2
local macro_rules | `(tactic| walk_at "ty") => `(tactic| first | exact .base (.int _) | exact .base (.bl _) | exact .base (.str _) | exact .base .non | assumption | exact .base (.tup (by assumption)) | exact .base (.lst (by assumption)))
local macro_rules | `(tactic| walk_at "cm") => `(tactic| first | exact cm_r (by decide) (by decide) | exact cm_l (by decide) (by decide) | exact cm_fmod (by decide) (by decide) | exact cm_r (by omega) (by omega) | exact cm_l (by omega) (by omega))
local macro_rules | `(tactic| walk_at "dv") => `(tactic| first | exact ⟨by decide, by decide⟩ | exact ⟨by omega, by omega⟩)
local macro_rules | `(tactic| walk_at "r1") => `(tactic| first
  | refine ⟨_, rfl, ?_⟩ | refine ⟨_, _, rfl, rfl, ?_⟩ | refine Or.inl ⟨_, rfl, ?_⟩ | refine Or.inr ⟨_, rfl, ?_⟩
  | refine And.intro (a := CMul _ _) (by walk_at "cm") ?_ | refine And.intro (a := CDivN _ _) (by walk_at "dv") ?_ | refine And.intro (a := _ ≠ (0 : Int)) (by first | decide | omega) ?_ | refine And.intro (a := scal _ _ = true) rfl ?_ | refine ⟨_, _, _, _, rfl, rfl, SqL.of (by first | exact upd_same | assumption), rfl, ?_⟩ | refine ⟨_, _, _, _, rfl, rfl, (by first | exact upd_same | assumption), rfl, ?_⟩ | refine ⟨_, _, rfl, ?_⟩ | refine And.intro (a := (_ : V) = V.non) rfl ?_ | refine And.intro (a := (_ : List V) = []) rfl ?_ | refine ⟨_, _, rfl, SqT.of (by first | exact upd_same | assumption), rfl, ?_⟩
  | refine ⟨_, _, _, _, true, rfl, ClsV.ty _, (by walk_at "ty"), kit_ty (by decide +kernel), ?_⟩ | refine ⟨_, _, _, _, false, rfl, ClsV.ty _, (by walk_at "ty"), kit_ty (by decide +kernel), ?_⟩)
local macro_rules | `(tactic| walk_at "rd") => `(tactic| repeat walk_at "r1")
local macro_rules | `(tactic| walk_at "yes") => `(tactic| (change (if true = true then _ else _); rw [if_pos rfl]))
local macro_rules | `(tactic| walk_at "no") => `(tactic| (change (if false = true then _ else _); rw [if_neg Bool.false_ne_true]))
local macro_rules | `(tactic| walk_at "nw") => `(tactic| refine And.intro (a := _ ≤ sizeLine) (sz_le (Nat.le_of_ble_eq_true rfl)) ?_)

section
variable {P : Program} {w : World} {K : PySem.W.Frag} {mg : Str → Option Value} {base : Heap}
variable {C_VaultError C_TooMany C_NumberError C_BadPrime C_NoInverse C_NoNumber C_BadTable C_BadCells C_TextError C_ShapeError C_PlanError C_CourseError C_KnowError C_PaperError fV fI : Addr}
variable (T : Txt P K mg C_VaultError C_TooMany C_NumberError C_BadPrime C_NoInverse C_NoNumber C_BadTable C_BadCells C_TextError C_ShapeError C_PlanError C_CourseError C_KnowError C_PaperError fV fI)
include T

omit T in
theorem isi_ty {K : PySem.W.Frag} {H : Hp} {x : V} {n m : String} {b : Bool} {Q : VK} (h : TyX K H x (.type n)) (e : kitB n m = some b) (q : Q (.bl b) H) : rIsi K [x, .ty m] H Q := ⟨x, .ty m, _, _, b, rfl, .ty m, h, kit_ty e, q⟩
/-- no int: a bool, None, a string, a tuple or a list -/
inductive NotInt (H : Hp) : V → String → Prop
  | bl (b : Bool) : NotInt H (.bl b) "bool"
  | non : NotInt H .non "NoneType"
  | str (s : Str) : NotInt H (.str s) "str"
  | tup (a : Addr) (xs : List V) (h : H a = some (.tup xs)) : NotInt H (.ref a) "tuple"
  | lst (a : Addr) (xs : List V) (h : H a = some (.lst xs)) : NotInt H (.ref a) "list"
omit T in
theorem NotInt.ty {K : PySem.W.Frag} {H : Hp} {x : V} {n : String} (h : NotInt H x n) : TyX K H x (.type n) := by
  cases h with
  | bl b => exact .base (.bl b)
  | non => exact .base .non
  | str s => exact .base (.str s)
  | tup a xs h => exact .base (.tup h)
  | lst a xs h => exact .base (.lst h)
def spWhole : Sp := fun vs H Q _ => ∃ v : V, vs = [v] ∧ ((∃ i, v = .int i ∧ Q (.bl true) H) ∨ (∃ n, NotInt H v n ∧ Q (.bl false) H))
theorem ok_is_whole {f : Addr} {fd : FuncData} (F : Fun K "is_whole" "is_whole" s_is_whole f fd) : FnOk P w K mg base CX0 1 f fd p_is_whole spWhole := by
  refine F.ok sc_is_whole (fun vs H Q E h => ?_) (fun cdv A outer s H vs Q E hr h => ?_)
  · obtain ⟨a, rfl, _⟩ := h
    rfl
  · obtain ⟨v, rfl, q⟩ := h
    refine ⟨_, (pss_one (ps_ret (by exact (pe_and (pe_callB call_isi (by rfl) T.b_isinstance (by first | exact PySem.boot_isinstance | decide +kernel) (pa_cons (pv 0) (pa_cons (pe_bltn (v := .ty "int") (by rfl) T.b_int (by first | exact PySem.boot_int | decide +kernel) rfl) pa_nil))) (pe_one (pe_not (pe_callB call_isi (by rfl) T.b_isinstance (by first | exact PySem.boot_isinstance | decide +kernel) (pa_cons (pv 0) (pa_cons (pe_bltn (v := .ty "bool") (by rfl) T.b_bool (by first | exact PySem.boot_bool | decide +kernel) rfl) pa_nil))))))))), ?_⟩
    walk_at "rd"
    rcases q with ⟨i, rfl, q⟩ | ⟨n, h, q⟩
    · walk_at "rd"
      exact q
    · cases h <;> (walk_at "rd"; exact q)
def spNeed (C : Addr) : Sp := fun vs H Q E => ∃ v : V, vs = [v] ∧ ((∃ i, v = .int i ∧ 1 ≤ i ∧ Q .non H) ∨ ((∃ i, v = .int i ∧ i < 1) ∨ (∃ n, NotInt H v n)) ∧ ∀ d, H d = none → E (.ref C) (some d) (upd H d (.xd (excD ["cells"] "BadCells" [v]))))
theorem ok_need_cells {f : Addr} {fd : FuncData} (F : Fun K "need_cells" "need_cells" s_need_cells f fd) {f_is_whole : Addr} {fd_is_whole : FuncData} (D_is_whole : Def K mg "is_whole" s_is_whole p_is_whole f_is_whole fd_is_whole) (G_is_whole : FnOk P w K mg base CX0 1 f_is_whole fd_is_whole p_is_whole spWhole) : FnOk P w K mg base (L2N.CX P w) 3 f fd p_need_cells (spNeed C_BadCells) := by
  refine F.okN sc_need_cells (fun vs H Q E h => ?_) (fun cdv A outer s H vs Q E hr h => ?_)
  · obtain ⟨a, rfl, _⟩ := h
    rfl
  · obtain ⟨v, rfl, q⟩ := h
    refine ⟨_, (pss_one (ps_if (PW.pt (pw_or (pt_not (pt_val (pe_call G_is_whole (hr.mono (by decide)) rfl D_is_whole.g D_is_whole.fn.kp D_is_whole.b .nil pass0 (pa_cons (pv 0) pa_nil)))) (pw_or1 (pt_cmpR op_lt (pv 0) pe_int (nomark _))))) (pss_one (ps_raiseN rfl T.lf_BadCells hr (L2N.takes_of rfl rfl rfl rfl) T.g_BadCells (pa_cons (pv 0) pa_nil))) pss_nil)), ?_⟩
    walk_at "rd"
    rcases q with ⟨i, rfl, hi, q⟩ | ⟨h | ⟨n, h⟩, q⟩
    · refine .inl ⟨i, rfl, ?_⟩
      walk_at "rd"
      refine ite2 (fun hc => ?_) (fun hc => ?_)
      · have := of_decide_eq_true hc
        omega
      · walk_at "rd"
        exact q
    · obtain ⟨i, rfl, hi⟩ := h
      refine .inl ⟨i, rfl, ?_⟩
      walk_at "rd"
      refine ite2 (fun hc => ?_) (fun hc => ?_)
      · walk_at "rd"
        exact ⟨rfl, fun d hd => q d hd⟩
      · have := of_ndec hc
        omega
    · refine .inr ⟨n, h, ?_⟩
      walk_at "rd"
      exact ⟨rfl, fun d hd => q d hd⟩
def spR (C : Addr) (sp : Nat → Nat → Hp → VK → Prop) : Sp := fun vs H Q E => ∃ a b : V, vs = [a, b] ∧ ((∃ n c : Nat, (a = .int n ∧ b = .int (c + 1 : Nat)) ∧ n ≤ 120 ∧ c < 120 ∧ sp n c H Q) ∨ ((∃ i, b = .int i ∧ i < 1) ∨ (∃ n, NotInt H b n)) ∧ ∀ d, H d = none → E (.ref C) (some d) (upd H d (.xd (excD ["cells"] "BadCells" [b]))))
def spRounds2 : Nat → Nat → Hp → VK → Prop := fun n c H Q => ∀ r, M11.IsR n (c + 1) r → Q (.int r) H
theorem ok_rounds {f : Addr} {fd : FuncData} (F : Fun K "rounds" "rounds" s_rounds f fd) {f_need_cells : Addr} {fd_need_cells : FuncData} (D_need_cells : Def K mg "need_cells" s_need_cells p_need_cells f_need_cells fd_need_cells) (G_need_cells : FnOk P w K mg base (L2N.CX P w) 3 f_need_cells fd_need_cells p_need_cells (spNeed C_BadCells)) {f_choose : Addr} {fd_choose : FuncData} (D_choose : Def K mg "choose" s_choose p_choose f_choose fd_choose) (G_choose : FnOk P w K mg base CX0 1 f_choose fd_choose p_choose spCh) : FnOk P w K mg base (L2N.CX P w) 4 f fd p_rounds (spR C_BadCells spRounds2) := by
  refine F.okN sc_rounds (fun vs H Q E h => ?_) (fun cdv A outer s H vs Q E hr h => ?_)
  · obtain ⟨a, b, rfl, _⟩ := h
    rfl
  · obtain ⟨a, b, rfl, q⟩ := h
    have passO := passes_of (X := cxOf (L2N.CX P w) P w K mg base N_rounds "rounds" (defScope s_rounds) f cdv A outer s H E) rfl
    have tk := L2N.takes_of (X := cxOf (L2N.CX P w) P w K mg base N_rounds "rounds" (defScope s_rounds) f cdv A outer s H E) rfl rfl rfl rfl
    refine ⟨_, (pss_cons (ps_expr (pe_callS G_need_cells (hr.mono (by decide)) rfl D_need_cells.g D_need_cells.fn.kp D_need_cells.b (fun σ => L2N.passAt tk σ) (pa_cons (pv 1) pa_nil)))
      (pss_cons (ps_set (i := 2) sc_rounds.nd rfl (Or.inl rfl) (by exact pe_int))
      (pss_cons (ps_while passO (pt_cmpR op_le (pe_call G_choose (hr.mono (by decide)) rfl D_choose.g D_choose.fn.kp D_choose.b .nil pass0 (pa_cons (pe_op op_add (pv 1) (pv 2)) (pa_cons (pv 1) pa_nil))) (pv 0) (nomark _)) (pss_one (ps_aug (i := 2) sc_rounds.nd rfl (Or.inl rfl) pe_int ip_add)))
      (pss_one (ps_ret (by exact (pv 2))))))), ?_⟩
    rcases q with ⟨n', c', ⟨rfl, rfl⟩, hn, hc, q⟩ | ⟨h, q⟩
    · obtain ⟨r, hr⟩ := M11.IsR.ex n' c'
      have q := q r hr
      walk_at "rd"
      refine ⟨by omega, ?_⟩
      walk_at "rd"
      refine ⟨fun m σ H' => ∃ k : Nat, m = r - k ∧ k ≤ r ∧ σ = [some (.int n'), some (.int (c' + 1 : Nat)), some (.int k)] ∧ H' = H, ⟨r, 0, rfl, Nat.zero_le r, rfl, rfl⟩, ?_⟩
      rintro m σ H' ⟨k, rfl, hk, rfl, rfl⟩
      have hrn := hr.le
      walk_at "rd"
      refine ⟨c' + 1 + k, c' + 1, ⟨by omega, rfl⟩, by omega, ?_⟩
      walk_at "rd"
      refine ite2 (fun hc => ?_) (fun hc => ?_)
      · have hle : M11.B (c' + 1) k ≤ n' := by
          have := of_decide_eq_true hc
          unfold M11.B
          omega
        have hlt : k < r := (Nat.lt_or_ge k r).elim id fun z => by
          have h2 := hr.2
          rw [show r = k by omega] at h2
          omega
        refine ⟨fun σ' H'' => ∃ m', m' < r - k ∧ ∃ k : Nat, m' = r - k ∧ k ≤ r ∧ σ' = [some (.int n'), some (.int (c' + 1 : Nat)), some (.int k)] ∧ H'' = H', fun _ _ h => h, ?_⟩
        walk_at "rd"
        exact ⟨r - (k + 1), by omega, k + 1, rfl, hlt, rfl, rfl⟩
      · have hgt := of_ndec hc
        have hkr : k = r := (Nat.lt_or_ge k r).elim (fun z => by
          have h2 := hr.1 k z
          unfold M11.B at h2
          omega) fun z => by omega
        subst hkr
        walk_at "rd"
        exact q
    · walk_at "rd"
      exact .inr ⟨h, q⟩
def spSteps2 : Nat → Nat → Hp → VK → Prop := fun n c H Q => Q (.int (M11.T n (c + 1))) H
theorem ok_least_steps {f : Addr} {fd : FuncData} (F : Fun K "least_steps" "least_steps" s_least_steps f fd) {f_rounds : Addr} {fd_rounds : FuncData} (D_rounds : Def K mg "rounds" s_rounds p_rounds f_rounds fd_rounds) (G_rounds : FnOk P w K mg base (L2N.CX P w) 4 f_rounds fd_rounds p_rounds (spR C_BadCells spRounds2)) {f_choose : Addr} {fd_choose : FuncData} (D_choose : Def K mg "choose" s_choose p_choose f_choose fd_choose) (G_choose : FnOk P w K mg base CX0 1 f_choose fd_choose p_choose spCh) : FnOk P w K mg base (L2N.CX P w) 5 f fd p_least_steps (spR C_BadCells spSteps2) := by
  refine F.okN sc_least_steps (fun vs H Q E h => ?_) (fun cdv A outer s H vs Q E hr h => ?_)
  · obtain ⟨a, b, rfl, _⟩ := h
    rfl
  · obtain ⟨a, b, rfl, q⟩ := h
    have tk := L2N.takes_of (X := cxOf (L2N.CX P w) P w K mg base N_least_steps "least_steps" (defScope s_least_steps) f cdv A outer s H E) rfl rfl rfl rfl
    refine ⟨_, (pss_cons (ps_set (i := 2) sc_least_steps.nd rfl (Or.inl rfl) (by exact (pe_callS G_rounds (hr.mono (by decide)) rfl D_rounds.g D_rounds.fn.kp D_rounds.b (fun σ => L2N.passAt tk σ) (pa_cons (pv 0) (pa_cons (pv 1) pa_nil)))))
      (pss_one (ps_ret (by exact (pe_op op_sub (pe_op op_mul (pv 2) (pe_op op_add (pv 0) pe_int)) (pe_call G_choose (hr.mono (by decide)) rfl D_choose.g D_choose.fn.kp D_choose.b .nil pass0 (pa_cons (pe_op op_add (pv 1) (pv 2)) (pa_cons (pe_op op_add (pv 1) pe_int) pa_nil)))))))), ?_⟩
    walk_at "rd"
    rcases q with ⟨n', c', ⟨rfl, rfl⟩, hn, hc, q⟩ | ⟨h, q⟩
    · refine .inl ⟨n', c', ⟨rfl, rfl⟩, hn, hc, fun r hr => ?_⟩
      walk_at "rd"
      have hrn := hr.le
      refine ⟨c' + 1 + r, c' + 1 + 1, ⟨by omega, by omega⟩, by omega, ?_⟩
      walk_at "rd"
      have e := M11.IsT.eq ⟨r, hr, rfl⟩
      have q : Q (.int (M11.T n' (c' + 1))) H := q
      rw [← e] at q
      exact q
    · exact .inr ⟨h, q⟩
omit T in
theorem bnot_t {b : Bool} (h : (!b) = true) : b = false := by
  cases b
  · rfl
  · cases h
omit T in
theorem bnot_f {b : Bool} (h : ¬ (!b) = true) : b = true := by
  cases b
  · exact absurd rfl h
  · rfl
def spStop2 : Nat → Nat → Hp → VK → Prop := fun n c H Q => 1 ≤ n ∧ ∀ m, M11.IsStop n c m → Q (.int m) H
theorem ok_best_stop {f : Addr} {fd : FuncData} (F : Fun K "best_stop" "best_stop" s_best_stop f fd) {f_need_cells : Addr} {fd_need_cells : FuncData} (D_need_cells : Def K mg "need_cells" s_need_cells p_need_cells f_need_cells fd_need_cells) (G_need_cells : FnOk P w K mg base (L2N.CX P w) 3 f_need_cells fd_need_cells p_need_cells (spNeed C_BadCells)) {f_least_steps : Addr} {fd_least_steps : FuncData} (D_least_steps : Def K mg "least_steps" s_least_steps p_least_steps f_least_steps fd_least_steps) (G_least_steps : FnOk P w K mg base (L2N.CX P w) 5 f_least_steps fd_least_steps p_least_steps (spR C_BadCells spSteps2)) : FnOk P w K mg base (L2N.CX P w) 6 f fd p_best_stop (spR C_BadCells spStop2) := by
  refine F.okN sc_best_stop (fun vs H Q E h => ?_) (fun cdv A outer s H vs Q E hr h => ?_)
  · obtain ⟨a, b, rfl, _⟩ := h
    rfl
  · obtain ⟨a, b, rfl, q⟩ := h
    have passO := passes_of (X := cxOf (L2N.CX P w) P w K mg base N_best_stop "best_stop" (defScope s_best_stop) f cdv A outer s H E) rfl
    have tk := L2N.takes_of (X := cxOf (L2N.CX P w) P w K mg base N_best_stop "best_stop" (defScope s_best_stop) f cdv A outer s H E) rfl rfl rfl rfl
    refine ⟨_, (pss_cons (ps_expr (pe_callS G_need_cells (hr.mono (by decide)) rfl D_need_cells.g D_need_cells.fn.kp D_need_cells.b (fun σ => L2N.passAt tk σ) (pa_cons (pv 1) pa_nil)))
      (pss_cons (ps_if (pt_cmpR op_eq (pv 1) pe_int (nomark _)) (pss_one (ps_ret (by exact (pv 0)))) pss_nil)
      (pss_cons (ps_set (i := 2) sc_best_stop.nd rfl (Or.inl rfl) (by exact (pe_callS G_least_steps (hr.mono (by decide)) rfl D_least_steps.g D_least_steps.fn.kp D_least_steps.b (fun σ => L2N.passAt tk σ) (pa_cons (pv 0) (pa_cons (pv 1) pa_nil)))))
      (pss_cons (ps_set (i := 3) sc_best_stop.nd rfl (Or.inl rfl) (by exact pe_int))
      (pss_cons (ps_while passO (pt_cmpR op_ne (pe_op op_add (pe_op op_add (pv 3) (pe_callS G_least_steps (hr.mono (by decide)) rfl D_least_steps.g D_least_steps.fn.kp D_least_steps.b (fun σ => L2N.passAt tk σ) (pa_cons (pe_op op_sub (pv 0) (pv 3)) (pa_cons (pe_op op_sub (pv 1) pe_int) pa_nil)))) (pe_callS G_least_steps (hr.mono (by decide)) rfl D_least_steps.g D_least_steps.fn.kp D_least_steps.b (fun σ => L2N.passAt tk σ) (pa_cons (pe_op op_sub (pv 3) pe_int) (pa_cons (pv 1) pa_nil)))) (pv 2) (nomark _)) (pss_one (ps_aug (i := 3) sc_best_stop.nd rfl (Or.inl rfl) pe_int ip_add)))
      (pss_one (ps_ret (by exact (pv 3))))))))), ?_⟩
    rcases q with ⟨n', c', ⟨rfl, rfl⟩, hn, hc, q⟩ | ⟨h, q⟩
    · obtain ⟨hn1, q⟩ := q
      walk_at "rd"
      refine ⟨by omega, ?_⟩
      walk_at "rd"
      refine ite2 (fun hc => ?_) (fun hc => ?_)
      · obtain rfl : c' = 0 := by
          have := V.int.inj (of_decide_eq_true hc)
          omega
        walk_at "rd"
        exact q n' (M11.stop_1 hn1)
      · have c0 : c' ≠ 0 := fun z => of_ndec hc (by rw [z]; rfl)
        obtain ⟨d, rfl⟩ : ∃ d, c' = d + 1 := ⟨c' - 1, by omega⟩
        walk_at "rd"
        refine .inl ⟨n', d + 1, ⟨rfl, rfl⟩, hn, by assumption, ?_⟩
        walk_at "rd"
        refine ⟨fun m σ H' => ∃ k : Nat, m = n' - k ∧ 1 ≤ k ∧ k ≤ n' ∧ (∀ j, 1 ≤ j → j < k → M11.sm n' (d + 1) j ≠ some (M11.T n' (d + 1 + 1))) ∧ σ = [some (.int n'), some (.int (d + 1 + 1 : Nat)), some (.int (M11.T n' (d + 1 + 1))), some (.int k)] ∧ H' = H, ⟨_, 1, rfl, Nat.le_refl 1, hn1, fun j h1 h2 => by omega, rfl, rfl⟩, ?_⟩
        rintro m σ H' ⟨k, rfl, k1, kn, hk, rfl, rfl⟩
        walk_at "rd"
        refine .inl ⟨n' - k, d, ⟨congrArg V.int (by omega), congrArg V.int (by omega)⟩, by omega, by omega, ?_⟩
        walk_at "rd"
        refine .inl ⟨k - 1, d + 1, ⟨congrArg V.int (by omega), rfl⟩, by omega, by omega, ?_⟩
        walk_at "rd"
        have hs : M11.sm n' (d + 1) k = some ((k : Int) + M11.T (n' - k) (d + 1) + M11.T (k - 1) (d + 1 + 1)) := by
          unfold M11.sm
          rw [if_neg (Nat.succ_ne_zero d)]
        refine ite2 (fun hc => ?_) (fun hc => ?_)
        · have hne : M11.sm n' (d + 1) k ≠ some (M11.T n' (d + 1 + 1)) := by
            rw [hs]
            intro z
            exact of_decide_eq_false (bnot_t hc) (congrArg V.int (Option.some.inj z))
          refine ⟨fun σ' H'' => ∃ m', m' < n' - k ∧ ∃ k : Nat, m' = n' - k ∧ 1 ≤ k ∧ k ≤ n' ∧ (∀ j, 1 ≤ j → j < k → M11.sm n' (d + 1) j ≠ some (M11.T n' (d + 1 + 1))) ∧ σ' = [some (.int n'), some (.int (d + 1 + 1 : Nat)), some (.int (M11.T n' (d + 1 + 1))), some (.int k)] ∧ H'' = H', fun _ _ h => h, ?_⟩
          have all : ∀ j, 1 ≤ j → j ≤ k → M11.sm n' (d + 1) j ≠ some (M11.T n' (d + 1 + 1)) := fun j h1 h2 => (Nat.lt_or_ge j k).elim (hk j h1) fun z => by rw [show j = k by omega]; exact hne
          have hlt := M11.stop_more hn1 all
          walk_at "rd"
          exact ⟨n' - (k + 1), by omega, k + 1, rfl, by omega, hlt, fun j h1 h2 => all j h1 (by omega), rfl, rfl⟩
        · have heq : M11.sm n' (d + 1) k = some (M11.T n' (d + 1 + 1)) := by
            rw [hs]
            exact congrArg some (V.int.inj (of_decide_eq_true (bnot_f hc)))
          walk_at "rd"
          exact q k ⟨k1, kn, heq, hk⟩
    · walk_at "rd"
      exact .inr ⟨h, q⟩
end
end K11

set_option Elab.async false
set_option linter.all false
set_option maxRecDepth 100000
set_option maxHeartbeats 4000000
set_option pp.deepTerms false
set_option pp.deepTerms.threshold 12
namespace K11
open PySem PySem.Spec PyProof.Rows L2
local macro_rules | `(tactic| walk_at "ty") => `(tactic| first | exact .base (.int _) | exact .base (.bl _) | exact .base (.str _) | exact .base .non | assumption | exact .base (.tup (by assumption)) | exact .base (.lst (by assumption)))
local macro_rules | `(tactic| walk_at "cm") => `(tactic| first | exact cm_r (by decide) (by decide) | exact cm_l (by decide) (by decide) | exact cm_fmod (by decide) (by decide) | exact cm_r (by omega) (by omega) | exact cm_l (by omega) (by omega))
local macro_rules | `(tactic| walk_at "dv") => `(tactic| first | exact ⟨by decide, by decide⟩ | exact ⟨by omega, by omega⟩)
local macro_rules | `(tactic| walk_at "r1") => `(tactic| first
  | refine ⟨_, rfl, ?_⟩ | refine ⟨_, _, rfl, rfl, ?_⟩ | refine Or.inl ⟨_, rfl, ?_⟩ | refine Or.inr ⟨_, rfl, ?_⟩
  | refine And.intro (a := CMul _ _) (by walk_at "cm") ?_ | refine And.intro (a := CDivN _ _) (by walk_at "dv") ?_ | refine And.intro (a := _ ≠ (0 : Int)) (by first | decide | omega) ?_ | refine And.intro (a := scal _ _ = true) rfl ?_ | refine ⟨_, _, _, _, rfl, rfl, SqL.of (by first | exact upd_same | assumption), rfl, ?_⟩ | refine ⟨_, _, _, _, rfl, rfl, (by first | exact upd_same | assumption), rfl, ?_⟩ | refine ⟨_, _, rfl, ?_⟩ | refine And.intro (a := (_ : V) = V.non) rfl ?_ | refine And.intro (a := CPow _ _) ⟨by decide, by decide, by decide⟩ ?_ | refine And.intro (a := (_ : List V) = []) rfl ?_ | refine ⟨_, _, rfl, SqT.of (by first | exact upd_same | assumption), rfl, ?_⟩
  | refine ⟨_, _, _, _, true, rfl, ClsV.ty _, (by walk_at "ty"), kit_ty (by decide +kernel), ?_⟩ | refine ⟨_, _, _, _, false, rfl, ClsV.ty _, (by walk_at "ty"), kit_ty (by decide +kernel), ?_⟩)
local macro_rules | `(tactic| walk_at "rd") => `(tactic| repeat walk_at "r1")
local macro_rules | `(tactic| walk_at "yes") => `(tactic| (change (if true = true then _ else _); rw [if_pos rfl]))
local macro_rules | `(tactic| walk_at "no") => `(tactic| (change (if false = true then _ else _); rw [if_neg Bool.false_ne_true]))
local macro_rules | `(tactic| walk_at "nw") => `(tactic| refine And.intro (a := _ ≤ sizeLine) (sz_le (Nat.le_of_ble_eq_true rfl)) ?_)

section
variable {P : Program} {w : World} {K : PySem.W.Frag} {mg : Str → Option Value} {base : Heap}
variable {C_VaultError C_TooMany C_NumberError C_BadPrime C_NoInverse C_NoNumber C_BadTable C_BadCells C_TextError C_ShapeError C_PlanError C_CourseError C_KnowError C_PaperError fV fI : Addr}
variable (T : Txt P K mg C_VaultError C_TooMany C_NumberError C_BadPrime C_NoInverse C_NoNumber C_BadTable C_BadCells C_TextError C_ShapeError C_PlanError C_CourseError C_KnowError C_PaperError fV fI)
include T

def flatV : V → Bool
  | .int _ | .bl _ | .str _ | .non => true
  | _ => false
/-- the same data, not deeper than n -/
def SameD (H : Hp) : Nat → V → V → Prop
  | 0, _, _ => False
  | n + 1, x, y => (x = y ∧ flatV x = true) ∨ ∃ (a b : Addr) (xs ys : List V), x = .ref a ∧ y = .ref b ∧ (H a = some (.tup xs) ∧ H b = some (.tup ys) ∨ H a = some (.lst xs) ∧ H b = some (.lst ys)) ∧ xs.length = ys.length ∧ xs.length ≤ 1000 ∧ ∀ (i : Nat) (x y : V), xs[i]? = some x → ys[i]? = some y → SameD H n x y
def spSame : Nat → Sp
  | 0 => fun _ _ _ _ => False
  | n + 1 => fun vs H Q _ => ∃ x y : V, vs = [x, y] ∧ SameD H (n + 1) x y ∧ Q (.bl true) H
omit T in
theorem spSame_of {H : Hp} {n : Nat} {x y : V} {Q : VK} {E : XK} (h : SameD H n x y) (q : Q (.bl true) H) : spSame n [x, y] H Q E := by
  cases n with
  | zero => exact h.elim
  | succ m => exact ⟨x, y, rfl, h, q⟩
theorem ok_same {f : Addr} {fd : FuncData} (F : Fun K "_law_same" "_law_same" s_same f fd) (D_same : Def K mg "_law_same" s_same p_same f fd) : ∀ n, FnOk P w K mg base CX0 n f fd p_same (spSame n)
  | 0 => ⟨fun _ _ _ _ h => h.elim, fun _ _ _ _ _ _ _ _ _ _ _ _ _ h => h.elim⟩
  | n + 1 => by
    have G_same := ok_same F D_same n
    refine F.ok sc_same (fun vs H Q E h => ?_) (fun cdv A outer s H vs Q E hr h => ?_)
    · obtain ⟨a, b, rfl, _⟩ := h
      rfl
    · obtain ⟨x, y, rfl, hS, q⟩ := h
      refine ⟨_, (pss_cons (ps_if (PW.pt (pw_or (pt_cmpR op_isN (pv 0) pe_non (nomark _)) (pw_or1 (pt_cmpR op_isN (pv 1) pe_non (nomark _))))) (pss_one (ps_ret (by exact (pe_and (pe_cmpR op_isN (pv 0) pe_non (nomark _)) (pe_one (pe_cmpR op_isN (pv 1) pe_non (nomark _))))))) pss_nil)
      (pss_cons (ps_if (PW.pt (pw_or (pt_val (pe_callB call_isi (by rfl) T.b_isinstance (by first | exact PySem.boot_isinstance | decide +kernel) (pa_cons (pv 0) (pa_cons (pe_bltn (v := .ty "bool") (by rfl) T.b_bool (by first | exact PySem.boot_bool | decide +kernel) rfl) pa_nil)))) (pw_or1 (pt_val (pe_callB call_isi (by rfl) T.b_isinstance (by first | exact PySem.boot_isinstance | decide +kernel) (pa_cons (pv 1) (pa_cons (pe_bltn (v := .ty "bool") (by rfl) T.b_bool (by first | exact PySem.boot_bool | decide +kernel) rfl) pa_nil))))))) (pss_one (ps_ret (by exact (pe_and (pe_callB call_isi (by rfl) T.b_isinstance (by first | exact PySem.boot_isinstance | decide +kernel) (pa_cons (pv 0) (pa_cons (pe_bltn (v := .ty "bool") (by rfl) T.b_bool (by first | exact PySem.boot_bool | decide +kernel) rfl) pa_nil))) (pe_and (pe_callB call_isi (by rfl) T.b_isinstance (by first | exact PySem.boot_isinstance | decide +kernel) (pa_cons (pv 1) (pa_cons (pe_bltn (v := .ty "bool") (by rfl) T.b_bool (by first | exact PySem.boot_bool | decide +kernel) rfl) pa_nil))) (pe_one (pe_cmpR op_eq (pv 0) (pv 1) (nomark _)))))))) pss_nil)
      (pss_cons (ps_if (PW.pt (pw_or (pt_val (pe_callB call_isi (by rfl) T.b_isinstance (by first | exact PySem.boot_isinstance | decide +kernel) (pa_cons (pv 0) (pa_cons (pe_bltn (v := .ty "int") (by rfl) T.b_int (by first | exact PySem.boot_int | decide +kernel) rfl) pa_nil)))) (pw_or1 (pt_val (pe_callB call_isi (by rfl) T.b_isinstance (by first | exact PySem.boot_isinstance | decide +kernel) (pa_cons (pv 1) (pa_cons (pe_bltn (v := .ty "int") (by rfl) T.b_int (by first | exact PySem.boot_int | decide +kernel) rfl) pa_nil))))))) (pss_one (ps_ret (by exact (pe_and (pe_callB call_isi (by rfl) T.b_isinstance (by first | exact PySem.boot_isinstance | decide +kernel) (pa_cons (pv 0) (pa_cons (pe_bltn (v := .ty "int") (by rfl) T.b_int (by first | exact PySem.boot_int | decide +kernel) rfl) pa_nil))) (pe_and (pe_callB call_isi (by rfl) T.b_isinstance (by first | exact PySem.boot_isinstance | decide +kernel) (pa_cons (pv 1) (pa_cons (pe_bltn (v := .ty "int") (by rfl) T.b_int (by first | exact PySem.boot_int | decide +kernel) rfl) pa_nil))) (pe_one (pe_cmpR op_eq (pv 0) (pv 1) (nomark _)))))))) pss_nil)
      (pss_cons (ps_if (PW.pt (pw_or (pt_val (pe_callB call_isi (by rfl) T.b_isinstance (by first | exact PySem.boot_isinstance | decide +kernel) (pa_cons (pv 0) (pa_cons (pe_bltn (v := .ty "str") (by rfl) T.b_str (by first | exact PySem.boot_str | decide +kernel) rfl) pa_nil)))) (pw_or1 (pt_val (pe_callB call_isi (by rfl) T.b_isinstance (by first | exact PySem.boot_isinstance | decide +kernel) (pa_cons (pv 1) (pa_cons (pe_bltn (v := .ty "str") (by rfl) T.b_str (by first | exact PySem.boot_str | decide +kernel) rfl) pa_nil))))))) (pss_one (ps_ret (by exact (pe_and (pe_callB call_isi (by rfl) T.b_isinstance (by first | exact PySem.boot_isinstance | decide +kernel) (pa_cons (pv 0) (pa_cons (pe_bltn (v := .ty "str") (by rfl) T.b_str (by first | exact PySem.boot_str | decide +kernel) rfl) pa_nil))) (pe_and (pe_callB call_isi (by rfl) T.b_isinstance (by first | exact PySem.boot_isinstance | decide +kernel) (pa_cons (pv 1) (pa_cons (pe_bltn (v := .ty "str") (by rfl) T.b_str (by first | exact PySem.boot_str | decide +kernel) rfl) pa_nil))) (pe_one (pe_cmpR op_eq (pv 0) (pv 1) (nomark _)))))))) pss_nil)
      (pss_cons (ps_if (PW.pt (pw_or (pt_val (pe_callB call_isi (by rfl) T.b_isinstance (by first | exact PySem.boot_isinstance | decide +kernel) (pa_cons (pv 0) (pa_cons (pe_bltn (v := .ty "dict") (by rfl) T.b_dict (by first | exact PySem.boot_dict | decide +kernel) rfl) pa_nil)))) (pw_or1 (pt_val (pe_callB call_isi (by rfl) T.b_isinstance (by first | exact PySem.boot_isinstance | decide +kernel) (pa_cons (pv 1) (pa_cons (pe_bltn (v := .ty "dict") (by rfl) T.b_dict (by first | exact PySem.boot_dict | decide +kernel) rfl) pa_nil))))))) (pss_cons (ps_if (PW.pt (pw_or (pt_not (pt_val (pe_callB call_isi (by rfl) T.b_isinstance (by first | exact PySem.boot_isinstance | decide +kernel) (pa_cons (pv 0) (pa_cons (pe_bltn (v := .ty "dict") (by rfl) T.b_dict (by first | exact PySem.boot_dict | decide +kernel) rfl) pa_nil))))) (pw_or (pt_not (pt_val (pe_callB call_isi (by rfl) T.b_isinstance (by first | exact PySem.boot_isinstance | decide +kernel) (pa_cons (pv 1) (pa_cons (pe_bltn (v := .ty "dict") (by rfl) T.b_dict (by first | exact PySem.boot_dict | decide +kernel) rfl) pa_nil))))) (pw_or1 (pt_cmpR op_ne (pe_callB call_len_seq (by rfl) T.b_len (by first | exact PySem.boot_len | decide +kernel) (pa_cons (pv 0) pa_nil)) (pe_callB call_len_seq (by rfl) T.b_len (by first | exact PySem.boot_len | decide +kernel) (pa_cons (pv 1) pa_nil)) (nomark _)))))) (pss_one (ps_ret (by exact pe_bl))) pss_nil)
          (pss_cons (ps_for PassesOwn.never rfl (pi_list (pv 0)) (pg_name (i := 2) sc_same.nd rfl (Or.inl rfl)) (pss_one (ps_if (PW.pt (pw_or (pt_cmp (pc_dnotin (hu_of hr) (pv 2) (pv 1))) (pw_or1 (pt_not (pt_val (pe_call G_same hr rfl D_same.g D_same.fn.kp D_same.b .nil pass0 (pa_cons (pe_ix ix_list (pv 0) (pv 2) (fun _ _ => rfl)) (pa_cons (pe_ix ix_list (pv 1) (pv 2) (fun _ _ => rfl)) pa_nil)))))))) (pss_one (ps_ret (by exact pe_bl))) pss_nil)))
          (pss_one (ps_ret (by exact pe_bl))))) pss_nil)
      (pss_cons (ps_set (i := 3) sc_same.nd rfl (Or.inl rfl) (by exact (pe_and (pe_callB call_isi (by rfl) T.b_isinstance (by first | exact PySem.boot_isinstance | decide +kernel) (pa_cons (pv 0) (pa_cons (pe_bltn (v := .ty "list") (by rfl) T.b_list (by first | exact PySem.boot_list | decide +kernel) rfl) pa_nil))) (pe_one (pe_callB call_isi (by rfl) T.b_isinstance (by first | exact PySem.boot_isinstance | decide +kernel) (pa_cons (pv 1) (pa_cons (pe_bltn (v := .ty "list") (by rfl) T.b_list (by first | exact PySem.boot_list | decide +kernel) rfl) pa_nil)))))))
      (pss_cons (ps_set (i := 4) sc_same.nd rfl (Or.inl rfl) (by exact (pe_and (pe_callB call_isi (by rfl) T.b_isinstance (by first | exact PySem.boot_isinstance | decide +kernel) (pa_cons (pv 0) (pa_cons (pe_bltn (v := .ty "tuple") (by rfl) T.b_tuple (by first | exact PySem.boot_tuple | decide +kernel) rfl) pa_nil))) (pe_one (pe_callB call_isi (by rfl) T.b_isinstance (by first | exact PySem.boot_isinstance | decide +kernel) (pa_cons (pv 1) (pa_cons (pe_bltn (v := .ty "tuple") (by rfl) T.b_tuple (by first | exact PySem.boot_tuple | decide +kernel) rfl) pa_nil)))))))
      (pss_cons (ps_if (PW.pt (pw_or (PW.pt (pw_and (pt_not (pt_val (pv 3))) (pw_and1 (pt_not (pt_val (pv 4)))))) (pw_or1 (pt_cmpR op_ne (pe_callB call_len_seq (by rfl) T.b_len (by first | exact PySem.boot_len | decide +kernel) (pa_cons (pv 0) pa_nil)) (pe_callB call_len_seq (by rfl) T.b_len (by first | exact PySem.boot_len | decide +kernel) (pa_cons (pv 1) pa_nil)) (nomark _))))) (pss_one (ps_ret (by exact pe_bl))) pss_nil)
      (pss_cons (ps_for PassesOwn.never rfl (pi_range1 (by rfl) T.b_range (pa_cons (pe_callB call_len_seq (by rfl) T.b_len (by first | exact PySem.boot_len | decide +kernel) (pa_cons (pv 0) pa_nil)) pa_nil)) (pg_name (i := 5) sc_same.nd rfl (Or.inl rfl)) (pss_one (ps_if (pt_not (pt_val (pe_call G_same hr rfl D_same.g D_same.fn.kp D_same.b .nil pass0 (pa_cons (pe_ix ix_seq (pv 0) (pv 5) (fun _ _ => rfl)) (pa_cons (pe_ix ix_seq (pv 1) (pv 5) (fun _ _ => rfl)) pa_nil))))) (pss_one (ps_ret (by exact pe_bl))) pss_nil)))
      (pss_one (ps_ret (by exact pe_bl)))))))))))), ?_⟩
      rcases hS with ⟨rfl, hf⟩ | ⟨a, b, xs, ys, rfl, rfl, hab, hl, hz, hd⟩
      · cases x <;> try (exact absurd hf Bool.false_ne_true)
        all_goals walk_at "rd"
        all_goals first | exact q | (rw [decide_eq_true rfl]; exact q)
      · rcases hab with ⟨ha, hb⟩ | ⟨ha, hb⟩
        · walk_at "rd"
          refine ⟨a, xs, rfl, .inr (SqT.of ha), ?_⟩
          walk_at "rd"
          refine ⟨b, ys, rfl, .inr (SqT.of hb), ?_⟩
          walk_at "rd"
          refine ite2 (fun hc => absurd (congrArg (fun k : Nat => V.int k) hl) (of_decide_eq_false (bnot_t hc))) (fun hc => ?_)
          walk_at "rd"
          refine ⟨a, xs, rfl, .inr (SqT.of ha), ?_⟩
          walk_at "rd"
          refine ⟨by omega, by omega, ?_⟩
          have hsz : ((xs.length : Nat) : Int).toNat = xs.length := by omega
          rw [hsz]
          refine for_range (fun i σ H' => ∃ v : Option V, σ = [some (.ref a), some (.ref b), none, some (.bl false), some (.bl true), v] ∧ H' = H) ⟨none, rfl, rfl⟩ ?_ ?_
          · rintro i σ H' hi ⟨v, rfl, rfl⟩
            have hj : i < ys.length := by omega
            have e0 : (0 : Int) + (i : Int) = i := Int.zero_add _
            walk_at "rd"
            refine .inr (.inl ⟨a, xs, 0 + (i : Int), xs[i], rfl, rfl, SqT.of ha, by rw [e0]; exact atI_nat (List.getElem?_eq_getElem hi), ?_⟩)
            walk_at "rd"
            refine .inr (.inl ⟨b, ys, 0 + (i : Int), ys[i], rfl, rfl, SqT.of hb, by rw [e0]; exact atI_nat (List.getElem?_eq_getElem hj), ?_⟩)
            refine spSame_of (hd i _ _ (List.getElem?_eq_getElem hi) (List.getElem?_eq_getElem hj)) ?_
            walk_at "rd"
            rfl
          · rintro σ H' ⟨v, rfl, rfl⟩
            walk_at "rd"
            exact q
        · walk_at "rd"
          refine ⟨a, xs, rfl, .inl (SqL.of ha), ?_⟩
          walk_at "rd"
          refine ⟨b, ys, rfl, .inl (SqL.of hb), ?_⟩
          walk_at "rd"
          refine ite2 (fun hc => absurd (congrArg (fun k : Nat => V.int k) hl) (of_decide_eq_false (bnot_t hc))) (fun hc => ?_)
          walk_at "rd"
          refine ⟨a, xs, rfl, .inl (SqL.of ha), ?_⟩
          walk_at "rd"
          refine ⟨by omega, by omega, ?_⟩
          have hsz : ((xs.length : Nat) : Int).toNat = xs.length := by omega
          rw [hsz]
          refine for_range (fun i σ H' => ∃ v : Option V, σ = [some (.ref a), some (.ref b), none, some (.bl true), some (.bl false), v] ∧ H' = H) ⟨none, rfl, rfl⟩ ?_ ?_
          · rintro i σ H' hi ⟨v, rfl, rfl⟩
            have hj : i < ys.length := by omega
            have e0 : (0 : Int) + (i : Int) = i := Int.zero_add _
            walk_at "rd"
            refine (.inl ⟨a, xs, 0 + (i : Int), xs[i], rfl, rfl, SqL.of ha, by rw [e0]; exact atI_nat (List.getElem?_eq_getElem hi), ?_⟩)
            walk_at "rd"
            refine (.inl ⟨b, ys, 0 + (i : Int), ys[i], rfl, rfl, SqL.of hb, by rw [e0]; exact atI_nat (List.getElem?_eq_getElem hj), ?_⟩)
            refine spSame_of (hd i _ _ (List.getElem?_eq_getElem hi) (List.getElem?_eq_getElem hj)) ?_
            walk_at "rd"
            rfl
          · rintro σ H' ⟨v, rfl, rfl⟩
            walk_at "rd"
            exact q
/-- what is no count of cells -/
inductive BadV (st : Addr) (H : Hp) : V → Prop
  | int (i : Int) (h : i < 1) : BadV st H (.int i)
  | bl (b : Bool) : BadV st H (.bl b)
  | non : BadV st H .non
  | str (s : Str) : BadV st H (.str s)
  | tup (a : Addr) (n : a ≠ st) (h : H a = some (.tup [.int 1])) : BadV st H (.ref a)
  | lst (a : Addr) (n : a ≠ st) (h : H a = some (.lst [.int 1])) : BadV st H (.ref a)
omit T in
theorem BadV.keep {st : Addr} {H H' : Hp} {v : V} (b : BadV st H v) (h : But st H H') : BadV st H' v := by
  cases b with
  | int i q => exact .int i q
  | bl b => exact .bl b
  | non => exact .non
  | str s => exact .str s
  | tup a n e => exact .tup a n (h _ _ n e)
  | lst a n e => exact .lst a n (h _ _ n e)
omit T in
theorem BadV.cells {st : Addr} {H : Hp} {v : V} (b : BadV st H v) : (∃ i, v = .int i ∧ i < 1) ∨ (∃ n, NotInt H v n) := by
  cases b with
  | int i q => exact .inl ⟨i, rfl, q⟩
  | bl b => exact .inr ⟨_, .bl b⟩
  | non => exact .inr ⟨_, .non⟩
  | str s => exact .inr ⟨_, .str s⟩
  | tup a n e => exact .inr ⟨_, .tup a _ e⟩
  | lst a n e => exact .inr ⟨_, .lst a _ e⟩
omit T in
theorem SameD.flat {H : Hp} {n : Nat} {x : V} (h : flatV x = true) : SameD H (n + 1) x x := .inl ⟨rfl, h⟩
omit T in
theorem SameD.all {H : Hp} {n : Nat} {xs ys : List V} (h : Paired (SameD H n) xs ys) : ∀ (i : Nat) (x y : V), xs[i]? = some x → ys[i]? = some y → SameD H n x y := by
  induction h with
  | nil => intro i x y e; cases e
  | cons a k ih =>
    intro i x y e1 e2
    cases i with
    | zero => cases e1; cases e2; exact a
    | succ i => exact ih i x y e1 e2
omit T in
theorem SameD.tup {H : Hp} {n : Nat} {a b : Addr} {xs ys : List V} (ha : H a = some (.tup xs)) (hb : H b = some (.tup ys)) (hz : xs.length ≤ 1000) (h : Paired (SameD H n) xs ys) : SameD H (n + 1) (.ref a) (.ref b) :=
  .inr ⟨a, b, xs, ys, rfl, rfl, .inl ⟨ha, hb⟩, h.length, hz, SameD.all h⟩
omit T in
theorem SameD.lst {H : Hp} {n : Nat} {a b : Addr} {xs ys : List V} (ha : H a = some (.lst xs)) (hb : H b = some (.lst ys)) (hz : xs.length ≤ 1000) (h : Paired (SameD H n) xs ys) : SameD H (n + 1) (.ref a) (.ref b) :=
  .inr ⟨a, b, xs, ys, rfl, rfl, .inr ⟨ha, hb⟩, h.length, hz, SameD.all h⟩
omit T in
theorem BadV.same {st : Addr} {H : Hp} {v : V} (b : BadV st H v) (n : Nat) : SameD H (n + 2) v v := by
  cases b with
  | int i q => exact .flat rfl
  | bl b => exact .flat rfl
  | non => exact .flat rfl
  | str s => exact .flat rfl
  | tup a m e => exact .tup e e (by decide) (.cons (.flat rfl) .nil)
  | lst a m e => exact .lst e e (by decide) (.cons (.flat rfl) .nil)
def spBad : Sp := fun vs H Q _ => ∃ st : Addr, vs = [.ref st] ∧ Store H st ∧ ∀ v H', BadV st H' v → Store H' st → But st H H' → Q v H'
theorem ok_badcells {f : Addr} {fd : FuncData} (F : Fun K "_law_badcells" "_law_badcells" s_badcells f fd) {f_pick : Addr} {fd_pick : FuncData} (D_pick : Def K mg "_law_pick" s_pick p_pick f_pick fd_pick) (G_pick : FnOk P w K mg base CX0 3 f_pick fd_pick p_pick spPick) : FnOk P w K mg base CX0 4 f fd p_badcells spBad := by
  refine F.ok sc_badcells (fun vs H Q E h => ?_) (fun cdv A outer s H vs Q E hr h => ?_)
  · obtain ⟨a, rfl, _⟩ := h
    rfl
  · obtain ⟨st, rfl, S, q⟩ := h
    refine ⟨_, (pss_one (ps_ret (by exact (pe_call G_pick (hr.mono (by decide)) rfl D_pick.g D_pick.fn.kp D_pick.b .nil pass0 (pa_cons (pv 0) (pa_cons (pe_lst (pa_cons pe_int (pa_cons (pe_op op_sub pe_int pe_int) (pa_cons pe_bl (pa_cons pe_bl (pa_cons pe_non (pa_cons pe_str (pa_cons (pe_tup (pa_cons pe_int pa_nil)) (pa_cons (pe_lst (pa_cons pe_int pa_nil)) (pa_cons pe_str (pa_cons (pe_op op_sub pe_int (pe_op op_pow pe_int pe_int)) pa_nil))))))))))) pa_nil)))))), ?_⟩
    walk_at "rd"
    walk_at "nw"
    intro p1 h1
    walk_at "rd"
    walk_at "nw"
    intro p2 h2
    walk_at "rd"
    walk_at "nw"
    intro l hl
    walk_at "rd"
    have s1 : Same H (upd H p1 (.tup [.int 1])) := same_new h1
    obtain ⟨u, hu⟩ := S.some
    refine ⟨st, l, _, rfl, upd_same, (ne_of_none (same_new h2 _ _ (s1 _ _ hu)) hl).symm, Nat.le_of_ble_eq_true rfl, Nat.le_of_ble_eq_true rfl, S.keep ((s1.trans (same_new h2)).trans (same_new hl)), fun v H' hv S' b => ?_⟩
    have c : But st H H' := (But.of ((s1.trans (same_new h2)).trans (same_new hl))).trans b
    refine q v H' ?_ S' c
    have n1 : p1 ≠ st := (ne_of_none hu h1).symm
    have n2 : p2 ≠ st := (ne_of_none (s1 _ _ hu) h2).symm
    have e1 : H' p1 = some (.tup [.int 1]) := b _ _ n1 (same_new hl _ _ (same_new h2 _ _ upd_same))
    have e2 : H' p2 = some (.lst [.int 1]) := b _ _ n2 (same_new hl _ _ upd_same)
    simp only [List.mem_cons, List.mem_nil_iff, or_false] at hv
    rcases hv with rfl | rfl | rfl | rfl | rfl | rfl | rfl | rfl | rfl | rfl
    · exact .int _ (by decide)
    · exact .int _ (by decide)
    · exact .bl _
    · exact .bl _
    · exact .non
    · exact .str _
    · exact .tup _ n1 e1
    · exact .lst _ n2 e2
    · exact .str _
    · exact .int _ (by decide)
end
end K11

namespace L2
open PySem PySem.Spec PyProof.Rows
theorem pss_cut {X : Cx} {st : Stmt} {more : List Stmt} {t : TS} (a : PS X st t) : PSs X (st :: more) (fun D σ H => t { D with nx := fun _ _ => False } σ H) := ⟨fun pins s σ H D I h =>
  wpAny_execs_cons (thn (a.run pins s σ H _ I h) fun f s1 q => match f, q with
    | .next, ⟨_, _, _, q⟩ => q.elim
    | .ret _, q => q
    | .brk, q => q
    | .cont, q => q)⟩
theorem hu64 {k : Nat} {A : Around} (r : L2H.RoomH k A) : A.units + 64 < cLine := by
  have := r.un
  omega
theorem roomH_as {k : Nat} {A B : Around} (r : L2H.RoomH k A) (h1 : B.depth = A.depth) (h2 : B.units = A.units) : L2H.RoomH k B := ⟨by rw [h1]; exact r.dp, by rw [h2]; exact r.un⟩
theorem hot_of {a : Addr} {oe : Obj} {cls : Value} {d : Option Addr} {A' : Around} (hz : L2N.Zn cls d oe) (hf : ∃ vs : Array Value, oe.data = .fields vs) (h : A'.handled = some (.ref a) := by rfl) : L2H.Hot1 A' (a, oe) := ⟨h, hf.elim fun vs e => ⟨vs, e, hz.2.2 vs e⟩⟩
section
open L2H
variable {X : Cx} {k : Nat} {f : Addr} {fd : FuncData} {ps : List Str} {sp : Addr × Obj → Sp} {x : Str} {q pos : Pos} {e : Expr} {es : List Expr} {t : TA}
/-- f(e, ..) within the suite, by a promise that does not name the exception's record -/
def tCallZ (sp' : Sp) (t : TA) : TE := fun σ H Q => t σ H fun vs H1 => sp' vs H1 Q E0
theorem pe_callZ {p : Addr × Obj} {sp' : Sp} (F : FnE X.prog X.w X.K X.mg X.base k f fd ps sp) (hc : ∀ vs H Q E, sp' vs H Q E → sp p vs H Q E) (hr : RoomH k X.A) (hot : Hot1 X.A p) (hp : p ∈ X.pn) (hg : Gl X x) (hm : X.mg x = some (.ref f)) (hk : PySem.W.keepIn X.K (.ref f) = true) (hb : Binds X.K fd ps [])
    (ha : PA X (e :: es) t) (hdb : (x == ("__debug__" : Str)) = false := by decide) (he : starEach (e :: es) X.env = (false, eval e X.env) :: starEach es X.env := by rfl) (hpl : (backTo pos (starEach es X.env)).any (·.1) = false := by rfl) :
    PE X (.Call (.Name x q) (e :: es) [] pos) (tCallZ sp' t) := by
  refine ⟨fun pins s σ H Q I h => ?_⟩
  refine wpAny_Call_Name_kw (ld_glob I hg hm ?_ hdb)
  refine PySem.W.callWith_K (h₀ := X.base) I.ok.mod.kin hk (thn (ha.run pos pins s σ H _ I h) fun us s1 ⟨vs, H1, J, r, hsp0⟩ => ⟨J.kIn, ?_⟩) he hpl
  have hsp := hc _ _ _ _ hsp0
  have hl : us.length = ps.length := by rw [← r.length]; exact F.len _ _ _ _ _ hsp
  have b := hb s1 us J.kIn (by rw [List.append_nil]; exact hl)
  rw [List.append_nil] at b
  have P1 := J.pin p (List.mem_append_left _ hp)
  have hpin : PinOk X.stack H1 s1 p := ⟨P1.1, P1.2.1, fun hm => (List.mem_cons.mp (J.stkSub p.1 hm)).elim P1.2.2.1 P1.2.2.2.1, P1.2.2.2.2⟩
  refine wpAny_call (codeAny_mono (F.run X.A X.stack s1 H1 ⟨us, []⟩ us vs Q E0 p hr hot hpin J.env0 b r hsp) fun r s' hq => ?_)
  cases r with
  | error e => exact False.elim hq
  | ok fl =>
    cases fl with
    | ret u => exact J.after hq
    | next => exact False.elim hq
    | brk => exact False.elim hq
    | cont => exact False.elim hq
end
end L2
set_option Elab.async false
set_option linter.all false
set_option maxRecDepth 100000
set_option maxHeartbeats 4000000
set_option pp.deepTerms false
set_option pp.deepTerms.threshold 12
namespace K11
open PySem PySem.Spec PyProof.Rows L2
local macro_rules | `(tactic| walk_at "ty") => `(tactic| first | exact .base (.int _) | exact .base (.bl _) | exact .base (.str _) | exact .base .non | assumption | exact .base (.tup (by assumption)) | exact .base (.lst (by assumption)))
local macro_rules | `(tactic| walk_at "cm") => `(tactic| first | exact cm_r (by decide) (by decide) | exact cm_l (by decide) (by decide) | exact cm_fmod (by decide) (by decide) | exact cm_r (by omega) (by omega) | exact cm_l (by omega) (by omega))
local macro_rules | `(tactic| walk_at "dv") => `(tactic| first | exact ⟨by decide, by decide⟩ | exact ⟨by omega, by omega⟩)
local macro_rules | `(tactic| walk_at "r1") => `(tactic| first
  | refine ⟨_, rfl, ?_⟩ | refine ⟨_, _, rfl, rfl, ?_⟩ | refine Or.inl ⟨_, rfl, ?_⟩ | refine Or.inr ⟨_, rfl, ?_⟩
  | refine And.intro (a := CMul _ _) (by walk_at "cm") ?_ | refine And.intro (a := CDivN _ _) (by walk_at "dv") ?_ | refine And.intro (a := _ ≠ (0 : Int)) (by first | decide | omega) ?_ | refine And.intro (a := scal _ _ = true) rfl ?_ | refine ⟨_, _, _, _, rfl, rfl, SqL.of (by first | exact upd_same | assumption), rfl, ?_⟩ | refine ⟨_, _, _, _, rfl, rfl, (by first | exact upd_same | assumption), rfl, ?_⟩ | refine ⟨_, _, rfl, ?_⟩ | refine And.intro (a := (_ : V) = V.non) rfl ?_ | refine And.intro (a := CPow _ _) ⟨by decide, by decide, by decide⟩ ?_ | refine And.intro (a := (_ : List V) = []) rfl ?_ | refine ⟨_, _, rfl, SqT.of (by first | exact upd_same | assumption), rfl, ?_⟩
  | refine ⟨_, _, _, _, true, rfl, ClsV.ty _, (by walk_at "ty"), kit_ty (by decide +kernel), ?_⟩ | refine ⟨_, _, _, _, false, rfl, ClsV.ty _, (by walk_at "ty"), kit_ty (by decide +kernel), ?_⟩)
local macro_rules | `(tactic| walk_at "rd") => `(tactic| repeat walk_at "r1")
local macro_rules | `(tactic| walk_at "yes") => `(tactic| (change (if true = true then _ else _); rw [if_pos rfl]))
local macro_rules | `(tactic| walk_at "no") => `(tactic| (change (if false = true then _ else _); rw [if_neg Bool.false_ne_true]))
local macro_rules | `(tactic| walk_at "nw") => `(tactic| refine And.intro (a := _ ≤ sizeLine) (sz_le (Nat.le_of_ble_eq_true rfl)) ?_)

section
variable {P : Program} {w : World} {K : PySem.W.Frag} {mg : Str → Option Value} {base : Heap}
variable {C_VaultError C_TooMany C_NumberError C_BadPrime C_NoInverse C_NoNumber C_BadTable C_BadCells C_TextError C_ShapeError C_PlanError C_CourseError C_KnowError C_PaperError fV fI : Addr}
variable (T : Txt P K mg C_VaultError C_TooMany C_NumberError C_BadPrime C_NoInverse C_NoNumber C_BadTable C_BadCells C_TextError C_ShapeError C_PlanError C_CourseError C_KnowError C_PaperError fV fI)
include T

open L2H
def spSameE : Addr × Obj → Sp := fun _ vs H Q _ => ∃ z : Str, vs = [.str z, .str z] ∧ Q (.bl true) H
theorem okE_same {f : Addr} {fd : FuncData} (F : Fun K "_law_same" "_law_same" s_same f fd) : FnE P w K mg base 1 f fd p_same spSameE := by
  refine F.okE sc_same (fun p vs H Q E h => ?_) (fun cdv A outer s H vs Q E p hot hr h => ?_)
  · obtain ⟨z, rfl, _⟩ := h
    rfl
  · obtain ⟨z, rfl, q⟩ := h
    refine ⟨_, (pss_cons (ps_if (PW.pt (pw_or (pt_cmpR op_isN (pv 0) pe_non (nomark _)) (pw_or1 (pt_cmpR op_isN (pv 1) pe_non (nomark _))))) (pss_one (ps_ret (by exact (pe_and (pe_cmpR op_isN (pv 0) pe_non (nomark _)) (pe_one (pe_cmpR op_isN (pv 1) pe_non (nomark _))))))) pss_nil)
      (pss_cons (ps_if (PW.pt (pw_or (pt_val (pe_callB call_isi (by rfl) T.b_isinstance (by first | exact PySem.boot_isinstance | decide +kernel) (pa_cons (pv 0) (pa_cons (pe_bltn (v := .ty "bool") (by rfl) T.b_bool (by first | exact PySem.boot_bool | decide +kernel) rfl) pa_nil)))) (pw_or1 (pt_val (pe_callB call_isi (by rfl) T.b_isinstance (by first | exact PySem.boot_isinstance | decide +kernel) (pa_cons (pv 1) (pa_cons (pe_bltn (v := .ty "bool") (by rfl) T.b_bool (by first | exact PySem.boot_bool | decide +kernel) rfl) pa_nil))))))) (pss_one (ps_ret (by exact (pe_and (pe_callB call_isi (by rfl) T.b_isinstance (by first | exact PySem.boot_isinstance | decide +kernel) (pa_cons (pv 0) (pa_cons (pe_bltn (v := .ty "bool") (by rfl) T.b_bool (by first | exact PySem.boot_bool | decide +kernel) rfl) pa_nil))) (pe_and (pe_callB call_isi (by rfl) T.b_isinstance (by first | exact PySem.boot_isinstance | decide +kernel) (pa_cons (pv 1) (pa_cons (pe_bltn (v := .ty "bool") (by rfl) T.b_bool (by first | exact PySem.boot_bool | decide +kernel) rfl) pa_nil))) (pe_one (pe_cmpR op_eq (pv 0) (pv 1) (nomark _)))))))) pss_nil)
      (pss_cons (ps_if (PW.pt (pw_or (pt_val (pe_callB call_isi (by rfl) T.b_isinstance (by first | exact PySem.boot_isinstance | decide +kernel) (pa_cons (pv 0) (pa_cons (pe_bltn (v := .ty "int") (by rfl) T.b_int (by first | exact PySem.boot_int | decide +kernel) rfl) pa_nil)))) (pw_or1 (pt_val (pe_callB call_isi (by rfl) T.b_isinstance (by first | exact PySem.boot_isinstance | decide +kernel) (pa_cons (pv 1) (pa_cons (pe_bltn (v := .ty "int") (by rfl) T.b_int (by first | exact PySem.boot_int | decide +kernel) rfl) pa_nil))))))) (pss_one (ps_ret (by exact (pe_and (pe_callB call_isi (by rfl) T.b_isinstance (by first | exact PySem.boot_isinstance | decide +kernel) (pa_cons (pv 0) (pa_cons (pe_bltn (v := .ty "int") (by rfl) T.b_int (by first | exact PySem.boot_int | decide +kernel) rfl) pa_nil))) (pe_and (pe_callB call_isi (by rfl) T.b_isinstance (by first | exact PySem.boot_isinstance | decide +kernel) (pa_cons (pv 1) (pa_cons (pe_bltn (v := .ty "int") (by rfl) T.b_int (by first | exact PySem.boot_int | decide +kernel) rfl) pa_nil))) (pe_one (pe_cmpR op_eq (pv 0) (pv 1) (nomark _)))))))) pss_nil)
      (pss_cut (ps_if (PW.pt (pw_or (pt_val (pe_callB call_isi (by rfl) T.b_isinstance (by first | exact PySem.boot_isinstance | decide +kernel) (pa_cons (pv 0) (pa_cons (pe_bltn (v := .ty "str") (by rfl) T.b_str (by first | exact PySem.boot_str | decide +kernel) rfl) pa_nil)))) (pw_or1 (pt_val (pe_callB call_isi (by rfl) T.b_isinstance (by first | exact PySem.boot_isinstance | decide +kernel) (pa_cons (pv 1) (pa_cons (pe_bltn (v := .ty "str") (by rfl) T.b_str (by first | exact PySem.boot_str | decide +kernel) rfl) pa_nil))))))) (pss_one (ps_ret (by exact (pe_and (pe_callB call_isi (by rfl) T.b_isinstance (by first | exact PySem.boot_isinstance | decide +kernel) (pa_cons (pv 0) (pa_cons (pe_bltn (v := .ty "str") (by rfl) T.b_str (by first | exact PySem.boot_str | decide +kernel) rfl) pa_nil))) (pe_and (pe_callB call_isi (by rfl) T.b_isinstance (by first | exact PySem.boot_isinstance | decide +kernel) (pa_cons (pv 1) (pa_cons (pe_bltn (v := .ty "str") (by rfl) T.b_str (by first | exact PySem.boot_str | decide +kernel) rfl) pa_nil))) (pe_one (pe_cmpR op_eq (pv 0) (pv 1) (nomark _)))))))) pss_nil))))), ?_⟩
    walk_at "rd"
    rw [decide_eq_true rfl]
    exact q
/-- the handled exception: of BadCells, with the cells v -/
def IsBC (C d : Addr) (p : Addr × Obj) (H : Hp) (v : V) : Prop := ExP C d p ∧ H d = some (.xd (excD ["cells"] "BadCells" [v]))
def spKinds (C : Addr) : Addr × Obj → Sp := fun p vs H Q _ => ∃ (d : Addr) (v : V), vs = [.ref p.1] ∧ IsBC C d p H v ∧ ∀ l H', Same H H' → H' l = some (.lst [.str "numbererror", .str "badcells"]) → Q (.ref l) H'
omit T in
theorem pairedAt {α β : Type} {R : α → β → Prop} {xs : List α} {ys : List β} (h : Paired R xs ys) : ∀ {i : Nat} {x : α}, xs[i]? = some x → ∃ y, ys[i]? = some y ∧ R x y := by
  induction h with
  | nil => intro i x e; cases e
  | cons a k ih =>
    intro i x e
    cases i with
    | zero => cases e; exact ⟨_, rfl, a⟩
    | succ i => exact ih e
def kRows : List (Str × Bool) := [("numbererror", true), ("texterror", false), ("shapeerror", false), ("planerror", false), ("courseerror", false), ("knowerror", false), ("papererror", false), ("toomany", false), ("badprime", false), ("noinverse", false), ("nonumber", false), ("badtable", false), ("badcells", true)]
omit T in
theorem kRes : (kRows.filter (·.2)).map (fun z => V.str z.1) = [.str "numbererror", .str "badcells"] := rfl
theorem ok_kinds {f : Addr} {fd : FuncData} (F : Fun K "_law_kinds" "_law_kinds" s_kinds f fd) : FnE P w K mg base 2 f fd p_kinds (spKinds C_BadCells) := by
  refine F.okE sc_kinds (fun p vs H Q E h => ?_) (fun cdv A outer s H vs Q E p hot hr h => ?_)
  · obtain ⟨d, v, rfl, _⟩ := h
    rfl
  · obtain ⟨d, v, rfl, ⟨z, hd⟩, q⟩ := h
    have hp : p ∈ [p] := List.mem_singleton.mpr rfl
    have kC := T.lf_BadCells.kind
    refine ⟨_, (pss_cons (ps_set (i := 1) sc_kinds.nd rfl (Or.inl rfl) (by exact (pe_lst (pa_cons (pe_tup (pa_cons pe_str (pa_cons (pe_callB (call_isP hp kC z) (by rfl) T.b_isinstance (by first | exact PySem.boot_isinstance | decide +kernel) (pa_cons (pv 0) (pa_cons (pe_glob (v := .ref C_NumberError) rfl T.g_NumberError rfl) pa_nil))) pa_nil))) (pa_cons (pe_tup (pa_cons pe_str (pa_cons (pe_callB (call_isP hp kC z) (by rfl) T.b_isinstance (by first | exact PySem.boot_isinstance | decide +kernel) (pa_cons (pv 0) (pa_cons (pe_glob (v := .ref C_TextError) rfl T.g_TextError rfl) pa_nil))) pa_nil))) (pa_cons (pe_tup (pa_cons pe_str (pa_cons (pe_callB (call_isP hp kC z) (by rfl) T.b_isinstance (by first | exact PySem.boot_isinstance | decide +kernel) (pa_cons (pv 0) (pa_cons (pe_glob (v := .ref C_ShapeError) rfl T.g_ShapeError rfl) pa_nil))) pa_nil))) (pa_cons (pe_tup (pa_cons pe_str (pa_cons (pe_callB (call_isP hp kC z) (by rfl) T.b_isinstance (by first | exact PySem.boot_isinstance | decide +kernel) (pa_cons (pv 0) (pa_cons (pe_glob (v := .ref C_PlanError) rfl T.g_PlanError rfl) pa_nil))) pa_nil))) (pa_cons (pe_tup (pa_cons pe_str (pa_cons (pe_callB (call_isP hp kC z) (by rfl) T.b_isinstance (by first | exact PySem.boot_isinstance | decide +kernel) (pa_cons (pv 0) (pa_cons (pe_glob (v := .ref C_CourseError) rfl T.g_CourseError rfl) pa_nil))) pa_nil))) (pa_cons (pe_tup (pa_cons pe_str (pa_cons (pe_callB (call_isP hp kC z) (by rfl) T.b_isinstance (by first | exact PySem.boot_isinstance | decide +kernel) (pa_cons (pv 0) (pa_cons (pe_glob (v := .ref C_KnowError) rfl T.g_KnowError rfl) pa_nil))) pa_nil))) (pa_cons (pe_tup (pa_cons pe_str (pa_cons (pe_callB (call_isP hp kC z) (by rfl) T.b_isinstance (by first | exact PySem.boot_isinstance | decide +kernel) (pa_cons (pv 0) (pa_cons (pe_glob (v := .ref C_PaperError) rfl T.g_PaperError rfl) pa_nil))) pa_nil))) (pa_cons (pe_tup (pa_cons pe_str (pa_cons (pe_callB (call_isP hp kC z) (by rfl) T.b_isinstance (by first | exact PySem.boot_isinstance | decide +kernel) (pa_cons (pv 0) (pa_cons (pe_glob (v := .ref C_TooMany) rfl T.g_TooMany rfl) pa_nil))) pa_nil))) (pa_cons (pe_tup (pa_cons pe_str (pa_cons (pe_callB (call_isP hp kC z) (by rfl) T.b_isinstance (by first | exact PySem.boot_isinstance | decide +kernel) (pa_cons (pv 0) (pa_cons (pe_glob (v := .ref C_BadPrime) rfl T.g_BadPrime rfl) pa_nil))) pa_nil))) (pa_cons (pe_tup (pa_cons pe_str (pa_cons (pe_callB (call_isP hp kC z) (by rfl) T.b_isinstance (by first | exact PySem.boot_isinstance | decide +kernel) (pa_cons (pv 0) (pa_cons (pe_glob (v := .ref C_NoInverse) rfl T.g_NoInverse rfl) pa_nil))) pa_nil))) (pa_cons (pe_tup (pa_cons pe_str (pa_cons (pe_callB (call_isP hp kC z) (by rfl) T.b_isinstance (by first | exact PySem.boot_isinstance | decide +kernel) (pa_cons (pv 0) (pa_cons (pe_glob (v := .ref C_NoNumber) rfl T.g_NoNumber rfl) pa_nil))) pa_nil))) (pa_cons (pe_tup (pa_cons pe_str (pa_cons (pe_callB (call_isP hp kC z) (by rfl) T.b_isinstance (by first | exact PySem.boot_isinstance | decide +kernel) (pa_cons (pv 0) (pa_cons (pe_glob (v := .ref C_BadTable) rfl T.g_BadTable rfl) pa_nil))) pa_nil))) (pa_cons (pe_tup (pa_cons pe_str (pa_cons (pe_callB (call_isP hp kC z) (by rfl) T.b_isinstance (by first | exact PySem.boot_isinstance | decide +kernel) (pa_cons (pv 0) (pa_cons (pe_glob (v := .ref C_BadCells) rfl T.g_BadCells rfl) pa_nil))) pa_nil))) pa_nil))))))))))))))))
      (pss_one (ps_ret (by exact (pe_lcE (own := [("row", 2)]) (g := gName 2) hot hp sc_kinds.nd (pv 1) (blkOk_by (own := [("row", 2)]) (N := N_kinds) (sc := defScope s_kinds) (by decide +kernel)) (fun _ _ _ _ _ => pg_name (i := 2) sc_kinds.nd rfl (Or.inl rfl)) (fun _ _ _ _ _ => (pts_one (pt_val (pe_ix (show IxR _ (rIxT K) from ix_tup) (pv 2) pe_int (fun _ _ => rfl))))) (fun _ _ _ _ _ => (pe_ix (show IxR _ (rIxT K) from ix_tup) (pv 2) pe_int (fun _ _ => rfl)))))))), ?_⟩
    walk_at "rd"
    refine ⟨_, _, true, _, rfl, fun _ h => h, T.k_NumberError, hd, ?_⟩
    walk_at "rd"
    walk_at "nw"
    intro t1 h1
    generalize hg1 : upd H t1 _ = H1
    have s1 : Same H H1 := by rw [← hg1]; exact same_new h1
    have e1 : H1 t1 = some (.tup [.str "numbererror", .bl true]) := by rw [← hg1]; exact upd_same
    have sd1 : Same H H1 := s1
    walk_at "rd"
    refine ⟨_, _, false, _, rfl, fun _ h => h, T.k_TextError, sd1 _ _ hd, ?_⟩
    walk_at "rd"
    walk_at "nw"
    intro t2 h2
    generalize hg2 : upd H1 t2 _ = H2
    have s2 : Same H1 H2 := by rw [← hg2]; exact same_new h2
    have e2 : H2 t2 = some (.tup [.str "texterror", .bl false]) := by rw [← hg2]; exact upd_same
    have sd2 : Same H H2 := sd1.trans s2
    walk_at "rd"
    refine ⟨_, _, false, _, rfl, fun _ h => h, T.k_ShapeError, sd2 _ _ hd, ?_⟩
    walk_at "rd"
    walk_at "nw"
    intro t3 h3
    generalize hg3 : upd H2 t3 _ = H3
    have s3 : Same H2 H3 := by rw [← hg3]; exact same_new h3
    have e3 : H3 t3 = some (.tup [.str "shapeerror", .bl false]) := by rw [← hg3]; exact upd_same
    have sd3 : Same H H3 := sd2.trans s3
    walk_at "rd"
    refine ⟨_, _, false, _, rfl, fun _ h => h, T.k_PlanError, sd3 _ _ hd, ?_⟩
    walk_at "rd"
    walk_at "nw"
    intro t4 h4
    generalize hg4 : upd H3 t4 _ = H4
    have s4 : Same H3 H4 := by rw [← hg4]; exact same_new h4
    have e4 : H4 t4 = some (.tup [.str "planerror", .bl false]) := by rw [← hg4]; exact upd_same
    have sd4 : Same H H4 := sd3.trans s4
    walk_at "rd"
    refine ⟨_, _, false, _, rfl, fun _ h => h, T.k_CourseError, sd4 _ _ hd, ?_⟩
    walk_at "rd"
    walk_at "nw"
    intro t5 h5
    generalize hg5 : upd H4 t5 _ = H5
    have s5 : Same H4 H5 := by rw [← hg5]; exact same_new h5
    have e5 : H5 t5 = some (.tup [.str "courseerror", .bl false]) := by rw [← hg5]; exact upd_same
    have sd5 : Same H H5 := sd4.trans s5
    walk_at "rd"
    refine ⟨_, _, false, _, rfl, fun _ h => h, T.k_KnowError, sd5 _ _ hd, ?_⟩
    walk_at "rd"
    walk_at "nw"
    intro t6 h6
    generalize hg6 : upd H5 t6 _ = H6
    have s6 : Same H5 H6 := by rw [← hg6]; exact same_new h6
    have e6 : H6 t6 = some (.tup [.str "knowerror", .bl false]) := by rw [← hg6]; exact upd_same
    have sd6 : Same H H6 := sd5.trans s6
    walk_at "rd"
    refine ⟨_, _, false, _, rfl, fun _ h => h, T.k_PaperError, sd6 _ _ hd, ?_⟩
    walk_at "rd"
    walk_at "nw"
    intro t7 h7
    generalize hg7 : upd H6 t7 _ = H7
    have s7 : Same H6 H7 := by rw [← hg7]; exact same_new h7
    have e7 : H7 t7 = some (.tup [.str "papererror", .bl false]) := by rw [← hg7]; exact upd_same
    have sd7 : Same H H7 := sd6.trans s7
    walk_at "rd"
    refine ⟨_, _, false, _, rfl, fun _ h => h, T.k_TooMany, sd7 _ _ hd, ?_⟩
    walk_at "rd"
    walk_at "nw"
    intro t8 h8
    generalize hg8 : upd H7 t8 _ = H8
    have s8 : Same H7 H8 := by rw [← hg8]; exact same_new h8
    have e8 : H8 t8 = some (.tup [.str "toomany", .bl false]) := by rw [← hg8]; exact upd_same
    have sd8 : Same H H8 := sd7.trans s8
    walk_at "rd"
    refine ⟨_, _, false, _, rfl, fun _ h => h, T.k_BadPrime, sd8 _ _ hd, ?_⟩
    walk_at "rd"
    walk_at "nw"
    intro t9 h9
    generalize hg9 : upd H8 t9 _ = H9
    have s9 : Same H8 H9 := by rw [← hg9]; exact same_new h9
    have e9 : H9 t9 = some (.tup [.str "badprime", .bl false]) := by rw [← hg9]; exact upd_same
    have sd9 : Same H H9 := sd8.trans s9
    walk_at "rd"
    refine ⟨_, _, false, _, rfl, fun _ h => h, T.k_NoInverse, sd9 _ _ hd, ?_⟩
    walk_at "rd"
    walk_at "nw"
    intro t10 h10
    generalize hg10 : upd H9 t10 _ = H10
    have s10 : Same H9 H10 := by rw [← hg10]; exact same_new h10
    have e10 : H10 t10 = some (.tup [.str "noinverse", .bl false]) := by rw [← hg10]; exact upd_same
    have sd10 : Same H H10 := sd9.trans s10
    walk_at "rd"
    refine ⟨_, _, false, _, rfl, fun _ h => h, T.k_NoNumber, sd10 _ _ hd, ?_⟩
    walk_at "rd"
    walk_at "nw"
    intro t11 h11
    generalize hg11 : upd H10 t11 _ = H11
    have s11 : Same H10 H11 := by rw [← hg11]; exact same_new h11
    have e11 : H11 t11 = some (.tup [.str "nonumber", .bl false]) := by rw [← hg11]; exact upd_same
    have sd11 : Same H H11 := sd10.trans s11
    walk_at "rd"
    refine ⟨_, _, false, _, rfl, fun _ h => h, T.k_BadTable, sd11 _ _ hd, ?_⟩
    walk_at "rd"
    walk_at "nw"
    intro t12 h12
    generalize hg12 : upd H11 t12 _ = H12
    have s12 : Same H11 H12 := by rw [← hg12]; exact same_new h12
    have e12 : H12 t12 = some (.tup [.str "badtable", .bl false]) := by rw [← hg12]; exact upd_same
    have sd12 : Same H H12 := sd11.trans s12
    walk_at "rd"
    refine ⟨_, _, true, _, rfl, fun _ h => h, T.k_BadCells, sd12 _ _ hd, ?_⟩
    walk_at "rd"
    walk_at "nw"
    intro t13 h13
    generalize hg13 : upd H12 t13 _ = H13
    have s13 : Same H12 H13 := by rw [← hg13]; exact same_new h13
    have e13 : H13 t13 = some (.tup [.str "badcells", .bl true]) := by rw [← hg13]; exact upd_same
    have sd13 : Same H H13 := sd12.trans s13
    walk_at "rd"
    walk_at "nw"
    intro l hl
    generalize hgl : upd H13 l _ = H'
    have sl : Same H13 H' := by rw [← hgl]; exact same_new hl
    have el : H' l = some (.lst [.ref t1, .ref t2, .ref t3, .ref t4, .ref t5, .ref t6, .ref t7, .ref t8, .ref t9, .ref t10, .ref t11, .ref t12, .ref t13]) := by rw [← hgl]; exact upd_same
    have sd : Same H H' := sd13.trans sl
    have pr : Paired (fun (x : V) (y : Str × Bool) => ∃ t : Addr, x = .ref t ∧ H' t = some (.tup [.str y.1, .bl y.2])) [.ref t1, .ref t2, .ref t3, .ref t4, .ref t5, .ref t6, .ref t7, .ref t8, .ref t9, .ref t10, .ref t11, .ref t12, .ref t13] kRows := (.cons ⟨t1, rfl, sl _ _ (s13 _ _ (s12 _ _ (s11 _ _ (s10 _ _ (s9 _ _ (s8 _ _ (s7 _ _ (s6 _ _ (s5 _ _ (s4 _ _ (s3 _ _ (s2 _ _ (e1)))))))))))))⟩ (.cons ⟨t2, rfl, sl _ _ (s13 _ _ (s12 _ _ (s11 _ _ (s10 _ _ (s9 _ _ (s8 _ _ (s7 _ _ (s6 _ _ (s5 _ _ (s4 _ _ (s3 _ _ (e2))))))))))))⟩ (.cons ⟨t3, rfl, sl _ _ (s13 _ _ (s12 _ _ (s11 _ _ (s10 _ _ (s9 _ _ (s8 _ _ (s7 _ _ (s6 _ _ (s5 _ _ (s4 _ _ (e3)))))))))))⟩ (.cons ⟨t4, rfl, sl _ _ (s13 _ _ (s12 _ _ (s11 _ _ (s10 _ _ (s9 _ _ (s8 _ _ (s7 _ _ (s6 _ _ (s5 _ _ (e4))))))))))⟩ (.cons ⟨t5, rfl, sl _ _ (s13 _ _ (s12 _ _ (s11 _ _ (s10 _ _ (s9 _ _ (s8 _ _ (s7 _ _ (s6 _ _ (e5)))))))))⟩ (.cons ⟨t6, rfl, sl _ _ (s13 _ _ (s12 _ _ (s11 _ _ (s10 _ _ (s9 _ _ (s8 _ _ (s7 _ _ (e6))))))))⟩ (.cons ⟨t7, rfl, sl _ _ (s13 _ _ (s12 _ _ (s11 _ _ (s10 _ _ (s9 _ _ (s8 _ _ (e7)))))))⟩ (.cons ⟨t8, rfl, sl _ _ (s13 _ _ (s12 _ _ (s11 _ _ (s10 _ _ (s9 _ _ (e8))))))⟩ (.cons ⟨t9, rfl, sl _ _ (s13 _ _ (s12 _ _ (s11 _ _ (s10 _ _ (e9)))))⟩ (.cons ⟨t10, rfl, sl _ _ (s13 _ _ (s12 _ _ (s11 _ _ (e10))))⟩ (.cons ⟨t11, rfl, sl _ _ (s13 _ _ (s12 _ _ (e11)))⟩ (.cons ⟨t12, rfl, sl _ _ (s13 _ _ (e12))⟩ (.cons ⟨t13, rfl, sl _ _ (e13)⟩ .nil)))))))))))))
    generalize ([V.ref t1, V.ref t2, V.ref t3, V.ref t4, V.ref t5, V.ref t6, V.ref t7, V.ref t8, V.ref t9, V.ref t10, V.ref t11, V.ref t12, V.ref t13] : List V) = xs at el pr
    walk_at "rd"
    clear e1 e2 e3 e4 e5 e6 e7 e8 e9 e10 e11 e12 e13
    refine ⟨⟨_, SqL.of el⟩, fun D hD => lc_list (K := K) (a := l) (xs := xs) (fun i H2 => Same H' H2 ∧ H2 D = some (.lst (((kRows.take i).filter (·.2)).map fun z => V.str z.1))) ⟨same_new hD, upd_same⟩ (fun i H2 _ ⟨e, _⟩ => SqL.of (e _ _ el)) ?_ ?_⟩
    · rintro i y H2 hi ⟨e3, e4⟩
      obtain ⟨wb, hwb, t, rfl, ht⟩ := pairedAt pr hi
      obtain ⟨wd, b⟩ := wb
      refine ⟨rfl, ?_⟩
      have ht2 := e3 _ _ ht
      have htk := take_one hwb
      refine ⟨_, rfl, t, _, 1, .bl b, rfl, rfl, SqT.of ht2, rfl, ?_⟩
      have hlen : ((((kRows.take i).filter (·.2)).map fun z => V.str z.1)).length ≤ 13 := by
        rw [List.length_map]
        exact Nat.le_trans (List.length_filter_le _ _) (by rw [List.length_take]; exact Nat.min_le_right _ _)
      cases b with
      | true =>
        refine ⟨true, rfl, ?_⟩
        walk_at "rd"
        refine ⟨t, _, 0, .str wd, rfl, rfl, SqT.of ht2, rfl, _, e4, sz_lt (Nat.lt_of_le_of_lt hlen (by decide)), e3.mut hD, ?_⟩
        rw [htk, List.filter_append, List.map_append]
        exact upd_same
      | false =>
        refine ⟨false, rfl, e3, ?_⟩
        rw [htk, List.filter_append, List.map_append]
        rw [e4]
        show _ = some (HO.lst (_ ++ []))
        rw [List.append_nil]
    · rintro H2 ⟨e3, e4⟩
      have hl13 : xs.length = 13 := pr.length
      rw [hl13] at e4
      exact q D H2 (sd.trans e3) e4
omit T in
theorem xd_word (v : V) : (excD ["cells"] "BadCells" [v]).lookup ("word" : Str) = some (.str "badcells") := by
  first | rfl | decide +kernel
omit T in
theorem xd_cells (v : V) : (excD ["cells"] "BadCells" [v]).lookup ("cells" : Str) = some v := by
  first | rfl | decide +kernel
def spClean (C : Addr) : Addr × Obj → Sp := fun p vs H Q _ => ∃ (d : Addr) (v : V), vs = [.ref p.1, .str "numbererror", .str "badcells"] ∧ IsBC C d p H v ∧ ∀ H', Same H H' → Q (.bl true) H'
theorem ok_clean {f : Addr} {fd : FuncData} (F : Fun K "_law_clean" "_law_clean" s_clean f fd) {f_same : Addr} {fd_same : FuncData} (D_same : Def K mg "_law_same" s_same p_same f_same fd_same) (E_same : FnE P w K mg base 1 f_same fd_same p_same spSameE) {f_kinds : Addr} {fd_kinds : FuncData} (D_kinds : Def K mg "_law_kinds" s_kinds p_kinds f_kinds fd_kinds) (E_kinds : FnE P w K mg base 2 f_kinds fd_kinds p_kinds (spKinds C_BadCells)) : FnE P w K mg base 3 f fd p_clean (spClean C_BadCells) := by
  refine F.okE sc_clean (fun p vs H Q E h => ?_) (fun cdv A outer s H vs Q E p hot hr h => ?_)
  · obtain ⟨d, v, rfl, _⟩ := h
    rfl
  · obtain ⟨d, v, rfl, ⟨z, hd⟩, q⟩ := h
    have hp : p ∈ [p] := List.mem_singleton.mpr rfl
    have kC := T.lf_BadCells.kind
    have no_word := kC.nw
    refine ⟨_, (pss_one (ps_ret (by exact (pe_and (pe_callB (call_isP hp kC z) (by rfl) T.b_isinstance (by first | exact PySem.boot_isinstance | decide +kernel) (pa_cons (pv 0) (pa_cons (pe_bltn (v := .ty "ValueError") (by rfl) T.b_ValueError (by first | exact PySem.boot_ValueError | decide +kernel) rfl) pa_nil))) (pe_and (pe_callE E_same (hr.mono (by decide)) hot hp rfl D_same.g D_same.fn.kp D_same.b (pa_cons (pe_xp hp kC z no_word (pv 0)) (pa_cons (pv 2) pa_nil))) (pe_one (pe_cmpR (op_eqV (hu64 hr)) (pe_callE E_kinds (hr.mono (by decide)) hot hp rfl D_kinds.g D_kinds.fn.kp D_kinds.b (pa_cons (pv 0) pa_nil)) (pe_lst (pa_cons (pv 1) (pa_cons (pv 2) pa_nil))) (nomark _)))))))), ?_⟩
    walk_at "rd"
    refine ⟨_, _, true, _, rfl, fun _ h => h, T.k_ValueError, hd, ?_⟩
    walk_at "rd"
    refine ⟨rfl, _, _, hd, xd_word v, ?_⟩
    walk_at "rd"
    refine ⟨d, v, rfl, ⟨z, hd⟩, fun l H' s1 hl => ?_⟩
    walk_at "rd"
    walk_at "nw"
    intro u hu
    refine ⟨2, by decide, .inl ⟨_, _, _, _, rfl, rfl, SqL.of (same_new hu _ _ hl), SqL.of upd_same, .cons (.inl ⟨rfl, rfl⟩) (.cons (.inl ⟨rfl, rfl⟩) .nil)⟩, ?_⟩
    exact q _ (s1.trans (same_new hu))
def spRefusal (C : Addr) : Addr × Obj → Sp := fun p vs H Q _ => ∃ (d : Addr) (v : V), vs = [.ref p.1] ∧ IsBC C d p H v ∧ ∀ t H', Same H H' → H' t = some (.tup [.str "badcells", v]) → Q (.ref t) H'
theorem ok_refusal {f : Addr} {fd : FuncData} (F : Fun K "_law_refusal" "_law_refusal" s_refusal f fd) {f_clean : Addr} {fd_clean : FuncData} (D_clean : Def K mg "_law_clean" s_clean p_clean f_clean fd_clean) (E_clean : FnE P w K mg base 3 f_clean fd_clean p_clean (spClean C_BadCells)) : FnE P w K mg base 4 f fd p_refusal (spRefusal C_BadCells) := by
  refine F.okE sc_refusal (fun p vs H Q E h => ?_) (fun cdv A outer s H vs Q E p hot hr h => ?_)
  · obtain ⟨d, v, rfl, _⟩ := h
    rfl
  · obtain ⟨d, v, rfl, ⟨z, hd⟩, q⟩ := h
    have hp : p ∈ [p] := List.mem_singleton.mpr rfl
    have kC := T.lf_BadCells.kind
    have no_cells := (T.lf_BadCells.nf "cells" List.mem_cons_self).1
    refine ⟨_, (pss_cons (ps_if (PW.pt (pw_and (pt_val (pe_callB (call_isP hp kC z) (by rfl) T.b_isinstance (by first | exact PySem.boot_isinstance | decide +kernel) (pa_cons (pv 0) (pa_cons (pe_glob (v := .ref C_BadCells) rfl T.g_BadCells rfl) pa_nil)))) (pw_and1 (pt_val (pe_callE E_clean (hr.mono (by decide)) hot hp rfl D_clean.g D_clean.fn.kp D_clean.b (pa_cons (pv 0) (pa_cons pe_str (pa_cons pe_str pa_nil)))))))) (pss_one (ps_ret (by exact (pe_tup (pa_cons pe_str (pa_cons (pe_xp hp kC z no_cells (pv 0)) pa_nil)))))) pss_nil)
      (pss_one (ps_ret (by exact (pe_tup (pa_cons pe_str pa_nil)))))), ?_⟩
    walk_at "rd"
    refine ⟨_, _, true, _, rfl, fun _ h => h, T.k_BadCells, hd, ?_⟩
    walk_at "rd"
    refine ⟨d, v, rfl, ⟨z, hd⟩, fun H' s1 => ?_⟩
    walk_at "rd"
    refine ⟨rfl, _, _, s1 _ _ hd, xd_cells v, ?_⟩
    walk_at "rd"
    walk_at "nw"
    intro t ht
    exact q t _ (s1.trans (same_new ht)) upd_same
def spRefZ (C a : Addr) (cls : Value) (d : Option Addr) : Sp := fun vs H Q _ => ∃ (d' : Addr) (v : V), vs = [.ref a] ∧ (cls = .ref C ∧ d = some d') ∧ H d' = some (.xd (excD ["cells"] "BadCells" [v])) ∧ ∀ t H', Same H H' → H' t = some (.tup [.str "badcells", v]) → Q (.ref t) H'
omit T in
theorem refZ {C a : Addr} {cls : Value} {d : Option Addr} {oe : Obj} (hz : L2N.Zn cls d oe) (hf : ∃ vs : Array Value, oe.data = .fields vs) : ∀ vs H Q E, spRefZ C a cls d vs H Q E → spRefusal C (a, oe) vs H Q E := by
  rintro vs H Q E ⟨d', v, rfl, ⟨rfl, rfl⟩, hd, q⟩
  exact ⟨d', v, rfl, ⟨⟨hz.zc, hf⟩, hd⟩, q⟩
def spSaid (C : Addr) : Sp := fun vs H Q _ => ∃ (wd : Str) (a b : V), vs = [.str wd, a, b] ∧
  ((∃ (n c : Nat) (d : Int), (a = .int n ∧ b = .int (c + 1 : Nat)) ∧ n ≤ 120 ∧ c < 120 ∧ Good wd n c d ∧ ∀ t H', Same H H' → H' t = some (.tup [.bl true, .int d]) → Q (.ref t) H') ∨
   ((wd = "steps" ∨ wd = "rounds" ∨ wd = "stop") ∧ ((∃ i, b = .int i ∧ i < 1) ∨ (∃ n, NotInt H b n)) ∧ ∀ t u H', Same H H' → H' t = some (.tup [.bl false, .ref u]) → H' u = some (.tup [.str "badcells", b]) → Q (.ref t) H'))
theorem ok_said {f : Addr} {fd : FuncData} (F : Fun K "_law_said" "_law_said" s_said f fd) {f_rounds : Addr} {fd_rounds : FuncData} (D_rounds : Def K mg "rounds" s_rounds p_rounds f_rounds fd_rounds) (G_rounds : FnOk P w K mg base (L2N.CX P w) 4 f_rounds fd_rounds p_rounds (spR C_BadCells spRounds2)) {f_least_steps : Addr} {fd_least_steps : FuncData} (D_least_steps : Def K mg "least_steps" s_least_steps p_least_steps f_least_steps fd_least_steps) (G_least_steps : FnOk P w K mg base (L2N.CX P w) 5 f_least_steps fd_least_steps p_least_steps (spR C_BadCells spSteps2)) {f_best_stop : Addr} {fd_best_stop : FuncData} (D_best_stop : Def K mg "best_stop" s_best_stop p_best_stop f_best_stop fd_best_stop) (G_best_stop : FnOk P w K mg base (L2N.CX P w) 6 f_best_stop fd_best_stop p_best_stop (spR C_BadCells spStop2)) {f_refusal : Addr} {fd_refusal : FuncData} (D_refusal : Def K mg "_law_refusal" s_refusal p_refusal f_refusal fd_refusal) (E_refusal : FnE P w K mg base 4 f_refusal fd_refusal p_refusal (spRefusal C_BadCells)) : FnOk P w K mg base CX0 9 f fd p_said (spSaid C_BadCells) := by
  refine F.ok sc_said (fun vs H Q E h => ?_) (fun cdv A outer s H vs Q E hr h => ?_)
  · obtain ⟨wd, a, b, rfl, _⟩ := h
    rfl
  · obtain ⟨wd, a, b, rfl, q⟩ := h
    refine ⟨_, (pss_one (L2N.ps_try_as (i := 3) (tb := _) (ts := _) (Wout := fun _ _ _ _ => False) rfl rfl sc_said.nd rfl rfl ⟨rfl, by decide, Or.inl T.g_VaultError⟩ takesN0
  (fun W pn xe tk _ => (pss_cons (ps_if (pt_cmpR op_eq (pv 0) pe_str (nomark _)) (pss_one (ps_ret (by exact (pe_tup (pa_cons pe_bl (pa_cons (pe_callS G_least_steps (hr.mono (by decide)) rfl D_least_steps.g D_least_steps.fn.kp D_least_steps.b (fun σ => L2N.passAt tk σ) (pa_cons (pv 1) (pa_cons (pv 2) pa_nil))) pa_nil)))))) pss_nil)
          (pss_cons (ps_if (pt_cmpR op_eq (pv 0) pe_str (nomark _)) (pss_one (ps_ret (by exact (pe_tup (pa_cons pe_bl (pa_cons (pe_callS G_rounds (hr.mono (by decide)) rfl D_rounds.g D_rounds.fn.kp D_rounds.b (fun σ => L2N.passAt tk σ) (pa_cons (pv 1) (pa_cons (pv 2) pa_nil))) pa_nil)))))) pss_nil)
          (pss_one (ps_ret (by exact (pe_tup (pa_cons pe_bl (pa_cons (pe_callS G_best_stop (hr.mono (by decide)) rfl D_best_stop.g D_best_stop.fn.kp D_best_stop.b (fun σ => L2N.passAt tk σ) (pa_cons (pv 1) (pa_cons (pv 2) pa_nil))) pa_nil)))))))))
  (fun a oe cls d pn hz hf => (pss_one (ps_ret (by exact (pe_tup (pa_cons pe_bl (pa_cons (pe_callZ E_refusal (refZ hz hf) (roomH_as (roomH_of (hr.mono (by decide))) rfl rfl) (hot_of hz hf) (List.mem_cons_self (a := (a, oe))) rfl D_refusal.g D_refusal.fn.kp D_refusal.b (pa_cons (pv 3) pa_nil)) pa_nil))))))))), ?_⟩
    rcases q with ⟨n, c, d, ⟨rfl, rfl⟩, hn, hc, g, q⟩ | ⟨hw, hb, q⟩
    · cases g with
      | steps =>
        walk_at "rd"
        refine .inl ⟨n, c, ⟨rfl, rfl⟩, hn, hc, ?_⟩
        walk_at "rd"
        walk_at "nw"
        intro t ht
        exact q t _ (same_new ht) upd_same
      | rounds _ _ r hR =>
        walk_at "rd"
        refine .inl ⟨n, c, ⟨rfl, rfl⟩, hn, hc, fun r' hr' => ?_⟩
        rw [hr'.uniq hR]
        walk_at "rd"
        walk_at "nw"
        intro t ht
        exact q t _ (same_new ht) upd_same
      | stop _ _ m hm =>
        walk_at "rd"
        refine .inl ⟨n, c, ⟨rfl, rfl⟩, hn, hc, Nat.le_trans hm.lo hm.hi, fun m' hm' => ?_⟩
        rw [hm'.uniq hm]
        walk_at "rd"
        walk_at "nw"
        intro t ht
        exact q t _ (same_new ht) upd_same
    · rcases hw with rfl | rfl | rfl
      all_goals
        walk_at "rd"
        refine .inr ⟨hb, fun d hd => ⟨true, T.ix_BadCells, fun _ e he => ?_, fun z => nomatch z⟩⟩
        walk_at "rd"
        refine ⟨d, b, rfl, ⟨rfl, rfl⟩, upd_same, fun u H' s1 hu => ?_⟩
        walk_at "rd"
        walk_at "nw"
        intro t ht
        exact q t u _ (((same_new hd).trans s1).trans (same_new ht)) upd_same (same_new ht _ _ hu)
end
end K11

set_option Elab.async false
set_option linter.all false
set_option maxRecDepth 100000
set_option maxHeartbeats 4000000
set_option pp.deepTerms false
set_option pp.deepTerms.threshold 12
namespace K11
open PySem PySem.Spec PyProof.Rows L2
local macro_rules | `(tactic| walk_at "ty") => `(tactic| first | exact .base (.int _) | exact .base (.bl _) | exact .base (.str _) | exact .base .non | assumption | exact .base (.tup (by assumption)) | exact .base (.lst (by assumption)))
local macro_rules | `(tactic| walk_at "cm") => `(tactic| first | exact cm_r (by decide) (by decide) | exact cm_l (by decide) (by decide) | exact cm_fmod (by decide) (by decide) | exact cm_r (by omega) (by omega) | exact cm_l (by omega) (by omega))
local macro_rules | `(tactic| walk_at "dv") => `(tactic| first | exact ⟨by decide, by decide⟩ | exact ⟨by omega, by omega⟩)
local macro_rules | `(tactic| walk_at "r1") => `(tactic| first
  | refine ⟨_, rfl, ?_⟩ | refine ⟨_, _, rfl, rfl, ?_⟩ | refine Or.inl ⟨_, rfl, ?_⟩ | refine Or.inr ⟨_, rfl, ?_⟩
  | refine And.intro (a := CMul _ _) (by walk_at "cm") ?_ | refine And.intro (a := CDivN _ _) (by walk_at "dv") ?_ | refine And.intro (a := _ ≠ (0 : Int)) (by first | decide | omega) ?_ | refine And.intro (a := scal _ _ = true) rfl ?_ | refine ⟨_, _, _, _, rfl, rfl, SqL.of (by first | exact upd_same | assumption), rfl, ?_⟩ | refine ⟨_, _, _, _, rfl, rfl, (by first | exact upd_same | assumption), rfl, ?_⟩ | refine ⟨_, _, rfl, ?_⟩ | refine And.intro (a := (_ : V) = V.non) rfl ?_ | refine And.intro (a := CPow _ _) ⟨by decide, by decide, by decide⟩ ?_ | refine And.intro (a := (_ : List V) = []) rfl ?_ | refine ⟨_, _, rfl, SqT.of (by first | exact upd_same | assumption), rfl, ?_⟩
  | refine ⟨_, _, _, _, true, rfl, ClsV.ty _, (by walk_at "ty"), kit_ty (by decide +kernel), ?_⟩ | refine ⟨_, _, _, _, false, rfl, ClsV.ty _, (by walk_at "ty"), kit_ty (by decide +kernel), ?_⟩)
local macro_rules | `(tactic| walk_at "rd") => `(tactic| repeat walk_at "r1")
local macro_rules | `(tactic| walk_at "yes") => `(tactic| (change (if true = true then _ else _); rw [if_pos rfl]))
local macro_rules | `(tactic| walk_at "no") => `(tactic| (change (if false = true then _ else _); rw [if_neg Bool.false_ne_true]))
local macro_rules | `(tactic| walk_at "nw") => `(tactic| refine And.intro (a := _ ≤ sizeLine) (sz_le (Nat.le_of_ble_eq_true rfl)) ?_)

section
variable {P : Program} {w : World} {K : PySem.W.Frag} {mg : Str → Option Value} {base : Heap}
variable {C_VaultError C_TooMany C_NumberError C_BadPrime C_NoInverse C_NoNumber C_BadTable C_BadCells C_TextError C_ShapeError C_PlanError C_CourseError C_KnowError C_PaperError fV fI : Addr}
variable (T : Txt P K mg C_VaultError C_TooMany C_NumberError C_BadPrime C_NoInverse C_NoNumber C_BadTable C_BadCells C_TextError C_ShapeError C_PlanError C_CourseError C_KnowError C_PaperError fV fI)
include T

omit T in
theorem Row.keep {st : Addr} {H H' : Hp} {x : V} (r : Row H x) (S : Store H st) (h : But st H H') : Row H' x := by
  obtain ⟨t, wd, n, c, d, rfl, e, q⟩ := r
  obtain ⟨cl, ns, a, b, c', d', e', g, h1, _⟩ := S.ex
  exact ⟨t, wd, n, c, d, rfl, h _ _ (fun z => by rw [z, h1] at e; cases e) e, q⟩
omit T in
theorem Row.same {H H' : Hp} {x : V} (r : Row H x) (h : Same H H') : Row H' x := by
  obtain ⟨t, wd, n, c, d, rfl, e, q⟩ := r
  exact ⟨t, wd, n, c, d, rfl, h _ _ e, q⟩
omit T in
theorem same_but {st : Addr} {H H1 H2 : Hp} (s : Same H H1) (hst : H st = none) (b : But st H1 H2) : Same H H2 := fun c o e => b c o (ne_of_none e hst) (s c o e)
omit T in
theorem but_tup {st t : Addr} {H H' : Hp} {xs : List V} (S : Store H st) (b : But st H H') (e : H t = some (.tup xs)) : H' t = some (.tup xs) := by
  obtain ⟨cl, ns, a, b', c', d', e', g, h1, _⟩ := S.ex
  exact b _ _ (fun z => by rw [z, h1] at e; cases e) e
omit T in
theorem st_ne {st l : Addr} {H : Hp} (S : Store H st) (h : H l = none) : l ≠ st := by
  obtain ⟨u, hu⟩ := S.some
  exact (ne_of_none hu h).symm
def spLaw (K : PySem.W.Frag) : Sp := fun vs H Q _ => ∃ (a : Addr) (ns : List Int), vs = [.ref a] ∧ SqL K H a (ns.map V.int) ∧ ∀ H', Same H H' → Q (.bl true) H'
theorem ok_law {f : Addr} {fd : FuncData} (F : Fun K "law" "law" s_law f fd) {f_store : Addr} {fd_store : FuncData} (D_store : Def K mg "_law_store" s_store p_store f_store fd_store) (G_store : FnOk P w K mg base CX0 1 f_store fd_store p_store (spStore K)) {f_badcells : Addr} {fd_badcells : FuncData} (D_badcells : Def K mg "_law_badcells" s_badcells p_badcells f_badcells fd_badcells) (G_badcells : FnOk P w K mg base CX0 4 f_badcells fd_badcells p_badcells spBad) {f_same : Addr} {fd_same : FuncData} (D_same : Def K mg "_law_same" s_same p_same f_same fd_same) (G_same : FnOk P w K mg base CX0 6 f_same fd_same p_same (spSame 6)) {f_cellcount : Addr} {fd_cellcount : FuncData} (D_cellcount : Def K mg "_law_cellcount" s_cellcount p_cellcount f_cellcount fd_cellcount) (G_cellcount : FnOk P w K mg base CX0 4 f_cellcount fd_cellcount p_cellcount spLen) {f_length : Addr} {fd_length : FuncData} (D_length : Def K mg "_law_length" s_length p_length f_length fd_length) (G_length : FnOk P w K mg base CX0 4 f_length fd_length p_length spLen) {f_dueof : Addr} {fd_dueof : FuncData} (D_dueof : Def K mg "_law_dueof" s_dueof p_dueof f_dueof fd_dueof) (G_dueof : FnOk P w K mg base CX0 4 f_dueof fd_dueof p_dueof spDue) {f_said : Addr} {fd_said : FuncData} (D_said : Def K mg "_law_said" s_said p_said f_said fd_said) (G_said : FnOk P w K mg base CX0 9 f_said fd_said p_said (spSaid C_BadCells)) {f_edgelength : Addr} {fd_edgelength : FuncData} (D_edgelength : Def K mg "_law_edgelength" s_edgelength p_edgelength f_edgelength fd_edgelength) (G_edgelength : FnOk P w K mg base CX0 3 f_edgelength fd_edgelength p_edgelength spEdgeL) : FnOk P w K mg base CX0 10 f fd p_law (spLaw K) := by
  refine F.ok sc_law (fun vs H Q E h => ?_) (fun cdv A outer s H vs Q E hr h => ?_)
  · obtain ⟨a, ns, rfl, _⟩ := h
    rfl
  · obtain ⟨a, ns, rfl, hS, q⟩ := h
    refine ⟨_, (pss_cons (ps_set (i := 1) sc_law.nd rfl (Or.inl rfl) (by exact (pe_call G_store (hr.mono (by decide)) rfl D_store.g D_store.fn.kp D_store.b .nil pass0 (pa_cons (pv 0) pa_nil))))
      (pss_cons (ps_set (i := 2) sc_law.nd rfl (Or.inl rfl) (by exact (pe_lst pa_nil)))
      (pss_mid (ps_for PassesOwn.never rfl (pi_range1 (by rfl) T.b_range (pa_cons pe_int pa_nil)) (pg_name (i := 3) sc_law.nd rfl (Or.inl rfl)) (pss_cons (ps_set (i := 4) sc_law.nd rfl (Or.inl rfl) (by exact (pe_call G_cellcount (hr.mono (by decide)) rfl D_cellcount.g D_cellcount.fn.kp D_cellcount.b .nil pass0 (pa_cons (pv 1) pa_nil))))
          (pss_cons (ps_set (i := 5) sc_law.nd rfl (Or.inl rfl) (by exact (pe_call G_length (hr.mono (by decide)) rfl D_length.g D_length.fn.kp D_length.b .nil pass0 (pa_cons (pv 1) pa_nil))))
          (pss_mid (ps_if (pt_cmpR op_eq (pv 3) pe_int (nomark _)) (pss_one (ps_set (i := 5) sc_law.nd rfl (Or.inl rfl) (by exact (pe_call G_edgelength (hr.mono (by decide)) rfl D_edgelength.g D_edgelength.fn.kp D_edgelength.b .nil pass0 (pa_cons (pv 1) (pa_cons (pv 4) pa_nil)))))) pss_nil)
          (pss_cons (ps_asg (by exact (pe_call G_dueof (hr.mono (by decide)) rfl D_dueof.g D_dueof.fn.kp D_dueof.b .nil pass0 (pa_cons (pv 5) (pa_cons (pv 4) pa_nil)))) (pg_tup rfl (pgs_cons (pg_name (i := 6) sc_law.nd rfl (Or.inl rfl)) (pgs_cons (pg_name (i := 7) sc_law.nd rfl (Or.inl rfl)) pgs_nil))))
          (pss_mid (ps_if (pt_not (pt_val (pv 6))) (pss_one (ps_ret (by exact pe_bl))) pss_nil)
          (pss_one (ps_set (i := 2) sc_law.nd rfl (Or.inl rfl) (by exact (pe_op op_cat (pe_op op_cat (pv 2) (pv 7)) (pe_lst (pa_cons (pe_tup (pa_cons pe_str (pa_cons pe_int (pa_cons (pv 4) (pa_cons pe_int pa_nil))))) (pa_cons (pe_tup (pa_cons pe_str (pa_cons pe_int (pa_cons (pv 4) (pa_cons pe_int pa_nil))))) pa_nil)))))))))))))
      (pss_cons (ps_set (i := 2) sc_law.nd rfl (Or.inl rfl) (by exact (pe_op op_cat (pv 2) (pe_lst (pa_cons (pe_tup (pa_cons pe_str (pa_cons pe_int (pa_cons pe_int (pa_cons pe_int pa_nil))))) (pa_cons (pe_tup (pa_cons pe_str (pa_cons pe_int (pa_cons pe_int (pa_cons pe_int pa_nil))))) (pa_cons (pe_tup (pa_cons pe_str (pa_cons pe_int (pa_cons pe_int (pa_cons pe_int pa_nil))))) (pa_cons (pe_tup (pa_cons pe_str (pa_cons pe_int (pa_cons pe_int (pa_cons pe_int pa_nil))))) pa_nil))))))))
      (pss_mid (ps_for PassesOwn.never rfl (pi_list (pe_op op_cat (pv 2) (pe_lstRev rfl (by rfl) T.b_list (by rfl) T.b_reversed (pv 2)))) (pg_tup rfl (pgs_cons (pg_name (i := 8) sc_law.nd rfl (Or.inl rfl)) (pgs_cons (pg_name (i := 5) sc_law.nd rfl (Or.inl rfl)) (pgs_cons (pg_name (i := 4) sc_law.nd rfl (Or.inl rfl)) (pgs_cons (pg_name (i := 9) sc_law.nd rfl (Or.inl rfl)) pgs_nil))))) (pss_one (ps_if (pt_not (pt_val (pe_call G_same (hr.mono (by decide)) rfl D_same.g D_same.fn.kp D_same.b .nil pass0 (pa_cons (pe_call G_said (hr.mono (by decide)) rfl D_said.g D_said.fn.kp D_said.b .nil pass0 (pa_cons (pv 8) (pa_cons (pv 5) (pa_cons (pv 4) pa_nil)))) (pa_cons (pe_tup (pa_cons pe_bl (pa_cons (pv 9) pa_nil))) pa_nil))))) (pss_one (ps_ret (by exact pe_bl))) pss_nil)))
      (pss_cons (ps_set (i := 10) sc_law.nd rfl (Or.inl rfl) (by exact (pe_call G_badcells (hr.mono (by decide)) rfl D_badcells.g D_badcells.fn.kp D_badcells.b .nil pass0 (pa_cons (pv 1) pa_nil))))
      (pss_mid (ps_for PassesOwn.never rfl (pi_list (pe_lst (pa_cons pe_str (pa_cons pe_str (pa_cons pe_str pa_nil))))) (pg_name (i := 8) sc_law.nd rfl (Or.inl rfl)) (pss_one (ps_for PassesOwn.never rfl (pi_list (pe_lst (pa_cons pe_bl (pa_cons (pv 10) pa_nil)))) (pg_name (i := 11) sc_law.nd rfl (Or.inl rfl)) (pss_cons (ps_set (i := 12) sc_law.nd rfl (Or.inl rfl) (by exact (pe_lst (pa_cons (pe_call G_said (hr.mono (by decide)) rfl D_said.g D_said.fn.kp D_said.b .nil pass0 (pa_cons (pv 8) (pa_cons pe_int (pa_cons (pv 11) pa_nil)))) (pa_cons (pe_call G_said (hr.mono (by decide)) rfl D_said.g D_said.fn.kp D_said.b .nil pass0 (pa_cons (pv 8) (pa_cons (pe_call G_length (hr.mono (by decide)) rfl D_length.g D_length.fn.kp D_length.b .nil pass0 (pa_cons (pv 1) pa_nil)) (pa_cons (pv 11) pa_nil)))) pa_nil)))))
              (pss_one (ps_if (pt_not (pt_val (pe_call G_same (hr.mono (by decide)) rfl D_same.g D_same.fn.kp D_same.b .nil pass0 (pa_cons (pv 12) (pa_cons (pe_lst (pa_cons (pe_tup (pa_cons pe_bl (pa_cons (pe_tup (pa_cons pe_str (pa_cons (pv 11) pa_nil))) pa_nil))) (pa_cons (pe_tup (pa_cons pe_bl (pa_cons (pe_tup (pa_cons pe_str (pa_cons (pv 11) pa_nil))) pa_nil))) pa_nil))) pa_nil))))) (pss_one (ps_ret (by exact pe_bl))) pss_nil))))))
      (pss_one (ps_ret (by exact (pe_call G_same (hr.mono (by decide)) rfl D_same.g D_same.fn.kp D_same.b .nil pass0 (pa_cons (pe_call G_said (hr.mono (by decide)) rfl D_said.g D_said.fn.kp D_said.b .nil pass0 (pa_cons pe_str (pa_cons pe_int (pa_cons (pv 10) pa_nil)))) (pa_cons (pe_tup (pa_cons pe_bl (pa_cons (pe_tup (pa_cons pe_str (pa_cons (pv 10) pa_nil))) pa_nil))) pa_nil))))))))))))), ?_⟩
    walk_at "rd"
    refine ⟨a, ns, rfl, hS, fun st H1 S1 s1 hst => ?_⟩
    walk_at "rd"
    walk_at "nw"
    intro ask0 h0
    refine ⟨fun σ H' => ∃ (ask : Addr) (xs : List V) (k m n r rw : Option V), σ = [some (.ref a), some (.ref st), some (.ref ask), k, m, n, r, rw, none, none, none, none, none] ∧ Store H' st ∧ Same H H' ∧ H' ask = some (.lst xs) ∧ ask ≠ st ∧ xs.length ≤ 20 ∧ ∀ x ∈ xs, Row H' x, ?_, ?_⟩
    · walk_at "rd"
      refine ⟨by decide, by decide, ?_⟩
      refine for_range (fun i σ H' => ∃ (ask : Addr) (xs : List V) (k m n r rw : Option V), σ = [some (.ref a), some (.ref st), some (.ref ask), k, m, n, r, rw, none, none, none, none, none] ∧ Store H' st ∧ Same H H' ∧ H' ask = some (.lst xs) ∧ ask ≠ st ∧ xs.length ≤ 5 * i ∧ ∀ x ∈ xs, Row H' x) ?_ ?_ ?_
      · refine ⟨ask0, [], none, none, none, none, none, rfl, S1.keep (same_new h0), s1.trans (same_new h0), upd_same, ?_, Nat.le_refl 0, fun x hx => nomatch hx⟩
        obtain ⟨u, hu⟩ := S1.some
        exact (ne_of_none hu h0).symm
      · rintro i σ H2 hi ⟨ask, xs, k, m, n, r, rw, rfl, S2, s2, hask, nask, hlen, hrows⟩
        have hi4 : i < 4 := hi
        walk_at "rd"
        refine ⟨S2, fun m1 H3 a1 a2 S3 b3 => ?_⟩
        obtain ⟨c, rfl⟩ : ∃ c : Nat, m1 = ((c + 1 : Nat) : Int) := ⟨(m1 - 1).toNat, by omega⟩
        have hc : c < 120 := by omega
        walk_at "rd"
        refine ⟨S3, fun n1 H4 c1 c2 S4 b4 => ?_⟩
        walk_at "rd"
        refine ⟨fun σ H' => ∃ n2 : Int, σ = [some (.ref a), some (.ref st), some (.ref ask), some (.int (0 + i)), some (.int (c + 1 : Nat)), some (.int n2), r, rw, none, none, none, none, none] ∧ 1 ≤ n2 ∧ n2 ≤ 120 ∧ Store H' st ∧ But st H4 H', ?_, ?_⟩
        · walk_at "rd"
          refine ite2 (fun hc => ?_) (fun hc => ?_)
          · walk_at "rd"
            refine ⟨c, ⟨rfl, by assumption⟩, S4, fun n2 H5 d1 d2 S5 b5 => ?_⟩
            walk_at "rd"
            exact ⟨d1, d2, S5, b5⟩
          · exact ⟨n1, rfl, c1, c2, S4, .refl⟩
        rintro σ H5 ⟨n2, rfl, d1, d2, S5, b5⟩
        obtain ⟨j, rfl⟩ : ∃ j : Nat, n2 = (j : Int) := ⟨n2.toNat, by omega⟩
        have b25 : But st H2 H5 := (b3.trans b4).trans b5
        have s5 : Same H H5 := same_but s2 hst b25
        have hask5 := b25 _ _ nask hask
        have hrows5 : ∀ x ∈ xs, Row H5 x := fun x hx => (hrows x hx).keep S2 b25
        clear b25 b3 b4 b5 S3 S4 S2 hrows hask s2 hi
        walk_at "rd"
        refine ⟨j, c, ⟨rfl, rfl⟩, by omega, by omega, hc, fun p rr t1 t2 t3 H6 s6 hp hr _ R1 R2 R3 => ?_⟩
        walk_at "rd"
        refine ⟨fun σ H' => σ = [some (.ref a), some (.ref st), some (.ref ask), some (.int (0 + i)), some (.int (c + 1 : Nat)), some (.int j), some (.bl true), some (.ref rr), none, none, none, none, none] ∧ H6 = H', ?_, ?_⟩
        · walk_at "rd"
          exact ⟨rfl, rfl⟩
        rintro σ _ ⟨rfl, rfl⟩
        walk_at "rd"
        refine ⟨ask, rr, xs, _, rfl, rfl, s6 _ _ hask5, hr, sz_le (by show xs.length + 3 ≤ 100000; omega), fun l1 h_l1 => ?_⟩
        generalize hg_l1 : upd H6 l1 _ = H7
        have s_l1 : Same H6 H7 := by rw [← hg_l1]; exact same_new h_l1
        have e_l1 : H7 l1 = some (.lst (xs ++ [t1, t2, t3])) := by rw [← hg_l1]; exact upd_same
        clear hg_l1
        walk_at "rd"
        walk_at "nw"
        intro u1 h_u1
        generalize hg_u1 : upd H7 u1 _ = H8
        have s_u1 : Same H7 H8 := by rw [← hg_u1]; exact same_new h_u1
        have e_u1 : H8 u1 = some (.tup [.str "steps", .int 0, .int (c + 1 : Nat), .int 0]) := by rw [← hg_u1]; exact upd_same
        clear hg_u1
        walk_at "rd"
        walk_at "nw"
        intro u2 h_u2
        generalize hg_u2 : upd H8 u2 _ = H9
        have s_u2 : Same H8 H9 := by rw [← hg_u2]; exact same_new h_u2
        have e_u2 : H9 u2 = some (.tup [.str "rounds", .int 0, .int (c + 1 : Nat), .int 0]) := by rw [← hg_u2]; exact upd_same
        clear hg_u2
        walk_at "rd"
        walk_at "nw"
        intro u3 h_u3
        generalize hg_u3 : upd H9 u3 _ = H10
        have s_u3 : Same H9 H10 := by rw [← hg_u3]; exact same_new h_u3
        have e_u3 : H10 u3 = some (.lst [.ref u1, .ref u2]) := by rw [← hg_u3]; exact upd_same
        clear hg_u3

        walk_at "rd"
        have s70 : Same H7 H10 := (s_u1.trans s_u2).trans s_u3
        refine ⟨l1, u3, _, _, rfl, rfl, s70 _ _ e_l1, e_u3, sz_le (by rw [List.length_append]; show xs.length + 3 + 2 ≤ 100000; omega), fun l2 h_l2 => ?_⟩
        walk_at "rd"
        have s6e : Same H6 (upd H10 l2 (.lst (xs ++ [t1, t2, t3] ++ [V.ref u1, V.ref u2]))) := (s_l1.trans s70).trans (same_new h_l2)
        refine ⟨l2, xs ++ [t1, t2, t3] ++ [V.ref u1, V.ref u2], _, _, _, _, _, rfl, S5.keep (s6.trans s6e), (s5.trans s6).trans s6e, upd_same, ?_, ?_, ?_⟩
        · obtain ⟨u, hu⟩ := S5.some
          exact (ne_of_none (((s6.trans s_l1).trans s70) _ _ hu) h_l2).symm
        · rw [List.length_append, List.length_append]
          show xs.length + 3 + 2 ≤ 5 * (i + 1)
          omega
        · have R4 : Row H8 (.ref u1) := ⟨u1, "steps", 0, c, 0, rfl, e_u1, by decide, hc, by rw [← M11.T_0 c]; exact .steps 0 c⟩
          have R5 : Row H9 (.ref u2) := ⟨u2, "rounds", 0, c, ((0 : Nat) : Int), rfl, e_u2, by decide, hc, .rounds 0 c 0 (M11.R0 c)⟩
          intro x hx
          simp only [List.mem_append, List.mem_cons, List.mem_nil_iff, or_false] at hx
          rcases hx with (hx | rfl | rfl | rfl) | rfl | rfl
          · exact ((hrows5 x hx).same s6).same s6e
          · exact R1.same s6e
          · exact R2.same s6e
          · exact R3.same s6e
          · exact R4.same ((s_u2.trans s_u3).trans (same_new h_l2))
          · exact R5.same (s_u3.trans (same_new h_l2))
      · rintro σ H2 ⟨ask, xs, k, m, n, r, rw, rfl, S2, s2, hask, nask, hlen, hrows⟩
        exact ⟨ask, xs, k, m, n, r, rw, rfl, S2, s2, hask, nask, hlen, hrows⟩
    rintro σ H2 ⟨ask, xs, k, m, n, r, rw, rfl, S2, s2, hask, nask, hlen, hrows⟩
    walk_at "rd"
    walk_at "nw"
    intro v1 h_v1
    generalize hg_v1 : upd H2 v1 _ = H3
    have s_v1 : Same H2 H3 := by rw [← hg_v1]; exact same_new h_v1
    have e_v1 : H3 v1 = some (.tup [.str "steps", .int 1, .int 1, .int 1]) := by rw [← hg_v1]; exact upd_same
    clear hg_v1
    walk_at "rd"
    walk_at "nw"
    intro v2 h_v2
    generalize hg_v2 : upd H3 v2 _ = H4
    have s_v2 : Same H3 H4 := by rw [← hg_v2]; exact same_new h_v2
    have e_v2 : H4 v2 = some (.tup [.str "stop", .int 1, .int 1, .int 1]) := by rw [← hg_v2]; exact upd_same
    clear hg_v2
    walk_at "rd"
    walk_at "nw"
    intro v3 h_v3
    generalize hg_v3 : upd H4 v3 _ = H5
    have s_v3 : Same H4 H5 := by rw [← hg_v3]; exact same_new h_v3
    have e_v3 : H5 v3 = some (.tup [.str "rounds", .int 1, .int 120, .int 1]) := by rw [← hg_v3]; exact upd_same
    clear hg_v3
    walk_at "rd"
    walk_at "nw"
    intro v4 h_v4
    generalize hg_v4 : upd H5 v4 _ = H6
    have s_v4 : Same H5 H6 := by rw [← hg_v4]; exact same_new h_v4
    have e_v4 : H6 v4 = some (.tup [.str "steps", .int 120, .int 1, .int 7260]) := by rw [← hg_v4]; exact upd_same
    clear hg_v4
    walk_at "rd"
    walk_at "nw"
    intro v5 h_v5
    generalize hg_v5 : upd H6 v5 _ = H7
    have s_v5 : Same H6 H7 := by rw [← hg_v5]; exact same_new h_v5
    have e_v5 : H7 v5 = some (.lst [.ref v1, .ref v2, .ref v3, .ref v4]) := by rw [← hg_v5]; exact upd_same
    clear hg_v5
    walk_at "rd"
    have s27 : Same H2 H7 := (((s_v1.trans s_v2).trans s_v3).trans s_v4).trans s_v5
    refine ⟨ask, v5, _, _, rfl, rfl, s27 _ _ hask, e_v5, sz_le (by show xs.length + 4 ≤ 100000; omega), fun l h_l => ?_⟩
    generalize hg_l : upd H7 l _ = H8
    have s_l : Same H7 H8 := by rw [← hg_l]; exact same_new h_l
    have e_l : H8 l = some (.lst (xs ++ [.ref v1, .ref v2, .ref v3, .ref v4])) := by rw [← hg_l]; exact upd_same
    clear hg_l
    walk_at "rd"
    have all8 : ∀ x ∈ xs ++ [.ref v1, .ref v2, .ref v3, .ref v4], Row H8 x := by
      have R1 : Row H3 (.ref v1) := ⟨v1, "steps", 1, 0, 1, rfl, e_v1, by decide, by decide, by have g := Good.steps 1 0; rw [M11.T11] at g; exact g⟩
      have R2 : Row H4 (.ref v2) := ⟨v2, "stop", 1, 0, ((1 : Nat) : Int), rfl, e_v2, by decide, by decide, .stop 1 0 1 (M11.stop_1 (Nat.le_refl 1))⟩
      have R3 : Row H5 (.ref v3) := ⟨v3, "rounds", 1, 119, ((1 : Nat) : Int), rfl, e_v3, by decide, by decide, .rounds 1 119 1 M11.R1⟩
      have R4 : Row H6 (.ref v4) := ⟨v4, "steps", 120, 0, 7260, rfl, e_v4, by decide, by decide, by have g := Good.steps 120 0; rw [M11.T120] at g; exact g⟩
      intro x hx
      simp only [List.mem_append, List.mem_cons, List.mem_nil_iff, or_false] at hx
      rcases hx with hx | rfl | rfl | rfl | rfl
      · exact ((hrows x hx).same s27).same s_l
      · exact R1.same ((((s_v2.trans s_v3).trans s_v4).trans s_v5).trans s_l)
      · exact R2.same (((s_v3.trans s_v4).trans s_v5).trans s_l)
      · exact R3.same ((s_v4.trans s_v5).trans s_l)
      · exact R4.same (s_v5.trans s_l)
    have s8 : Same H H8 := (s2.trans s27).trans s_l
    have S8 : Store H8 st := S2.keep (s27.trans s_l)
    have hl24 : (xs ++ [V.ref v1, .ref v2, .ref v3, .ref v4]).length ≤ 24 := by rw [List.length_append]; show xs.length + 4 ≤ 24; omega
    clear s27 s_v1 s_v2 s_v3 s_v4 s_v5 e_v1 e_v2 e_v3 e_v4 e_v5 S2 s2 hask nask hlen hrows s_l
    generalize xs ++ [V.ref v1, .ref v2, .ref v3, .ref v4] = ys at *
    refine ⟨fun σ H' => ∃ (k m n r rw wh du : Option V), σ = [some (.ref a), some (.ref st), some (.ref l), k, m, n, r, rw, wh, du, none, none, none] ∧ Store H' st ∧ Same H H', ?_, ?_⟩
    · walk_at "rd"
      refine ⟨l, ys, rfl, SqL.of e_l, fun p h_p => ?_⟩
      generalize hg_p : upd H8 p _ = H9
      have s_p : Same H8 H9 := by rw [← hg_p]; exact same_new h_p
      have e_p : H9 p = some (.lst ys.reverse) := by rw [← hg_p]; exact upd_same
      clear hg_p
      walk_at "rd"
      refine ⟨l, p, _, _, rfl, rfl, s_p _ _ e_l, e_p, sz_le (by rw [List.length_reverse]; omega), fun z h_z => ?_⟩
      generalize hg_z : upd H9 z _ = H10
      have s_z : Same H9 H10 := by rw [← hg_z]; exact same_new h_z
      have e_z : H10 z = some (.lst (ys ++ ys.reverse)) := by rw [← hg_z]; exact upd_same
      clear hg_z
      have s810 := s_p.trans s_z
      walk_at "rd"
      refine ⟨⟨_, SqL.of e_z⟩, for_list (K := K) (a := z) (xs := ys ++ ys.reverse) (fun i σ H' => (∃ (k m n r rw wh du : Option V), σ = [some (.ref a), some (.ref st), some (.ref l), k, m, n, r, rw, wh, du, none, none, none]) ∧ Same H10 H') ⟨⟨_, _, _, _, _, _, _, rfl⟩, fun _ _ e => e⟩ (fun i σ H' _ ⟨_, e⟩ => SqL.of (e _ _ e_z)) ?_ ?_⟩
      · rintro i y σ H' hi ⟨⟨k, m, n, r, rw, wh, du, rfl⟩, s11⟩
        have hy : y ∈ ys := by
          have := List.mem_of_getElem? hi
          rw [List.mem_append, List.mem_reverse] at this
          exact this.elim id id
        obtain ⟨t, wd, n, c, d, rfl, e, hn, hc, g⟩ := ((all8 y hy).same s810).same s11
        walk_at "rd"
        refine ⟨wd, .int n, .int (c + 1 : Nat), rfl, .inl ⟨n, c, d, ⟨rfl, rfl⟩, hn, hc, g, fun t1 H12 s12 e12 => ?_⟩⟩
        walk_at "rd"
        walk_at "nw"
        intro t2 h2
        walk_at "rd"
        refine ⟨.tup (same_new h2 _ _ e12) upd_same (Nat.le_of_ble_eq_true rfl) (.cons (.flat rfl) (.cons (.flat rfl) .nil)), ?_⟩
        walk_at "rd"
        exact ⟨⟨_, _, _, _, _, _, _, rfl⟩, (s11.trans s12).trans (same_new h2)⟩
      · rintro σ H' ⟨⟨k, m, n, r, rw, wh, du, rfl⟩, s11⟩
        exact ⟨_, _, _, _, _, _, _, rfl, S8.keep (s810.trans s11), s8.trans (s810.trans s11)⟩
    rintro σ H2 ⟨k, m, n, r, rw, wh, du, rfl, S2, s2⟩
    clear all8 s8 S8 hl24 e_l h_l
    walk_at "rd"
    refine ⟨S2, fun odd H3 bv S3 b3 => ?_⟩
    have s3 : Same H H3 := same_but s2 hst b3
    walk_at "rd"
    refine ⟨fun σ H' => ∃ (n wh ba to : Option V), σ = [some (.ref a), some (.ref st), some (.ref l), k, m, n, r, rw, wh, du, some odd, ba, to] ∧ Store H' st ∧ Same H H' ∧ But st H3 H', ?_, ?_⟩
    · walk_at "rd"
      walk_at "rd"
      walk_at "nw"
      intro w1 h_w1
      generalize hg_w1 : upd H3 w1 _ = H5
      have s_w1 : Same H3 H5 := by rw [← hg_w1]; exact same_new h_w1
      have e_w1 : H5 w1 = some (.lst [.str "steps", .str "rounds", .str "stop"]) := by rw [← hg_w1]; exact upd_same
      clear hg_w1

      have n1 : w1 ≠ st := st_ne S3 h_w1
      walk_at "rd"
      refine ⟨⟨_, SqL.of e_w1⟩, for_list (K := K) (a := w1) (xs := [.str "steps", .str "rounds", .str "stop"]) (fun i σ H' => (∃ (n wh ba to : Option V), σ = [some (.ref a), some (.ref st), some (.ref l), k, m, n, r, rw, wh, du, some odd, ba, to]) ∧ Store H' st ∧ But st H5 H') ⟨⟨_, _, _, _, rfl⟩, S3.keep s_w1, .refl⟩ (fun i σ H' _ ⟨_, _, b⟩ => SqL.of (b _ _ n1 e_w1)) ?_ ?_⟩
      · rintro i y σ H6 hi ⟨⟨n, wh, ba, to, rfl⟩, S6, b6⟩
        have hy := List.mem_of_getElem? hi
        obtain ⟨wd, rfl, hw⟩ : ∃ wd : Str, y = .str wd ∧ (wd = "steps" ∨ wd = "rounds" ∨ wd = "stop") := by
          simp only [List.mem_cons, List.mem_nil_iff, or_false] at hy
          rcases hy with rfl | rfl | rfl
          · exact ⟨_, rfl, .inl rfl⟩
          · exact ⟨_, rfl, .inr (.inl rfl)⟩
          · exact ⟨_, rfl, .inr (.inr rfl)⟩
        walk_at "rd"
        walk_at "nw"
        intro w2 h_w2
        generalize hg_w2 : upd H6 w2 _ = H7
        have s_w2 : Same H6 H7 := by rw [← hg_w2]; exact same_new h_w2
        have e_w2 : H7 w2 = some (.lst [.bl true, odd]) := by rw [← hg_w2]; exact upd_same
        clear hg_w2

        have n2 : w2 ≠ st := st_ne S6 h_w2
        have b7 : But st H5 H7 := b6.trans (.of s_w2)
        have bo7 : BadV st H7 odd := bv.keep ((But.of s_w1).trans b7)
        walk_at "rd"
        refine ⟨⟨_, SqL.of e_w2⟩, for_list (K := K) (a := w2) (xs := [.bl true, odd]) (fun i σ H' => (∃ (n ba to : Option V), σ = [some (.ref a), some (.ref st), some (.ref l), k, m, n, r, rw, some (.str wd), du, some odd, ba, to]) ∧ Store H' st ∧ But st H7 H') ⟨⟨_, _, _, rfl⟩, S6.keep s_w2, .refl⟩ (fun i σ H' _ ⟨_, _, b⟩ => SqL.of (b _ _ n2 e_w2)) ?_ ?_⟩
        · rintro j y σ H8 hj ⟨⟨n, ba, to, rfl⟩, S8, b8⟩
          have hy := List.mem_of_getElem? hj
          have by8 : BadV st H8 y := by
            simp only [List.mem_cons, List.mem_nil_iff, or_false] at hy
            rcases hy with rfl | rfl
            · exact .bl true
            · exact bo7.keep b8
          walk_at "rd"
          refine ⟨wd, .int 1, y, rfl, .inr ⟨hw, by8.cells, fun t1 u1 H9 s9 e_t1 e_u1 => ?_⟩⟩
          have S9 := S8.keep s9
          walk_at "rd"
          refine ⟨S9, fun n1 H10 _ _ S10 b10 => ?_⟩
          have f_t1 := but_tup S9 b10 e_t1
          have f_u1 := but_tup S9 b10 e_u1
          have by10 := (by8.keep (.of s9)).keep b10
          walk_at "rd"
          refine ⟨wd, .int n1, y, rfl, .inr ⟨hw, by10.cells, fun t2 u2 H11 s11 e_t2 e_u2 => ?_⟩⟩
          walk_at "rd"
          walk_at "nw"
          intro p1 h_p1
          generalize hg_p1 : upd H11 p1 _ = H12
          have s_p1 : Same H11 H12 := by rw [← hg_p1]; exact same_new h_p1
          have e_p1 : H12 p1 = some (.lst [.ref t1, .ref t2]) := by rw [← hg_p1]; exact upd_same
          clear hg_p1
          walk_at "rd"
          walk_at "nw"
          intro q1 h_q1
          generalize hg_q1 : upd H12 q1 _ = H13
          have s_q1 : Same H12 H13 := by rw [← hg_q1]; exact same_new h_q1
          have e_q1 : H13 q1 = some (.tup [.str "badcells", y]) := by rw [← hg_q1]; exact upd_same
          clear hg_q1
          walk_at "rd"
          walk_at "nw"
          intro q2 h_q2
          generalize hg_q2 : upd H13 q2 _ = H14
          have s_q2 : Same H13 H14 := by rw [← hg_q2]; exact same_new h_q2
          have e_q2 : H14 q2 = some (.tup [.bl false, .ref q1]) := by rw [← hg_q2]; exact upd_same
          clear hg_q2
          walk_at "rd"
          walk_at "nw"
          intro q3 h_q3
          generalize hg_q3 : upd H14 q3 _ = H15
          have s_q3 : Same H14 H15 := by rw [← hg_q3]; exact same_new h_q3
          have e_q3 : H15 q3 = some (.tup [.str "badcells", y]) := by rw [← hg_q3]; exact upd_same
          clear hg_q3
          walk_at "rd"
          walk_at "nw"
          intro q4 h_q4
          generalize hg_q4 : upd H15 q4 _ = H16
          have s_q4 : Same H15 H16 := by rw [← hg_q4]; exact same_new h_q4
          have e_q4 : H16 q4 = some (.tup [.bl false, .ref q3]) := by rw [← hg_q4]; exact upd_same
          clear hg_q4
          walk_at "rd"
          walk_at "nw"
          intro q5 h_q5
          generalize hg_q5 : upd H16 q5 _ = H17
          have s_q5 : Same H16 H17 := by rw [← hg_q5]; exact same_new h_q5
          have e_q5 : H17 q5 = some (.lst [.ref q2, .ref q4]) := by rw [← hg_q5]; exact upd_same
          clear hg_q5

          walk_at "rd"
          have sq16 : Same H16 H17 := s_q5
          have sq15 : Same H15 H17 := s_q4.trans sq16
          have sq14 : Same H14 H17 := s_q3.trans sq15
          have sq13 : Same H13 H17 := s_q2.trans sq14
          have sq12 : Same H12 H17 := s_q1.trans sq13
          have sq11 : Same H11 H17 := s_p1.trans sq12
          have sq10 : Same H10 H17 := s11.trans sq11
          have by17 := by10.keep (.of sq10)
          have d1 : SameD H17 4 (.ref u1) (.ref q1) := .tup (sq10 _ _ f_u1) (sq13 _ _ e_q1) (Nat.le_of_ble_eq_true rfl) (.cons (.flat rfl) (.cons (by17.same 1) .nil))
          have d2 : SameD H17 4 (.ref u2) (.ref q3) := .tup (sq11 _ _ e_u2) (sq15 _ _ e_q3) (Nat.le_of_ble_eq_true rfl) (.cons (.flat rfl) (.cons (by17.same 1) .nil))
          have d3 : SameD H17 5 (.ref t1) (.ref q2) := .tup (sq10 _ _ f_t1) (sq14 _ _ e_q2) (Nat.le_of_ble_eq_true rfl) (.cons (.flat rfl) (.cons d1 .nil))
          have d4 : SameD H17 5 (.ref t2) (.ref q4) := .tup (sq11 _ _ e_t2) (sq16 _ _ e_q4) (Nat.le_of_ble_eq_true rfl) (.cons (.flat rfl) (.cons d2 .nil))
          refine ⟨.lst (sq12 _ _ e_p1) e_q5 (Nat.le_of_ble_eq_true rfl) (.cons d3 (.cons d4 .nil)), ?_⟩
          walk_at "rd"
          exact ⟨⟨_, _, _, rfl⟩, S10.keep sq10, ((b8.trans (.of s9)).trans b10).trans (.of sq10)⟩
        · rintro σ H8 ⟨⟨n, ba, to, rfl⟩, S8, b8⟩
          exact ⟨⟨_, _, _, _, rfl⟩, S8, b7.trans b8⟩
      · rintro σ H8 ⟨⟨n, wh, ba, to, rfl⟩, S8, b8⟩
        have b38 : But st H3 H8 := (But.of s_w1).trans b8
        exact ⟨_, _, _, _, rfl, S8, same_but s3 hst b38, b38⟩
    rintro σ H4 ⟨n, wh, ba, to, rfl, S4, s4, b4⟩
    have bv4 := bv.keep b4
    walk_at "rd"
    refine ⟨"steps", .int 0, odd, rfl, .inr ⟨.inl rfl, bv4.cells, fun t1 u1 H5 s5 e_t1 e_u1 => ?_⟩⟩
    walk_at "rd"
    walk_at "nw"
    intro q1 h_q1
    generalize hg_q1 : upd H5 q1 _ = H6
    have s_q1 : Same H5 H6 := by rw [← hg_q1]; exact same_new h_q1
    have e_q1 : H6 q1 = some (.tup [.str "badcells", odd]) := by rw [← hg_q1]; exact upd_same
    clear hg_q1
    walk_at "rd"
    walk_at "nw"
    intro q2 h_q2
    generalize hg_q2 : upd H6 q2 _ = H7
    have s_q2 : Same H6 H7 := by rw [← hg_q2]; exact same_new h_q2
    have e_q2 : H7 q2 = some (.tup [.bl false, .ref q1]) := by rw [← hg_q2]; exact upd_same
    clear hg_q2
    walk_at "rd"
    have bv7 := (bv4.keep (.of s5)).keep (.of (s_q1.trans s_q2))
    have d1 : SameD H7 5 (.ref u1) (.ref q1) := .tup ((s_q1.trans s_q2) _ _ e_u1) (s_q2 _ _ e_q1) (Nat.le_of_ble_eq_true rfl) (.cons (.flat rfl) (.cons (bv7.same 2) .nil))
    refine ⟨.tup ((s_q1.trans s_q2) _ _ e_t1) e_q2 (Nat.le_of_ble_eq_true rfl) (.cons (.flat rfl) (.cons d1 .nil)), ?_⟩
    exact q _ ((s4.trans s5).trans (s_q1.trans s_q2))
end
end K11

set_option Elab.async false
set_option linter.all false
set_option maxRecDepth 100000
set_option maxHeartbeats 4000000
namespace K11
open PySem PySem.Spec PyProof.Rows L2
section
open PySem.W PySem.Calls PySem.HandSPX PySem.VX
def qV : Nat → Pos
  | 0 => ⟨5, 8, 5, 12⟩ | 1 => ⟨5, 8, 5, 17⟩ | 2 => ⟨5, 20, 5, 24⟩ | 3 => ⟨5, 20, 5, 34⟩ | 4 => ⟨5, 20, 5, 43⟩ | 5 => ⟨5, 20, 5, 49⟩ | 6 => ⟨5, 20, 5, 51⟩ | _ => ⟨5, 8, 5, 51⟩
def rB : Nat → Pos
  | 0 => ⟨36, 8, 36, 13⟩ | 1 => ⟨36, 8, 36, 15⟩ | 2 => ⟨36, 8, 36, 24⟩ | 3 => ⟨36, 8, 36, 26⟩ | _ => ⟨36, 8, 36, 26⟩
def stB : List Stmt := [.Assign [.Attribute (.Name "self" ⟨37, 8, 37, 12⟩) "cells" ⟨37, 8, 37, 18⟩] (.Name "cells" ⟨37, 21, 37, 26⟩) ⟨37, 8, 37, 26⟩]

/-- an error of the class at C is what «except S» names, S above C -/
theorem exm_of2 {K : PySem.W.Frag} {C S : Addr} (h1 : PySem.W.subIn K (.ref S) (.type "BaseException") = some true) (h2 : PySem.W.isClsIn K S = true) (h3 : PySem.W.typeIn K (.ref S) = some (.type "type")) (h4 : PySem.W.subIn K (.ref C) (.ref S) = some true) :
    PySem.W.exmOne K (.ref C) (.ref S) = some true := by
  have e1 : (PySem.W.subIn K (.ref S) (.type "BaseException") == some true) = true := by rw [h1] <;> rfl
  have e2 : ((PySem.W.clsIn K S).isSome && PySem.W.typeIn K (.ref S) == some (.type "type")) = true := by
    have h2b : (PySem.W.clsIn K S).isSome = true := h2
    rw [h2b, h3] <;> rfl
  show (if (PySem.W.subIn K (.ref S) (.type "BaseException") == some true) = true then (if ((PySem.W.clsIn K S).isSome && PySem.W.typeIn K (.ref S) == some (.type "type")) = true then PySem.W.subIn K (.ref C) (.ref S) else none) else none) = some true
  rw [if_pos e1, if_pos e2]
  exact h4
theorem all_mk {P : Program} {w : World} {K : PySem.W.Frag} {h : Heap} {mg : Str → Option Value} {fa : Addr} (X : K.In h) (G : h.Ns mainGlobals mg) (hfa : mg "law" = some (.ref fa))
    {f_is_whole f_choose f_need_cells f_rounds f_least_steps f_best_stop f_store f_mix f_take f_edge f_odds f_pick f_length f_cellcount f_badcells f_leastups f_same f_kinds f_clean f_binomial f_roundsof f_stopsum f_stopof f_edgelength f_refusal f_said f_dueof f_law C_VaultError C_TooMany C_NumberError C_BadPrime C_NoInverse C_NoNumber C_BadTable C_BadCells C_TextError C_ShapeError C_PlanError C_CourseError C_KnowError C_PaperError fV fI cda cc NB : Addr} {od_is_whole an_is_whole od_choose an_choose od_need_cells an_need_cells od_rounds an_rounds od_least_steps an_least_steps od_best_stop an_best_stop od_store an_store od_mix an_mix od_take an_take od_edge an_edge od_odds an_odds od_pick an_pick od_length an_length od_cellcount an_cellcount od_badcells an_badcells od_leastups an_leastups od_same an_same od_kinds an_kinds od_clean an_clean od_binomial an_binomial od_roundsof an_roundsof od_stopsum an_stopsum od_stopof an_stopof od_edgelength an_edgelength od_refusal an_refusal od_said an_said od_dueof an_dueof od_law an_law ddB odI anI cdd cld odV anV : Option Addr} {sl_is_whole sl_choose sl_need_cells sl_rounds sl_least_steps sl_best_stop sl_store sl_mix sl_take sl_edge sl_odds sl_pick sl_length sl_cellcount sl_badcells sl_leastups sl_same sl_kinds sl_clean sl_binomial sl_roundsof sl_stopsum sl_stopof sl_edgelength sl_refusal sl_said sl_dueof sl_law ccs csl oslI oslV : Array (Option Value)} {oc_is_whole kV_is_whole dc_is_whole pm_is_whole cd_is_whole ct_is_whole oc_choose kV_choose dc_choose pm_choose cd_choose ct_choose oc_need_cells kV_need_cells dc_need_cells pm_need_cells cd_need_cells ct_need_cells oc_rounds kV_rounds dc_rounds pm_rounds cd_rounds ct_rounds oc_least_steps kV_least_steps dc_least_steps pm_least_steps cd_least_steps ct_least_steps oc_best_stop kV_best_stop dc_best_stop pm_best_stop cd_best_stop ct_best_stop oc_store kV_store dc_store pm_store cd_store ct_store oc_mix kV_mix dc_mix pm_mix cd_mix ct_mix oc_take kV_take dc_take pm_take cd_take ct_take oc_edge kV_edge dc_edge pm_edge cd_edge ct_edge oc_odds kV_odds dc_odds pm_odds cd_odds ct_odds oc_pick kV_pick dc_pick pm_pick cd_pick ct_pick oc_length kV_length dc_length pm_length cd_length ct_length oc_cellcount kV_cellcount dc_cellcount pm_cellcount cd_cellcount ct_cellcount oc_badcells kV_badcells dc_badcells pm_badcells cd_badcells ct_badcells oc_leastups kV_leastups dc_leastups pm_leastups cd_leastups ct_leastups oc_same kV_same dc_same pm_same cd_same ct_same oc_kinds kV_kinds dc_kinds pm_kinds cd_kinds ct_kinds oc_clean kV_clean dc_clean pm_clean cd_clean ct_clean oc_binomial kV_binomial dc_binomial pm_binomial cd_binomial ct_binomial oc_roundsof kV_roundsof dc_roundsof pm_roundsof cd_roundsof ct_roundsof oc_stopsum kV_stopsum dc_stopsum pm_stopsum cd_stopsum ct_stopsum oc_stopof kV_stopof dc_stopof pm_stopof cd_stopof ct_stopof oc_edgelength kV_edgelength dc_edgelength pm_edgelength cd_edgelength ct_edgelength oc_refusal kV_refusal dc_refusal pm_refusal cd_refusal ct_refusal oc_said kV_said dc_said pm_said cd_said ct_said oc_dueof kV_dueof dc_dueof pm_dueof cd_dueof ct_dueof oc_law kV_law dc_law pm_law cd_law ct_law ocI docI pmI ctI ccl clc ocV docV pmV cdvV ctV : Value} {qB qualI : Str} {bsB bmB subB : List Value} {snB : List Str} {abB : Bool} {colB : Option Bool} {k0B k1B k3B k5B : Option Value} {tkB tfC : Tok} {vsC : Array Value}
    (ptop : (P.main.scope.names.lookup ("super" : Str)).isSome = false)
    (a_is_whole : PySem.W.nsIn K mainGlobals "is_whole" = some (some (.ref f_is_whole)))
    (l_is_whole : K.lookup f_is_whole = some ⟨oc_is_whole, od_is_whole, .func (PySem.W.fnOf "is_whole" "is_whole" (defArgs s_is_whole) (defBody s_is_whole) (defScope s_is_whole) .none kV_is_whole dc_is_whole pm_is_whole an_is_whole cd_is_whole ct_is_whole), sl_is_whole⟩)
    (c_is_whole : PySem.W.codeIn K cd_is_whole "is_whole" = true)
    (k_is_whole : PySem.W.keepIn K (.ref f_is_whole) = true)
    (a_choose : PySem.W.nsIn K mainGlobals "choose" = some (some (.ref f_choose)))
    (l_choose : K.lookup f_choose = some ⟨oc_choose, od_choose, .func (PySem.W.fnOf "choose" "choose" (defArgs s_choose) (defBody s_choose) (defScope s_choose) .none kV_choose dc_choose pm_choose an_choose cd_choose ct_choose), sl_choose⟩)
    (c_choose : PySem.W.codeIn K cd_choose "choose" = true)
    (k_choose : PySem.W.keepIn K (.ref f_choose) = true)
    (a_need_cells : PySem.W.nsIn K mainGlobals "need_cells" = some (some (.ref f_need_cells)))
    (l_need_cells : K.lookup f_need_cells = some ⟨oc_need_cells, od_need_cells, .func (PySem.W.fnOf "need_cells" "need_cells" (defArgs s_need_cells) (defBody s_need_cells) (defScope s_need_cells) .none kV_need_cells dc_need_cells pm_need_cells an_need_cells cd_need_cells ct_need_cells), sl_need_cells⟩)
    (c_need_cells : PySem.W.codeIn K cd_need_cells "need_cells" = true)
    (k_need_cells : PySem.W.keepIn K (.ref f_need_cells) = true)
    (a_rounds : PySem.W.nsIn K mainGlobals "rounds" = some (some (.ref f_rounds)))
    (l_rounds : K.lookup f_rounds = some ⟨oc_rounds, od_rounds, .func (PySem.W.fnOf "rounds" "rounds" (defArgs s_rounds) (defBody s_rounds) (defScope s_rounds) .none kV_rounds dc_rounds pm_rounds an_rounds cd_rounds ct_rounds), sl_rounds⟩)
    (c_rounds : PySem.W.codeIn K cd_rounds "rounds" = true)
    (k_rounds : PySem.W.keepIn K (.ref f_rounds) = true)
    (a_least_steps : PySem.W.nsIn K mainGlobals "least_steps" = some (some (.ref f_least_steps)))
    (l_least_steps : K.lookup f_least_steps = some ⟨oc_least_steps, od_least_steps, .func (PySem.W.fnOf "least_steps" "least_steps" (defArgs s_least_steps) (defBody s_least_steps) (defScope s_least_steps) .none kV_least_steps dc_least_steps pm_least_steps an_least_steps cd_least_steps ct_least_steps), sl_least_steps⟩)
    (c_least_steps : PySem.W.codeIn K cd_least_steps "least_steps" = true)
    (k_least_steps : PySem.W.keepIn K (.ref f_least_steps) = true)
    (a_best_stop : PySem.W.nsIn K mainGlobals "best_stop" = some (some (.ref f_best_stop)))
    (l_best_stop : K.lookup f_best_stop = some ⟨oc_best_stop, od_best_stop, .func (PySem.W.fnOf "best_stop" "best_stop" (defArgs s_best_stop) (defBody s_best_stop) (defScope s_best_stop) .none kV_best_stop dc_best_stop pm_best_stop an_best_stop cd_best_stop ct_best_stop), sl_best_stop⟩)
    (c_best_stop : PySem.W.codeIn K cd_best_stop "best_stop" = true)
    (k_best_stop : PySem.W.keepIn K (.ref f_best_stop) = true)
    (a_store : PySem.W.nsIn K mainGlobals "_law_store" = some (some (.ref f_store)))
    (l_store : K.lookup f_store = some ⟨oc_store, od_store, .func (PySem.W.fnOf "_law_store" "_law_store" (defArgs s_store) (defBody s_store) (defScope s_store) .none kV_store dc_store pm_store an_store cd_store ct_store), sl_store⟩)
    (c_store : PySem.W.codeIn K cd_store "_law_store" = true)
    (k_store : PySem.W.keepIn K (.ref f_store) = true)
    (a_mix : PySem.W.nsIn K mainGlobals "_law_mix" = some (some (.ref f_mix)))
    (l_mix : K.lookup f_mix = some ⟨oc_mix, od_mix, .func (PySem.W.fnOf "_law_mix" "_law_mix" (defArgs s_mix) (defBody s_mix) (defScope s_mix) .none kV_mix dc_mix pm_mix an_mix cd_mix ct_mix), sl_mix⟩)
    (c_mix : PySem.W.codeIn K cd_mix "_law_mix" = true)
    (k_mix : PySem.W.keepIn K (.ref f_mix) = true)
    (a_take : PySem.W.nsIn K mainGlobals "_law_take" = some (some (.ref f_take)))
    (l_take : K.lookup f_take = some ⟨oc_take, od_take, .func (PySem.W.fnOf "_law_take" "_law_take" (defArgs s_take) (defBody s_take) (defScope s_take) .none kV_take dc_take pm_take an_take cd_take ct_take), sl_take⟩)
    (c_take : PySem.W.codeIn K cd_take "_law_take" = true)
    (k_take : PySem.W.keepIn K (.ref f_take) = true)
    (a_edge : PySem.W.nsIn K mainGlobals "_law_edge" = some (some (.ref f_edge)))
    (l_edge : K.lookup f_edge = some ⟨oc_edge, od_edge, .func (PySem.W.fnOf "_law_edge" "_law_edge" (defArgs s_edge) (defBody s_edge) (defScope s_edge) .none kV_edge dc_edge pm_edge an_edge cd_edge ct_edge), sl_edge⟩)
    (c_edge : PySem.W.codeIn K cd_edge "_law_edge" = true)
    (k_edge : PySem.W.keepIn K (.ref f_edge) = true)
    (a_odds : PySem.W.nsIn K mainGlobals "_law_odds" = some (some (.ref f_odds)))
    (l_odds : K.lookup f_odds = some ⟨oc_odds, od_odds, .func (PySem.W.fnOf "_law_odds" "_law_odds" (defArgs s_odds) (defBody s_odds) (defScope s_odds) .none kV_odds dc_odds pm_odds an_odds cd_odds ct_odds), sl_odds⟩)
    (c_odds : PySem.W.codeIn K cd_odds "_law_odds" = true)
    (k_odds : PySem.W.keepIn K (.ref f_odds) = true)
    (a_pick : PySem.W.nsIn K mainGlobals "_law_pick" = some (some (.ref f_pick)))
    (l_pick : K.lookup f_pick = some ⟨oc_pick, od_pick, .func (PySem.W.fnOf "_law_pick" "_law_pick" (defArgs s_pick) (defBody s_pick) (defScope s_pick) .none kV_pick dc_pick pm_pick an_pick cd_pick ct_pick), sl_pick⟩)
    (c_pick : PySem.W.codeIn K cd_pick "_law_pick" = true)
    (k_pick : PySem.W.keepIn K (.ref f_pick) = true)
    (a_length : PySem.W.nsIn K mainGlobals "_law_length" = some (some (.ref f_length)))
    (l_length : K.lookup f_length = some ⟨oc_length, od_length, .func (PySem.W.fnOf "_law_length" "_law_length" (defArgs s_length) (defBody s_length) (defScope s_length) .none kV_length dc_length pm_length an_length cd_length ct_length), sl_length⟩)
    (c_length : PySem.W.codeIn K cd_length "_law_length" = true)
    (k_length : PySem.W.keepIn K (.ref f_length) = true)
    (a_cellcount : PySem.W.nsIn K mainGlobals "_law_cellcount" = some (some (.ref f_cellcount)))
    (l_cellcount : K.lookup f_cellcount = some ⟨oc_cellcount, od_cellcount, .func (PySem.W.fnOf "_law_cellcount" "_law_cellcount" (defArgs s_cellcount) (defBody s_cellcount) (defScope s_cellcount) .none kV_cellcount dc_cellcount pm_cellcount an_cellcount cd_cellcount ct_cellcount), sl_cellcount⟩)
    (c_cellcount : PySem.W.codeIn K cd_cellcount "_law_cellcount" = true)
    (k_cellcount : PySem.W.keepIn K (.ref f_cellcount) = true)
    (a_badcells : PySem.W.nsIn K mainGlobals "_law_badcells" = some (some (.ref f_badcells)))
    (l_badcells : K.lookup f_badcells = some ⟨oc_badcells, od_badcells, .func (PySem.W.fnOf "_law_badcells" "_law_badcells" (defArgs s_badcells) (defBody s_badcells) (defScope s_badcells) .none kV_badcells dc_badcells pm_badcells an_badcells cd_badcells ct_badcells), sl_badcells⟩)
    (c_badcells : PySem.W.codeIn K cd_badcells "_law_badcells" = true)
    (k_badcells : PySem.W.keepIn K (.ref f_badcells) = true)
    (a_leastups : PySem.W.nsIn K mainGlobals "_law_leastups" = some (some (.ref f_leastups)))
    (l_leastups : K.lookup f_leastups = some ⟨oc_leastups, od_leastups, .func (PySem.W.fnOf "_law_leastups" "_law_leastups" (defArgs s_leastups) (defBody s_leastups) (defScope s_leastups) .none kV_leastups dc_leastups pm_leastups an_leastups cd_leastups ct_leastups), sl_leastups⟩)
    (c_leastups : PySem.W.codeIn K cd_leastups "_law_leastups" = true)
    (k_leastups : PySem.W.keepIn K (.ref f_leastups) = true)
    (a_same : PySem.W.nsIn K mainGlobals "_law_same" = some (some (.ref f_same)))
    (l_same : K.lookup f_same = some ⟨oc_same, od_same, .func (PySem.W.fnOf "_law_same" "_law_same" (defArgs s_same) (defBody s_same) (defScope s_same) .none kV_same dc_same pm_same an_same cd_same ct_same), sl_same⟩)
    (c_same : PySem.W.codeIn K cd_same "_law_same" = true)
    (k_same : PySem.W.keepIn K (.ref f_same) = true)
    (a_kinds : PySem.W.nsIn K mainGlobals "_law_kinds" = some (some (.ref f_kinds)))
    (l_kinds : K.lookup f_kinds = some ⟨oc_kinds, od_kinds, .func (PySem.W.fnOf "_law_kinds" "_law_kinds" (defArgs s_kinds) (defBody s_kinds) (defScope s_kinds) .none kV_kinds dc_kinds pm_kinds an_kinds cd_kinds ct_kinds), sl_kinds⟩)
    (c_kinds : PySem.W.codeIn K cd_kinds "_law_kinds" = true)
    (k_kinds : PySem.W.keepIn K (.ref f_kinds) = true)
    (a_clean : PySem.W.nsIn K mainGlobals "_law_clean" = some (some (.ref f_clean)))
    (l_clean : K.lookup f_clean = some ⟨oc_clean, od_clean, .func (PySem.W.fnOf "_law_clean" "_law_clean" (defArgs s_clean) (defBody s_clean) (defScope s_clean) .none kV_clean dc_clean pm_clean an_clean cd_clean ct_clean), sl_clean⟩)
    (c_clean : PySem.W.codeIn K cd_clean "_law_clean" = true)
    (k_clean : PySem.W.keepIn K (.ref f_clean) = true)
    (a_binomial : PySem.W.nsIn K mainGlobals "_law_binomial" = some (some (.ref f_binomial)))
    (l_binomial : K.lookup f_binomial = some ⟨oc_binomial, od_binomial, .func (PySem.W.fnOf "_law_binomial" "_law_binomial" (defArgs s_binomial) (defBody s_binomial) (defScope s_binomial) .none kV_binomial dc_binomial pm_binomial an_binomial cd_binomial ct_binomial), sl_binomial⟩)
    (c_binomial : PySem.W.codeIn K cd_binomial "_law_binomial" = true)
    (k_binomial : PySem.W.keepIn K (.ref f_binomial) = true)
    (a_roundsof : PySem.W.nsIn K mainGlobals "_law_roundsof" = some (some (.ref f_roundsof)))
    (l_roundsof : K.lookup f_roundsof = some ⟨oc_roundsof, od_roundsof, .func (PySem.W.fnOf "_law_roundsof" "_law_roundsof" (defArgs s_roundsof) (defBody s_roundsof) (defScope s_roundsof) .none kV_roundsof dc_roundsof pm_roundsof an_roundsof cd_roundsof ct_roundsof), sl_roundsof⟩)
    (c_roundsof : PySem.W.codeIn K cd_roundsof "_law_roundsof" = true)
    (k_roundsof : PySem.W.keepIn K (.ref f_roundsof) = true)
    (a_stopsum : PySem.W.nsIn K mainGlobals "_law_stopsum" = some (some (.ref f_stopsum)))
    (l_stopsum : K.lookup f_stopsum = some ⟨oc_stopsum, od_stopsum, .func (PySem.W.fnOf "_law_stopsum" "_law_stopsum" (defArgs s_stopsum) (defBody s_stopsum) (defScope s_stopsum) .none kV_stopsum dc_stopsum pm_stopsum an_stopsum cd_stopsum ct_stopsum), sl_stopsum⟩)
    (c_stopsum : PySem.W.codeIn K cd_stopsum "_law_stopsum" = true)
    (k_stopsum : PySem.W.keepIn K (.ref f_stopsum) = true)
    (a_stopof : PySem.W.nsIn K mainGlobals "_law_stopof" = some (some (.ref f_stopof)))
    (l_stopof : K.lookup f_stopof = some ⟨oc_stopof, od_stopof, .func (PySem.W.fnOf "_law_stopof" "_law_stopof" (defArgs s_stopof) (defBody s_stopof) (defScope s_stopof) .none kV_stopof dc_stopof pm_stopof an_stopof cd_stopof ct_stopof), sl_stopof⟩)
    (c_stopof : PySem.W.codeIn K cd_stopof "_law_stopof" = true)
    (k_stopof : PySem.W.keepIn K (.ref f_stopof) = true)
    (a_edgelength : PySem.W.nsIn K mainGlobals "_law_edgelength" = some (some (.ref f_edgelength)))
    (l_edgelength : K.lookup f_edgelength = some ⟨oc_edgelength, od_edgelength, .func (PySem.W.fnOf "_law_edgelength" "_law_edgelength" (defArgs s_edgelength) (defBody s_edgelength) (defScope s_edgelength) .none kV_edgelength dc_edgelength pm_edgelength an_edgelength cd_edgelength ct_edgelength), sl_edgelength⟩)
    (c_edgelength : PySem.W.codeIn K cd_edgelength "_law_edgelength" = true)
    (k_edgelength : PySem.W.keepIn K (.ref f_edgelength) = true)
    (a_refusal : PySem.W.nsIn K mainGlobals "_law_refusal" = some (some (.ref f_refusal)))
    (l_refusal : K.lookup f_refusal = some ⟨oc_refusal, od_refusal, .func (PySem.W.fnOf "_law_refusal" "_law_refusal" (defArgs s_refusal) (defBody s_refusal) (defScope s_refusal) .none kV_refusal dc_refusal pm_refusal an_refusal cd_refusal ct_refusal), sl_refusal⟩)
    (c_refusal : PySem.W.codeIn K cd_refusal "_law_refusal" = true)
    (k_refusal : PySem.W.keepIn K (.ref f_refusal) = true)
    (a_said : PySem.W.nsIn K mainGlobals "_law_said" = some (some (.ref f_said)))
    (l_said : K.lookup f_said = some ⟨oc_said, od_said, .func (PySem.W.fnOf "_law_said" "_law_said" (defArgs s_said) (defBody s_said) (defScope s_said) .none kV_said dc_said pm_said an_said cd_said ct_said), sl_said⟩)
    (c_said : PySem.W.codeIn K cd_said "_law_said" = true)
    (k_said : PySem.W.keepIn K (.ref f_said) = true)
    (a_dueof : PySem.W.nsIn K mainGlobals "_law_dueof" = some (some (.ref f_dueof)))
    (l_dueof : K.lookup f_dueof = some ⟨oc_dueof, od_dueof, .func (PySem.W.fnOf "_law_dueof" "_law_dueof" (defArgs s_dueof) (defBody s_dueof) (defScope s_dueof) .none kV_dueof dc_dueof pm_dueof an_dueof cd_dueof ct_dueof), sl_dueof⟩)
    (c_dueof : PySem.W.codeIn K cd_dueof "_law_dueof" = true)
    (k_dueof : PySem.W.keepIn K (.ref f_dueof) = true)
    (a_law : PySem.W.nsIn K mainGlobals "law" = some (some (.ref f_law)))
    (l_law : K.lookup f_law = some ⟨oc_law, od_law, .func (PySem.W.fnOf "law" "law" (defArgs s_law) (defBody s_law) (defScope s_law) .none kV_law dc_law pm_law an_law cd_law ct_law), sl_law⟩)
    (c_law : PySem.W.codeIn K cd_law "law" = true)
    (k_law : PySem.W.keepIn K (.ref f_law) = true)
    (b_int : PySem.W.nsIn K mainGlobals "int" = some none)
    (b_bool : PySem.W.nsIn K mainGlobals "bool" = some none)
    (b_isinstance : PySem.W.nsIn K mainGlobals "isinstance" = some none)
    (b_range : PySem.W.nsIn K mainGlobals "range" = some none)
    (b_min : PySem.W.nsIn K mainGlobals "min" = some none)
    (b_max : PySem.W.nsIn K mainGlobals "max" = some none)
    (b_abs : PySem.W.nsIn K mainGlobals "abs" = some none)
    (b_len : PySem.W.nsIn K mainGlobals "len" = some none)
    (b_list : PySem.W.nsIn K mainGlobals "list" = some none)
    (b_reversed : PySem.W.nsIn K mainGlobals "reversed" = some none)
    (b_str : PySem.W.nsIn K mainGlobals "str" = some none)
    (b_dict : PySem.W.nsIn K mainGlobals "dict" = some none)
    (b_tuple : PySem.W.nsIn K mainGlobals "tuple" = some none)
    (b_ValueError : PySem.W.nsIn K mainGlobals "ValueError" = some none)
    (b_super : PySem.W.nsIn K mainGlobals "super" = some none)
    (g_VaultError : PySem.W.nsIn K mainGlobals "VaultError" = some (some (.ref C_VaultError)))
    (g_TooMany : PySem.W.nsIn K mainGlobals "TooMany" = some (some (.ref C_TooMany)))
    (g_NumberError : PySem.W.nsIn K mainGlobals "NumberError" = some (some (.ref C_NumberError)))
    (g_BadPrime : PySem.W.nsIn K mainGlobals "BadPrime" = some (some (.ref C_BadPrime)))
    (g_NoInverse : PySem.W.nsIn K mainGlobals "NoInverse" = some (some (.ref C_NoInverse)))
    (g_NoNumber : PySem.W.nsIn K mainGlobals "NoNumber" = some (some (.ref C_NoNumber)))
    (g_BadTable : PySem.W.nsIn K mainGlobals "BadTable" = some (some (.ref C_BadTable)))
    (g_BadCells : PySem.W.nsIn K mainGlobals "BadCells" = some (some (.ref C_BadCells)))
    (g_TextError : PySem.W.nsIn K mainGlobals "TextError" = some (some (.ref C_TextError)))
    (g_ShapeError : PySem.W.nsIn K mainGlobals "ShapeError" = some (some (.ref C_ShapeError)))
    (g_PlanError : PySem.W.nsIn K mainGlobals "PlanError" = some (some (.ref C_PlanError)))
    (g_CourseError : PySem.W.nsIn K mainGlobals "CourseError" = some (some (.ref C_CourseError)))
    (g_KnowError : PySem.W.nsIn K mainGlobals "KnowError" = some (some (.ref C_KnowError)))
    (g_PaperError : PySem.W.nsIn K mainGlobals "PaperError" = some (some (.ref C_PaperError)))
    (K_xL : K.lookup C_BadCells = some (excClassObj "BadCells" qB C_BadCells NB bsB bmB true snB subB abB colB ddB k0B k1B (some (.str "BadCells" tkB)) k3B k5B "ValueError.__new__"))
    (K_sa : findIn K (.ref C_BadCells) "__setattr__" = some (some (.builtin "object.__setattr__")))
    (K_ga : findIn K (.ref C_BadCells) "__getattribute__" = some (some (.builtin "BaseException.__getattribute__")))
    (K_gg : findIn K (.ref C_BadCells) "__getattr__" = some none)
    (K_cl : findIn K (.ref C_BadCells) "__class__" = some (some (.builtin "object.__class__")))
    (K_sp : specialIn K (.builtin "object.__class__") "__get__" = some (some (.builtin "getset_descriptor.__get__")))
    (K_tk : takesIn K (.builtin "object.__class__") = some true)
    (K_mo : mroIn K C_BadCells (.type "object") = some true)
    (K_nw : findIn K (.ref C_BadCells) "word" = some none)
    (K_ex : subIn K (.ref C_BadCells) (.type "BaseException") = some true)
    (K_ty : typeIn K (.ref C_BadCells) = some (.type "type"))
    (K_kp : keepIn K (.ref C_BadCells) = true)
    (K_hd : hasDictIn K C_BadCells = true)
    (K_nn : findCls K (.ref C_BadCells) (.type "type") "__name__" = some (.get (.builtin "getset_descriptor.__get__") (.builtin "type.__name__") (.ref C_BadCells) (.type "type")))
    (K_th : nsIn K cStatics "thirdparty.any" = some none)
    (xb : refsVE bmB = true)
    (L_iC : findIn K (.ref C_BadCells) "__init__" = some (some (.ref fI)))
    (L_tI : typeIn K (.ref fI) = some (.type "function"))
    (L_up : ks_superIn K C_BadCells C_BadCells "__init__" = some (some (.ref fV)))
    (L_fV : fnIn K fV = true)
    (L_lI : K.lookup fI = some ⟨ocI, odI, .func (ksFn "__init__" qualI (leafArgs ⟨35, 17, 35, 21⟩ [("cells", ⟨35, 23, 35, 28⟩)]) (leafBody rB stB) (leafScope ["cells"]) .none .none docI pmI anI (.ref cda) ctI cc), oslI⟩)
    (L_cI : codeIn K (.ref cda) qualI = true)
    (L_lcd : K.lookup cda = some ⟨ccl, cdd, .fields vsC, ccs⟩)
    (L_fl : vsC[2]? = some (.str P.main.file tfC))
    (L_lcc : K.lookup cc = some ⟨clc, cld, .cell (some (.ref C_BadCells)), csl⟩)
    (L_nc : findIn K (.ref C_BadCells) "cells" = some none)
    (L_me : mroIn K C_BadCells (.ref C_BadCells) = some true)
    (L_lV : K.lookup fV = some ⟨ocV, odV, .func (fnOf "__init__" "VaultError.__init__" (rootArgs ⟨4, 17, 4, 21⟩) (rootBody qV) rootScope .none .none docV pmV anV cdvV ctV), oslV⟩)
    (L_cV : codeIn K cdvV "VaultError.__init__" = true)
    (L_tV : typeIn K (.ref fV) = some (.type "function"))
    (x_b : PySem.W.subIn K (.ref C_VaultError) (.type "BaseException") = some true)
    (x_i : PySem.W.isClsIn K C_VaultError = true)
    (x_t : PySem.W.typeIn K (.ref C_VaultError) = some (.type "type"))
    (x_s : PySem.W.subIn K (.ref C_BadCells) (.ref C_VaultError) = some true)
    (q_VaultError : PySem.W.kitOne K (.ref C_BadCells) (.ref C_VaultError) = some true)
    (q_TooMany : PySem.W.kitOne K (.ref C_BadCells) (.ref C_TooMany) = some false)
    (q_NumberError : PySem.W.kitOne K (.ref C_BadCells) (.ref C_NumberError) = some true)
    (q_BadPrime : PySem.W.kitOne K (.ref C_BadCells) (.ref C_BadPrime) = some false)
    (q_NoInverse : PySem.W.kitOne K (.ref C_BadCells) (.ref C_NoInverse) = some false)
    (q_NoNumber : PySem.W.kitOne K (.ref C_BadCells) (.ref C_NoNumber) = some false)
    (q_BadTable : PySem.W.kitOne K (.ref C_BadCells) (.ref C_BadTable) = some false)
    (q_BadCells : PySem.W.kitOne K (.ref C_BadCells) (.ref C_BadCells) = some true)
    (q_TextError : PySem.W.kitOne K (.ref C_BadCells) (.ref C_TextError) = some false)
    (q_ShapeError : PySem.W.kitOne K (.ref C_BadCells) (.ref C_ShapeError) = some false)
    (q_PlanError : PySem.W.kitOne K (.ref C_BadCells) (.ref C_PlanError) = some false)
    (q_CourseError : PySem.W.kitOne K (.ref C_BadCells) (.ref C_CourseError) = some false)
    (q_KnowError : PySem.W.kitOne K (.ref C_BadCells) (.ref C_KnowError) = some false)
    (q_PaperError : PySem.W.kitOne K (.ref C_BadCells) (.ref C_PaperError) = some false)
    (q_Value : PySem.W.kitOne K (.ref C_BadCells) (.type "ValueError") = some true) :
    ∃ fd : FuncData, (∀ (s : Shared) (v : Value), BindsTo s fd ⟨[v], []⟩ [("script", v)]) ∧ ∀ base : Heap, K.In base → base.Ns mainGlobals mg → FnOk P w K mg base CX0 10 fa fd ["script"] (spLaw K) := by
  have e := hfa.symm.trans (PySem.W.mg_of X G a_law)
  cases e
  have ixV := exm_of2 x_b x_i x_t x_s
  have kind : Kind K C_BadCells "BadCells" := { cls := ⟨_, _, _, _, _, _, _, _, _, _, _, _, _, _, K_xL, xb⟩, sa := K_sa, ga := K_ga, gg := K_gg, cl := K_cl, sp := K_sp, tk := K_tk, mo := K_mo, nw := K_nw, ex := K_ex, ty := K_ty, kp := K_kp, hd := K_hd, nn := K_nn, th := K_th, sz := by decide }
  have root : Root K fV := ⟨⟨_, _, _, _, _, _, _, _, _, qV, L_lV, L_cV, by decide⟩, L_tV⟩
  have hb : ∀ (s : Shared) (x : Value) (us : List Value), us.length = (["cells"] : List Str).length → BindsTo s (ksFn "__init__" qualI (leafArgs ⟨35, 17, 35, 21⟩ [("cells", ⟨35, 23, 35, 28⟩)]) (leafBody rB stB) (leafScope ["cells"]) .none .none docI pmI anI (.ref cda) ctI cc) ⟨x :: us, []⟩ ((("self" : Str) :: ["cells"]).zip (x :: us)) := fun s x us hl => match us, hl with
    | [_], _ => .of_eq rfl
  have nf : ∀ f ∈ (["cells"] : List Str), findIn K (.ref C_BadCells) f = some none ∧ (f == ("__debug__" : Str)) = false ∧ (leafScope ["cells"]).names.lookup f = some .local ∧ ¬ f = "self" := fun f hf => by
    obtain rfl := List.mem_singleton.mp hf
    exact ⟨L_nc, by decide, by decide, by decide⟩
  have leaf : Leaf P K mg C_BadCells fV fI "BadCells" ["cells"] := { kind := kind, root := root, top := ptop, ms := PySem.W.mg_none_of X G b_super, iC := L_iC, tI := L_tI, up := L_up, fV := L_fV, fn := ⟨qualI, _, _, _, _, _, _, _, _, _, _, [("cells", ⟨35, 23, 35, 28⟩)], rB, stB, _, _, _, _, _, _, _, _, L_lI, L_cI, L_lcd, L_fl, by decide, L_lcc, .cons _ _ _ _ .nil, hb⟩, nf := nf, nd := by decide, few := by decide, ks := by decide, kc := by decide, me := L_me }
  have T : Txt P K mg C_VaultError C_TooMany C_NumberError C_BadPrime C_NoInverse C_NoNumber C_BadTable C_BadCells C_TextError C_ShapeError C_PlanError C_CourseError C_KnowError C_PaperError fV fI := { b_int := PySem.W.mg_none_of X G b_int, b_bool := PySem.W.mg_none_of X G b_bool, b_isinstance := PySem.W.mg_none_of X G b_isinstance, b_range := PySem.W.mg_none_of X G b_range, b_min := PySem.W.mg_none_of X G b_min, b_max := PySem.W.mg_none_of X G b_max, b_abs := PySem.W.mg_none_of X G b_abs, b_len := PySem.W.mg_none_of X G b_len, b_list := PySem.W.mg_none_of X G b_list, b_reversed := PySem.W.mg_none_of X G b_reversed, b_str := PySem.W.mg_none_of X G b_str, b_dict := PySem.W.mg_none_of X G b_dict, b_tuple := PySem.W.mg_none_of X G b_tuple, b_ValueError := PySem.W.mg_none_of X G b_ValueError, g_VaultError := PySem.W.mg_of X G g_VaultError, g_TooMany := PySem.W.mg_of X G g_TooMany, g_NumberError := PySem.W.mg_of X G g_NumberError, g_BadPrime := PySem.W.mg_of X G g_BadPrime, g_NoInverse := PySem.W.mg_of X G g_NoInverse, g_NoNumber := PySem.W.mg_of X G g_NoNumber, g_BadTable := PySem.W.mg_of X G g_BadTable, g_BadCells := PySem.W.mg_of X G g_BadCells, g_TextError := PySem.W.mg_of X G g_TextError, g_ShapeError := PySem.W.mg_of X G g_ShapeError, g_PlanError := PySem.W.mg_of X G g_PlanError, g_CourseError := PySem.W.mg_of X G g_CourseError, g_KnowError := PySem.W.mg_of X G g_KnowError, g_PaperError := PySem.W.mg_of X G g_PaperError, lf_BadCells := leaf, ix_BadCells := ixV, k_VaultError := q_VaultError, k_TooMany := q_TooMany, k_NumberError := q_NumberError, k_BadPrime := q_BadPrime, k_NoInverse := q_NoInverse, k_NoNumber := q_NoNumber, k_BadTable := q_BadTable, k_BadCells := q_BadCells, k_TextError := q_TextError, k_ShapeError := q_ShapeError, k_PlanError := q_PlanError, k_CourseError := q_CourseError, k_KnowError := q_KnowError, k_PaperError := q_PaperError, k_ValueError := q_Value }
  have F_is_whole := fun_mk (st := s_is_whole) l_is_whole c_is_whole k_is_whole
  have D_is_whole : Def K mg "is_whole" s_is_whole p_is_whole f_is_whole _ := ⟨F_is_whole, PySem.W.mg_of X G a_is_whole, F_is_whole.binds (ps := p_is_whole) fun _ _ _ _ _ _ us hl => match us, hl with | [_], _ => rfl⟩
  have F_choose := fun_mk (st := s_choose) l_choose c_choose k_choose
  have D_choose : Def K mg "choose" s_choose p_choose f_choose _ := ⟨F_choose, PySem.W.mg_of X G a_choose, F_choose.binds (ps := p_choose) fun _ _ _ _ _ _ us hl => match us, hl with | [_, _], _ => rfl⟩
  have F_need_cells := fun_mk (st := s_need_cells) l_need_cells c_need_cells k_need_cells
  have D_need_cells : Def K mg "need_cells" s_need_cells p_need_cells f_need_cells _ := ⟨F_need_cells, PySem.W.mg_of X G a_need_cells, F_need_cells.binds (ps := p_need_cells) fun _ _ _ _ _ _ us hl => match us, hl with | [_], _ => rfl⟩
  have F_rounds := fun_mk (st := s_rounds) l_rounds c_rounds k_rounds
  have D_rounds : Def K mg "rounds" s_rounds p_rounds f_rounds _ := ⟨F_rounds, PySem.W.mg_of X G a_rounds, F_rounds.binds (ps := p_rounds) fun _ _ _ _ _ _ us hl => match us, hl with | [_, _], _ => rfl⟩
  have F_least_steps := fun_mk (st := s_least_steps) l_least_steps c_least_steps k_least_steps
  have D_least_steps : Def K mg "least_steps" s_least_steps p_least_steps f_least_steps _ := ⟨F_least_steps, PySem.W.mg_of X G a_least_steps, F_least_steps.binds (ps := p_least_steps) fun _ _ _ _ _ _ us hl => match us, hl with | [_, _], _ => rfl⟩
  have F_best_stop := fun_mk (st := s_best_stop) l_best_stop c_best_stop k_best_stop
  have D_best_stop : Def K mg "best_stop" s_best_stop p_best_stop f_best_stop _ := ⟨F_best_stop, PySem.W.mg_of X G a_best_stop, F_best_stop.binds (ps := p_best_stop) fun _ _ _ _ _ _ us hl => match us, hl with | [_, _], _ => rfl⟩
  have F_store := fun_mk (st := s_store) l_store c_store k_store
  have D_store : Def K mg "_law_store" s_store p_store f_store _ := ⟨F_store, PySem.W.mg_of X G a_store, F_store.binds (ps := p_store) fun _ _ _ _ _ _ us hl => match us, hl with | [_], _ => rfl⟩
  have F_mix := fun_mk (st := s_mix) l_mix c_mix k_mix
  have D_mix : Def K mg "_law_mix" s_mix p_mix f_mix _ := ⟨F_mix, PySem.W.mg_of X G a_mix, F_mix.binds (ps := p_mix) fun _ _ _ _ _ _ us hl => match us, hl with | [_, _], _ => rfl⟩
  have F_take := fun_mk (st := s_take) l_take c_take k_take
  have D_take : Def K mg "_law_take" s_take p_take f_take _ := ⟨F_take, PySem.W.mg_of X G a_take, F_take.binds (ps := p_take) fun _ _ _ _ _ _ us hl => match us, hl with | [_, _], _ => rfl⟩
  have F_edge := fun_mk (st := s_edge) l_edge c_edge k_edge
  have D_edge : Def K mg "_law_edge" s_edge p_edge f_edge _ := ⟨F_edge, PySem.W.mg_of X G a_edge, F_edge.binds (ps := p_edge) fun _ _ _ _ _ _ us hl => match us, hl with | [_, _], _ => rfl⟩
  have F_odds := fun_mk (st := s_odds) l_odds c_odds k_odds
  have D_odds : Def K mg "_law_odds" s_odds p_odds f_odds _ := ⟨F_odds, PySem.W.mg_of X G a_odds, F_odds.binds (ps := p_odds) fun _ _ _ _ _ _ us hl => match us, hl with | [_, _], _ => rfl⟩
  have F_pick := fun_mk (st := s_pick) l_pick c_pick k_pick
  have D_pick : Def K mg "_law_pick" s_pick p_pick f_pick _ := ⟨F_pick, PySem.W.mg_of X G a_pick, F_pick.binds (ps := p_pick) fun _ _ _ _ _ _ us hl => match us, hl with | [_, _], _ => rfl⟩
  have F_length := fun_mk (st := s_length) l_length c_length k_length
  have D_length : Def K mg "_law_length" s_length p_length f_length _ := ⟨F_length, PySem.W.mg_of X G a_length, F_length.binds (ps := p_length) fun _ _ _ _ _ _ us hl => match us, hl with | [_], _ => rfl⟩
  have F_cellcount := fun_mk (st := s_cellcount) l_cellcount c_cellcount k_cellcount
  have D_cellcount : Def K mg "_law_cellcount" s_cellcount p_cellcount f_cellcount _ := ⟨F_cellcount, PySem.W.mg_of X G a_cellcount, F_cellcount.binds (ps := p_cellcount) fun _ _ _ _ _ _ us hl => match us, hl with | [_], _ => rfl⟩
  have F_badcells := fun_mk (st := s_badcells) l_badcells c_badcells k_badcells
  have D_badcells : Def K mg "_law_badcells" s_badcells p_badcells f_badcells _ := ⟨F_badcells, PySem.W.mg_of X G a_badcells, F_badcells.binds (ps := p_badcells) fun _ _ _ _ _ _ us hl => match us, hl with | [_], _ => rfl⟩
  have F_leastups := fun_mk (st := s_leastups) l_leastups c_leastups k_leastups
  have D_leastups : Def K mg "_law_leastups" s_leastups p_leastups f_leastups _ := ⟨F_leastups, PySem.W.mg_of X G a_leastups, F_leastups.binds (ps := p_leastups) fun _ _ _ _ _ _ us hl => match us, hl with | [_, _], _ => rfl⟩
  have F_same := fun_mk (st := s_same) l_same c_same k_same
  have D_same : Def K mg "_law_same" s_same p_same f_same _ := ⟨F_same, PySem.W.mg_of X G a_same, F_same.binds (ps := p_same) fun _ _ _ _ _ _ us hl => match us, hl with | [_, _], _ => rfl⟩
  have F_kinds := fun_mk (st := s_kinds) l_kinds c_kinds k_kinds
  have D_kinds : Def K mg "_law_kinds" s_kinds p_kinds f_kinds _ := ⟨F_kinds, PySem.W.mg_of X G a_kinds, F_kinds.binds (ps := p_kinds) fun _ _ _ _ _ _ us hl => match us, hl with | [_], _ => rfl⟩
  have F_clean := fun_mk (st := s_clean) l_clean c_clean k_clean
  have D_clean : Def K mg "_law_clean" s_clean p_clean f_clean _ := ⟨F_clean, PySem.W.mg_of X G a_clean, F_clean.binds (ps := p_clean) fun _ _ _ _ _ _ us hl => match us, hl with | [_, _, _], _ => rfl⟩
  have F_binomial := fun_mk (st := s_binomial) l_binomial c_binomial k_binomial
  have D_binomial : Def K mg "_law_binomial" s_binomial p_binomial f_binomial _ := ⟨F_binomial, PySem.W.mg_of X G a_binomial, F_binomial.binds (ps := p_binomial) fun _ _ _ _ _ _ us hl => match us, hl with | [_, _], _ => rfl⟩
  have F_roundsof := fun_mk (st := s_roundsof) l_roundsof c_roundsof k_roundsof
  have D_roundsof : Def K mg "_law_roundsof" s_roundsof p_roundsof f_roundsof _ := ⟨F_roundsof, PySem.W.mg_of X G a_roundsof, F_roundsof.binds (ps := p_roundsof) fun _ _ _ _ _ _ us hl => match us, hl with | [_, _], _ => rfl⟩
  have F_stopsum := fun_mk (st := s_stopsum) l_stopsum c_stopsum k_stopsum
  have D_stopsum : Def K mg "_law_stopsum" s_stopsum p_stopsum f_stopsum _ := ⟨F_stopsum, PySem.W.mg_of X G a_stopsum, F_stopsum.binds (ps := p_stopsum) fun _ _ _ _ _ _ us hl => match us, hl with | [_, _, _], _ => rfl⟩
  have F_stopof := fun_mk (st := s_stopof) l_stopof c_stopof k_stopof
  have D_stopof : Def K mg "_law_stopof" s_stopof p_stopof f_stopof _ := ⟨F_stopof, PySem.W.mg_of X G a_stopof, F_stopof.binds (ps := p_stopof) fun _ _ _ _ _ _ us hl => match us, hl with | [_, _], _ => rfl⟩
  have F_edgelength := fun_mk (st := s_edgelength) l_edgelength c_edgelength k_edgelength
  have D_edgelength : Def K mg "_law_edgelength" s_edgelength p_edgelength f_edgelength _ := ⟨F_edgelength, PySem.W.mg_of X G a_edgelength, F_edgelength.binds (ps := p_edgelength) fun _ _ _ _ _ _ us hl => match us, hl with | [_, _], _ => rfl⟩
  have F_refusal := fun_mk (st := s_refusal) l_refusal c_refusal k_refusal
  have D_refusal : Def K mg "_law_refusal" s_refusal p_refusal f_refusal _ := ⟨F_refusal, PySem.W.mg_of X G a_refusal, F_refusal.binds (ps := p_refusal) fun _ _ _ _ _ _ us hl => match us, hl with | [_], _ => rfl⟩
  have F_said := fun_mk (st := s_said) l_said c_said k_said
  have D_said : Def K mg "_law_said" s_said p_said f_said _ := ⟨F_said, PySem.W.mg_of X G a_said, F_said.binds (ps := p_said) fun _ _ _ _ _ _ us hl => match us, hl with | [_, _, _], _ => rfl⟩
  have F_dueof := fun_mk (st := s_dueof) l_dueof c_dueof k_dueof
  have D_dueof : Def K mg "_law_dueof" s_dueof p_dueof f_dueof _ := ⟨F_dueof, PySem.W.mg_of X G a_dueof, F_dueof.binds (ps := p_dueof) fun _ _ _ _ _ _ us hl => match us, hl with | [_, _], _ => rfl⟩
  have F_law := fun_mk (st := s_law) l_law c_law k_law
  refine ⟨PySem.W.fnOf "law" "law" (defArgs s_law) (defBody s_law) (defScope s_law) .none kV_law dc_law pm_law an_law cd_law ct_law, fun s v => .of_eq rfl, fun base _ _ => ?_⟩
  have G_mix := ok_mix (w := w) (base := base) T F_mix 
  have G_store := ok_store (w := w) (base := base) T F_store 
  have G_take := ok_take (w := w) (base := base) T F_take D_mix G_mix
  have G_edge := ok_edge (w := w) (base := base) T F_edge D_take G_take
  have G_odds := ok_odds (w := w) (base := base) T F_odds D_take G_take
  have G_pick := ok_pick (w := w) (base := base) T F_pick D_take G_take
  have G_length := ok_length (w := w) (base := base) T F_length D_take G_take D_edge G_edge
  have G_cellcount := ok_cellcount (w := w) (base := base) T F_cellcount D_take G_take D_edge G_edge D_odds G_odds
  have G_binomial := ok_binomial (w := w) (base := base) T F_binomial 
  have G_choose := ok_choose (w := w) (base := base) T F_choose 
  have G_leastups := ok_leastups (w := w) (base := base) T F_leastups 
  have G_roundsof := ok_roundsof (w := w) (base := base) T F_roundsof D_binomial G_binomial
  have G_stopsum := ok_stopsum (w := w) (base := base) T F_stopsum D_leastups G_leastups
  have G_stopof := ok_stopof (w := w) (base := base) T F_stopof D_stopsum G_stopsum
  have G_edgelength := ok_edgelength (w := w) (base := base) T F_edgelength D_take G_take D_binomial G_binomial
  have G_dueof := ok_dueof (w := w) (base := base) T F_dueof D_stopof G_stopof D_leastups G_leastups D_roundsof G_roundsof
  have G_is_whole := ok_is_whole (w := w) (base := base) T F_is_whole 
  have G_need_cells := ok_need_cells (w := w) (base := base) T F_need_cells D_is_whole G_is_whole
  have G_rounds := ok_rounds (w := w) (base := base) T F_rounds D_need_cells G_need_cells D_choose G_choose
  have G_least_steps := ok_least_steps (w := w) (base := base) T F_least_steps D_rounds G_rounds D_choose G_choose
  have G_best_stop := ok_best_stop (w := w) (base := base) T F_best_stop D_need_cells G_need_cells D_least_steps G_least_steps
  have G_badcells := ok_badcells (w := w) (base := base) T F_badcells D_pick G_pick
  have G_same := ok_same (w := w) (base := base) T F_same D_same 6
  have E_same := okE_same (w := w) (base := base) T F_same
  have E_kinds := ok_kinds (w := w) (base := base) T F_kinds
  have E_clean := ok_clean (w := w) (base := base) T F_clean D_same E_same D_kinds E_kinds
  have E_refusal := ok_refusal (w := w) (base := base) T F_refusal D_clean E_clean
  have G_said := ok_said (w := w) (base := base) T F_said D_rounds G_rounds D_least_steps G_least_steps D_best_stop G_best_stop D_refusal E_refusal
  exact ok_law T F_law D_store G_store D_badcells G_badcells D_same G_same D_cellcount G_cellcount D_length G_length D_dueof G_dueof D_said G_said D_edgelength G_edgelength
end
theorem walk {l : PySem.W.OpenLaw} {q : Program} {loose : List Str} {XP : (Str → Option Value) → Heap → Prop} {YP : World → Heap → Prop} {d : DefRec} {K : Params → PySem.W.Frag} (hn : l.most = some 63) (hdf : d.params.defaults = [])
    (hY : ∀ (w : World) (h : Heap), YP w h → (K w.params).In h)
    (F : ∀ (w : World) (mg : Str → Option Value) (fa : Addr) (h : Heap), (K w.params).In h → h.Ns mainGlobals mg → mg d.name = some (.ref fa) →
      ∃ fd : FuncData, (∀ (s : Shared) (u : Value), BindsTo s fd ⟨[u], []⟩ [("script", u)]) ∧ ∀ base : Heap, (K w.params).In base → base.Ns mainGlobals mg → FnOk l.prog w (K w.params) mg base CX0 10 fa fd ["script"] (spLaw (K w.params))) :
    PySem.W.WalkO q loose XP YP l.row.toRowW d [] (fun f vs => PySem.call f vs) :=
  L2.walk_of (n := 63) (k := 10) (x := "script") (CX := fun _ => CX0) (sp := fun w => spLaw (K w.params)) hn (by decide) hdf ⟨rfl, by decide, by decide⟩ hY F (fun _ _ a ns hl _ hS => ⟨a, ns, rfl, hS, fun _ _ => rfl⟩) fun _ _ _ _ _ z => z
end K11

open PySem PySem.W PyProof.Rows
set_option maxRecDepth 100000 in
set_option maxHeartbeats 0 in
theorem PySem.Challenge.cw_holdingsshut_k11_least_steps_and_stops_holds : PySem.Challenge.rw_holdingsshut_k11_least_steps_and_stops.Holds := by
  w_on; o_law; k_head; (case hw => w_witness2)
  k_fill
  refine K11.walk (l := PySem.Challenge.rw_holdingsshut_k11_least_steps_and_stops) rfl rfl (fun w h Y => PySem.W.kIn_of Y) ?F
  case F =>
    intro w mg fa h KX G hmg
    refine' K11.all_mk KX G hmg ?ptop ?a_is_whole ?l_is_whole ?c_is_whole ?k_is_whole ?a_choose ?l_choose ?c_choose ?k_choose ?a_need_cells ?l_need_cells ?c_need_cells ?k_need_cells ?a_rounds ?l_rounds ?c_rounds ?k_rounds ?a_least_steps ?l_least_steps ?c_least_steps ?k_least_steps ?a_best_stop ?l_best_stop ?c_best_stop ?k_best_stop ?a_store ?l_store ?c_store ?k_store ?a_mix ?l_mix ?c_mix ?k_mix ?a_take ?l_take ?c_take ?k_take ?a_edge ?l_edge ?c_edge ?k_edge ?a_odds ?l_odds ?c_odds ?k_odds ?a_pick ?l_pick ?c_pick ?k_pick ?a_length ?l_length ?c_length ?k_length ?a_cellcount ?l_cellcount ?c_cellcount ?k_cellcount ?a_badcells ?l_badcells ?c_badcells ?k_badcells ?a_leastups ?l_leastups ?c_leastups ?k_leastups ?a_same ?l_same ?c_same ?k_same ?a_kinds ?l_kinds ?c_kinds ?k_kinds ?a_clean ?l_clean ?c_clean ?k_clean ?a_binomial ?l_binomial ?c_binomial ?k_binomial ?a_roundsof ?l_roundsof ?c_roundsof ?k_roundsof ?a_stopsum ?l_stopsum ?c_stopsum ?k_stopsum ?a_stopof ?l_stopof ?c_stopof ?k_stopof ?a_edgelength ?l_edgelength ?c_edgelength ?k_edgelength ?a_refusal ?l_refusal ?c_refusal ?k_refusal ?a_said ?l_said ?c_said ?k_said ?a_dueof ?l_dueof ?c_dueof ?k_dueof ?a_law ?l_law ?c_law ?k_law ?b_int ?b_bool ?b_isinstance ?b_range ?b_min ?b_max ?b_abs ?b_len ?b_list ?b_reversed ?b_str ?b_dict ?b_tuple ?b_ValueError ?b_super ?g_VaultError ?g_TooMany ?g_NumberError ?g_BadPrime ?g_NoInverse ?g_NoNumber ?g_BadTable ?g_BadCells ?g_TextError ?g_ShapeError ?g_PlanError ?g_CourseError ?g_KnowError ?g_PaperError ?K_xL ?K_sa ?K_ga ?K_gg ?K_cl ?K_sp ?K_tk ?K_mo ?K_nw ?K_ex ?K_ty ?K_kp ?K_hd ?K_nn ?K_th ?xb ?L_iC ?L_tI ?L_up ?L_fV ?L_lI ?L_cI ?L_lcd ?L_fl ?L_lcc ?L_nc ?L_me ?L_lV ?L_cV ?L_tV ?x_b ?x_i ?x_t ?x_s ?q_VaultError ?q_TooMany ?q_NumberError ?q_BadPrime ?q_NoInverse ?q_NoNumber ?q_BadTable ?q_BadCells ?q_TextError ?q_ShapeError ?q_PlanError ?q_CourseError ?q_KnowError ?q_PaperError ?q_Value
    (case ptop => first | rfl | decide +kernel)
    (case a_is_whole => k_is)
    (case l_is_whole => k_is)
    (case c_is_whole => k_is)
    (case k_is_whole => k_is)
    (case a_choose => k_is)
    (case l_choose => k_is)
    (case c_choose => k_is)
    (case k_choose => k_is)
    (case a_need_cells => k_is)
    (case l_need_cells => k_is)
    (case c_need_cells => k_is)
    (case k_need_cells => k_is)
    (case a_rounds => k_is)
    (case l_rounds => k_is)
    (case c_rounds => k_is)
    (case k_rounds => k_is)
    (case a_least_steps => k_is)
    (case l_least_steps => k_is)
    (case c_least_steps => k_is)
    (case k_least_steps => k_is)
    (case a_best_stop => k_is)
    (case l_best_stop => k_is)
    (case c_best_stop => k_is)
    (case k_best_stop => k_is)
    (case a_store => k_is)
    (case l_store => k_is)
    (case c_store => k_is)
    (case k_store => k_is)
    (case a_mix => k_is)
    (case l_mix => k_is)
    (case c_mix => k_is)
    (case k_mix => k_is)
    (case a_take => k_is)
    (case l_take => k_is)
    (case c_take => k_is)
    (case k_take => k_is)
    (case a_edge => k_is)
    (case l_edge => k_is)
    (case c_edge => k_is)
    (case k_edge => k_is)
    (case a_odds => k_is)
    (case l_odds => k_is)
    (case c_odds => k_is)
    (case k_odds => k_is)
    (case a_pick => k_is)
    (case l_pick => k_is)
    (case c_pick => k_is)
    (case k_pick => k_is)
    (case a_length => k_is)
    (case l_length => k_is)
    (case c_length => k_is)
    (case k_length => k_is)
    (case a_cellcount => k_is)
    (case l_cellcount => k_is)
    (case c_cellcount => k_is)
    (case k_cellcount => k_is)
    (case a_badcells => k_is)
    (case l_badcells => k_is)
    (case c_badcells => k_is)
    (case k_badcells => k_is)
    (case a_leastups => k_is)
    (case l_leastups => k_is)
    (case c_leastups => k_is)
    (case k_leastups => k_is)
    (case a_same => k_is)
    (case l_same => k_is)
    (case c_same => k_is)
    (case k_same => k_is)
    (case a_kinds => k_is)
    (case l_kinds => k_is)
    (case c_kinds => k_is)
    (case k_kinds => k_is)
    (case a_clean => k_is)
    (case l_clean => k_is)
    (case c_clean => k_is)
    (case k_clean => k_is)
    (case a_binomial => k_is)
    (case l_binomial => k_is)
    (case c_binomial => k_is)
    (case k_binomial => k_is)
    (case a_roundsof => k_is)
    (case l_roundsof => k_is)
    (case c_roundsof => k_is)
    (case k_roundsof => k_is)
    (case a_stopsum => k_is)
    (case l_stopsum => k_is)
    (case c_stopsum => k_is)
    (case k_stopsum => k_is)
    (case a_stopof => k_is)
    (case l_stopof => k_is)
    (case c_stopof => k_is)
    (case k_stopof => k_is)
    (case a_edgelength => k_is)
    (case l_edgelength => k_is)
    (case c_edgelength => k_is)
    (case k_edgelength => k_is)
    (case a_refusal => k_is)
    (case l_refusal => k_is)
    (case c_refusal => k_is)
    (case k_refusal => k_is)
    (case a_said => k_is)
    (case l_said => k_is)
    (case c_said => k_is)
    (case k_said => k_is)
    (case a_dueof => k_is)
    (case l_dueof => k_is)
    (case c_dueof => k_is)
    (case k_dueof => k_is)
    (case a_law => k_is)
    (case l_law => k_is)
    (case c_law => k_is)
    (case k_law => k_is)
    (case b_int => k_is)
    (case b_bool => k_is)
    (case b_isinstance => k_is)
    (case b_range => k_is)
    (case b_min => k_is)
    (case b_max => k_is)
    (case b_abs => k_is)
    (case b_len => k_is)
    (case b_list => k_is)
    (case b_reversed => k_is)
    (case b_str => k_is)
    (case b_dict => k_is)
    (case b_tuple => k_is)
    (case b_ValueError => k_is)
    (case b_super => k_is)
    (case g_VaultError => k_is)
    (case g_TooMany => k_is)
    (case g_NumberError => k_is)
    (case g_BadPrime => k_is)
    (case g_NoInverse => k_is)
    (case g_NoNumber => k_is)
    (case g_BadTable => k_is)
    (case g_BadCells => k_is)
    (case g_TextError => k_is)
    (case g_ShapeError => k_is)
    (case g_PlanError => k_is)
    (case g_CourseError => k_is)
    (case g_KnowError => k_is)
    (case g_PaperError => k_is)
    (case K_xL => k_is)
    (case K_sa => k_is)
    (case K_ga => k_is)
    (case K_gg => k_is)
    (case K_cl => k_is)
    (case K_sp => k_is)
    (case K_tk => k_is)
    (case K_mo => k_is)
    (case K_nw => k_is)
    (case K_ex => k_is)
    (case K_ty => k_is)
    (case K_kp => k_is)
    (case K_hd => k_is)
    (case K_nn => k_is)
    (case K_th => k_is)
    (case xb => first | rfl | decide +kernel)
    (case L_iC => k_is)
    (case L_tI => k_is)
    (case L_up => ks_is)
    (case L_fV => k_is)
    (case L_lI => k_is)
    (case L_cI => k_is)
    (case L_lcd => k_is)
    (case L_fl => rfl)
    (case L_lcc => k_is)
    (case L_nc => k_is)
    (case L_me => k_is)
    (case L_lV => k_is)
    (case L_cV => k_is)
    (case L_tV => k_is)
    (case x_b => k_is)
    (case x_i => k_is)
    (case x_t => k_is)
    (case x_s => k_is)
    (case q_VaultError => first | k_is | kit_is)
    (case q_TooMany => first | k_is | kit_is)
    (case q_NumberError => first | k_is | kit_is)
    (case q_BadPrime => first | k_is | kit_is)
    (case q_NoInverse => first | k_is | kit_is)
    (case q_NoNumber => first | k_is | kit_is)
    (case q_BadTable => first | k_is | kit_is)
    (case q_BadCells => first | k_is | kit_is)
    (case q_TextError => first | k_is | kit_is)
    (case q_ShapeError => first | k_is | kit_is)
    (case q_PlanError => first | k_is | kit_is)
    (case q_CourseError => first | k_is | kit_is)
    (case q_KnowError => first | k_is | kit_is)
    (case q_PaperError => first | k_is | kit_is)
    (case q_Value => first | k_is | kit_is)
