import PyProof.Rows.All
import Wide.All
import OpenK.AllK
import Wide.FinOn
import KE.KTypeName
import KE.KSuper
import KE.KExcIs
import HandS.Base
import HandS.Call
import HandS.Exc
import HandS.ExcOwn
import HandS.ForExc
import HandS.Text
import HandS.ExcInit
import HandS.ForMost
import HandS.HotCalls
import HandS.ExcCtx
import HandS.IsInst
import HandS.ExcIs
import HandS.ExcField
import HandS.Comp
import HandS.Rev
import HandS.RevTup
import PyProof.ListRange
import HandS.Wide
import HandS.DeepEq
import PySem.Challenge.RW_holdingsshut_k02_primes_and_binomials
set_option Elab.async false
set_option maxRecDepth 100000
set_option Elab.async false
set_option linter.all false
set_option maxRecDepth 100000
set_option maxHeartbeats 2000000
namespace PySem
namespace VX
open PySem.W PySem.Calls PyProof.Rows PySem.HandSPX Builtin Builtin.ObjectAttr Builtin.Getset_descriptor
section
variable {prog : Program} {w : World} {A : Around} {E : Value → Shared → Prop} {R : Result → Shared → Prop} {s : Shared} {K : Frag} {C : Addr} {oC : Obj} {nm : Value}
theorem name_got (X : K.In s.heap) (hC : K.lookup C = some oC) (hs : oC.slots[2]? = some (some nm)) (ht : typeIn K (.ref C) = some (.type "type")) (h : R (.ok (.ret nm)) s) :
    codeAny (model prog w) A (.call (.builtin "getset_descriptor.__get__") ⟨[.builtin "type.__name__", .ref C, .type "type"], []⟩) R s := by
  obtain ⟨hh, g, dr, t, os⟩ := s
  have L0 : Looks (model prog w) hh (typeOf (.ref C)) (.type "type") := looks_typeIn X ht
  have L1 : Looks (model prog w) hh (isSubtype (.type "type") (.type "type")) true := Looks.of_pure (by rw [isSubtype_type]; kernel_rfl)
  have hg : hh.get? C = some oC := X _ _ hC
  refine codeAny_call_builtin KF.slot_gs.plain KF.entry_gs (KF.slot_gs.check _ _ _ _ _ _ _ _ ktyn_type (KF.args_gs _ _ _) ?_)
  unfold Builtin.«getset_descriptor.__get__» descrGet
  rw [show descrGetArgs ⟨[.builtin "type.__name__", .ref C, .type "type"], []⟩ = pure (.builtin "type.__name__", some (.ref C), given (.type "type")) from by kernel_rfl]
  refine wpAny_bind (wpAny_pure ?_)
  unfold descrGetter descrCheckInstance descrNameAndClass isInstance
  simp only [ktyn_owner]
  repeat lk
  refine ⟨Code.quiet_builtin _ (by decide +kernel), codeAny_builtin ktyn_entry ?_⟩
  unfold Builtin.«type.__name__» Builtin.keptObject slotAt
  dsimp only
  refine wpAny_bind (wpAny_bind (wpAny_loadPart_at hg ?_))
  refine wpAny_pure ?_
  rw [hs]
  first | exact wpAny_pure h | exact wpAny_pure (wpAny_pure h)
/-- self.__class__.__name__'s second step -/
theorem name_attr {expr : Bool} {Q : Value → Shared → Prop} (X : K.In s.heap) (hC : K.lookup C = some oC) (hs : oC.slots[2]? = some (some nm)) (ht : typeIn K (.ref C) = some (.type "type"))
    (ho : nsIn K cStatics "thirdparty.any" = some none) (hnm : handedIn nm = true)
    (e : findCls K (.ref C) (.type "type") "__name__" = some (.get (.builtin "getset_descriptor.__get__") (.builtin "type.__name__") (.ref C) (.type "type")))
    (h : Q nm { s with toks := s.toks + 1 }) : wpAny (model prog w) A (getAttr (.ref C) "__name__" expr) Q E s := by
  have hg : findIn K (.type "type") "__getattribute__" = some (some (.builtin "type.__getattribute__")) := type_tga
  refine cls_open X (looks_opaque X ho) (looks_typeIn X ht) hg (looks_hook X (r := none) (by rfl)) (by show subIn K _ _ = _; rfl) e ?_
  show wpAny _ _ (do ret (← holding [Value.builtin "type.__name__"] (call (.builtin "getset_descriptor.__get__") [.builtin "type.__name__", .ref C, .type "type"]))) _ _ _
  refine wpAny_bind (wpAny_holding (wpAny_call (name_got (s := { s with toks := s.toks + 1 }) X hC hs ht ?_)))
  exact wpAny_pure (handed_on hnm h)
/-- x.__class__, x an exception of the own class at C -/
theorem cls_attr {x : Addr} {ox : Obj} {od : Option Obj} {expr : Bool} {gt : Option Value} {Q : Value → Shared → Prop} (X : K.In s.heap) (I : InstAt s.heap x ox C od)
    (g1 : findIn K (.ref C) "__getattribute__" = some (some (.builtin "BaseException.__getattribute__"))) (g2 : findIn K (.ref C) "__getattr__" = some gt) (sb : subIn K (.ref C) (.type "BaseException") = some true)
    (fd : findObj K C od "__class__" = some (.bind (.builtin "getset_descriptor.__get__") (.builtin "object.__class__"))) (mo : mroIn K C (.type "object") = some true)
    (h : Q (.ref C) { s with toks := s.toks + 1 }) : wpAny (model prog w) A (getAttr (.ref x) "__class__" expr) Q E s := by
  obtain ⟨hp, gs, dn, tk, os⟩ := s
  have T := I.type (M := model prog w)
  have A1 := looks_findIn (M := model prog w) X g1
  have A2 := looks_findIn (M := model prog w) X g2
  have A3 := looks_find (M := model prog w) X I fd
  have S : Looks (model prog w) hp (isInstance (.ref x) (.type "BaseException")) true := T.andThen (looks_subIn X sb)
  have e0 : (expr && onTheHeap (Value.builtin "BaseException.__getattribute__")) = false := by
    cases expr <;> rfl
  have e1 : (onTheHeap (Value.ref C) && Value.builtin "BaseException.__getattribute__" == Value.builtin "object.__getattribute__") = false := by
    rw [show (Value.builtin "BaseException.__getattribute__" == Value.builtin "object.__getattribute__") = false from by decide +kernel]
    rfl
  unfold getAttr getAttrBy
  refine wpAny_bind (wpAny_mkText (wpAny_holding (wpAny_bind (T.at (wpAny_bind (A1.at ?_))))))
  dsimp only
  rw [e1]
  rw [if_neg Bool.false_ne_true]
  unfold getAttrByItsOwn hookBefore
  refine wpAny_bind ?_
  have eo : onTheHeap (Value.ref C) = true := rfl
  rw [if_pos eo]
  refine A2.at (wpAny_bind (wpAny_attempt (wpAny_holding ?_)))
  unfold callGetattribute
  rw [e0]
  rw [if_neg Bool.false_ne_true]
  unfold boundAndCalled
  rw [PySem.F.excAttr_ValueError.ga.bind (.ref x)]
  refine wpAny_bind (wpAny_pure ?_)
  refine wpAny_call (codeAny_call_builtin (args := ⟨[.ref x, .str "__class__" tk], []⟩) PySem.F.excAttr_ValueError.ga.plain PySem.F.entry_bexc_ga ?_)
  refine @check_slot (model prog w) _ _ ⟨hp, gs, dn, tk + 1, os⟩ "BaseException.__getattribute__" "BaseException" "__getattribute__" (.ref x) [.str "__class__" tk] [] _
    (by decide +kernel) (by decide +kernel) S (PySem.F.args_bexc_ga (.ref x) (.str "__class__" tk)) ?_
  unfold Builtin.«object.__getattribute__»
  refine wpAny_bind (wpAny_of_eq (a := ((Value.ref x : Value), [Value.str "__class__" tk])) (by first | rfl | (simp only [slotArgs]; rfl)) ?_)
  refine wpAny_bind (wpAny_pure (wpAny_bind (T.at (wpAny_bind (A3.at ?_)))))
  refine wpAny_bind (wpAny_holding (wpAny_call (class_get (s := ⟨hp, gs, dn, tk + 1, os⟩) (ox := ox) (od := od) X I mo ?_)))
  refine wpAny_pure ?_
  show wpAny _ _ (handedOut (.ref C)) _ _ _
  exact handed_on rfl h
end
end VX
end PySem

set_option Elab.async false
set_option linter.all false
set_option maxRecDepth 100000
set_option maxHeartbeats 2000000
namespace PySem
namespace VX
open PySem.W PySem.Calls PyProof.Rows PySem.HandSPX
/-! ### the texts of the two kinds of __init__ -/
def rootArgs (p : Pos) : Arguments := { posonlyargs := [], args := [{ arg := "self", annotation := none, pos := p }], vararg := none, kwonlyargs := [], kw_defaults := [], kwarg := none, defaults := [] }
def rootBody (q : Nat → Pos) : List Stmt :=
  [.Assign [.Attribute (.Name "self" (q 0)) "word" (q 1)] (.Call (.Attribute (.Attribute (.Attribute (.Name "self" (q 2)) "__class__" (q 3)) "__name__" (q 4)) "lower" (q 5)) [] [] (q 6)) (q 7)]
def rootScope : Scope := { kind := .function, names := [(PySem.Str.ofString "self", .local)], isGenerator := false, isCoroutine := false, more := [] }
/-- the root's __init__ at fV -/
structure Root (K : Frag) (fV : Addr) : Prop where
  fn : ∃ (oc : Value) (od : Option Addr) (doc pm : Value) (an : Option Addr) (cdv ct : Value) (osl : Array (Option Value)) (p : Pos) (q : Nat → Pos),
    K.lookup fV = some ⟨oc, od, .func (fnOf "__init__" "VaultError.__init__" (rootArgs p) (rootBody q) rootScope .none .none doc pm an cdv ct), osl⟩ ∧ codeIn K cdv "VaultError.__init__" = true ∧ ((q 5).endLine == (q 6).line) = true
  ty : typeIn K (.ref fV) = some (.type "function")
/-- an exception class below the root, its name nm -/
structure Kind (K : Frag) (C : Addr) (nm : Str) : Prop where
  cls : ∃ q N bs bm sn sub ab col dd k0 k1 k3 k5 tk, K.lookup C = some (excClassObj nm q C N bs bm true sn sub ab col dd k0 k1 (some (.str nm tk)) k3 k5 "ValueError.__new__") ∧ refsVE bm = true
  sa : findIn K (.ref C) "__setattr__" = some (some (.builtin "object.__setattr__"))
  ga : findIn K (.ref C) "__getattribute__" = some (some (.builtin "BaseException.__getattribute__"))
  gg : findIn K (.ref C) "__getattr__" = some none
  cl : findIn K (.ref C) "__class__" = some (some (.builtin "object.__class__"))
  sp : specialIn K (.builtin "object.__class__") "__get__" = some (some (.builtin "getset_descriptor.__get__"))
  tk : takesIn K (.builtin "object.__class__") = some true
  mo : mroIn K C (.type "object") = some true
  nw : findIn K (.ref C) "word" = some none
  ex : subIn K (.ref C) (.type "BaseException") = some true
  ty : typeIn K (.ref C) = some (.type "type")
  kp : keepIn K (.ref C) = true
  hd : hasDictIn K C = true
  nn : findCls K (.ref C) (.type "type") "__name__" = some (.get (.builtin "getset_descriptor.__get__") (.builtin "type.__name__") (.ref C) (.type "type"))
  th : nsIn K cStatics "thirdparty.any" = some none
  sz : nm.length ≤ 1000
theorem Kind.cd {K : Frag} {C : Addr} {nm : Str} (T : Kind K C nm) : ∃ cd, clsIn K C = some cd ∧ refsVE cd.mro = true ∧ cd.hasDict = true := by
  obtain ⟨q, N, bs, bm, sn, sub, ab, col, dd, k0, k1, k3, k5, tk, hC, hb⟩ := T.cls
  refine ⟨{ name := nm, bases := bs, mro := .ref C :: bm, ns := N, qualname := q, hasDict := true, slotNames := sn, subclasses := sub, abstract := ab, collection := col, hasDel := false }, ?_, hb, rfl⟩
  unfold clsIn
  rw [hC] <;> rfl
theorem Kind.some {K : Frag} {C : Addr} {nm : Str} (T : Kind K C nm) : (clsIn K C).isSome = true := by
  obtain ⟨cd, e, _⟩ := T.cd
  rw [e]
  rfl
section
variable {prog : Program} {w : World} {A : Around} {E : Value → Shared → Prop} {R : Result → Shared → Prop} {s : Shared} {K : Frag} {C fV : Addr} {nm : Str}
theorem ld {M : Model} {s : Shared} {env : Env} {m : Str → Option Value} {x : Str} {pos : Pos} {v : Value} {Q : Value → Shared → Prop} {A : Around} {E : Value → Shared → Prop} (hn : s.heap.Ns env.locals m) (hv : m x = Option.some v) (h : Q v s)
    (hk : env.scope.kind = .function := by rfl) (hl : env.kindOf x = Option.some .local := by rfl) (hd : (x == ("__debug__" : Str)) = false := by decide) : wpAny M A (eval (.Name x pos) env) Q E s :=
  wpAny_Name (wpAny_loadName_local hk hl hn hv h) hd
/-- what the root's __init__ leaves of the fresh exception at x -/
structure Begun (h h' : Heap) (x C dx t0 : Addr) (nm : Str) : Prop where
  keep : ∀ b o, b ≠ x → h.get? b = some o → h'.get? b = some o
  obj : h'.get? x = some { cls := .ref C, dict := some dx, data := .fields #[.ref t0, .none, .none, .none, .bool false, .none] }
  big : h.objs.size ≤ dx
  ne : dx ≠ x
  ns : ∃ tk, h'.Ns1 dx (fun y => if y = "word" then some (.str (Txt.lower nm) tk) else none)
theorem init_root (V : Root K fV) (T : Kind K C nm) {x t0 : Addr} (X : K.In s.heap) (hlim : s.heap.NoLimit) (hx : s.heap.get? x = some (excO C t0)) (hroom : A.depth < recursionLimit)
    (hq : ∀ h' tk dx, Begun s.heap h' x C dx t0 nm → R (.ok (.ret .none)) { s with heap := h', toks := tk }) :
    codeAny (model prog w) A (.call (.ref fV) ⟨[.ref x], []⟩) R s := by
  obtain ⟨oc, od, doc, pm, an, cdv, ct, osl, p, q, ho, hcd, hln⟩ := V.fn
  obtain ⟨cd, hcl, hre, hdi⟩ := T.cd
  obtain ⟨qq, N, bs, bm, sn, sub, ab, col, dd, k0, k1, k3, k5, tk0, hC, hb⟩ := T.cls
  refine Att.call_fn (binds := [("self", .ref x)]) X hlim ho hcd hroom (BindsTo.of_eq (by first | rfl | with_unfolding_all rfl)) (by first | rfl | decide | with_unfolding_all rfl) (fun s₁ IC => ?_) rfl rfl rfl
  obtain ⟨h₁, tk₁, rfl⟩ := IC.toInCall.same
  have k : ∀ b o, s.heap.get? b = some o → h₁.get? b = some o := IC.toInCall.keep
  have hn := IC.toInCall.ns
  have X₁ : K.In h₁ := X.keeps k
  have hx₁ := k _ _ hx
  have I : W.InstAt h₁ x (excO C t0) C none := ⟨hx₁, rfl, rfl, trivial⟩
  have fd : findObj K C none "__class__" = some (.bind (.builtin "getset_descriptor.__get__") (.builtin "object.__class__")) := findObj_dataE T.some T.cl T.sp T.tk
  show wpAny _ _ (execs _ _) _ _ _
  refine wpAny_execs_cons (plainObj_wpAny_Assign_Attribute ?_)
  refine wpAny_Call_method0_late (by first | rfl | with_unfolding_all rfl) hln ?_
  refine L2.attr_of (by first | rfl | with_unfolding_all rfl) (L2.attr_of (by first | rfl | with_unfolding_all rfl) (ld (v := .ref x) hn (by first | rfl | with_unfolding_all rfl | kernel_rfl) ?_))
  refine cls_attr X₁ I T.ga T.gg T.ex fd T.mo ?_
  refine name_attr X₁ hC (by rfl) T.ty T.th (by rfl) T.nn ?_
  refine ⟨"str", "str.lower", F.plainAttrs_str, F.slot_str_lower, F.type_str_lower, typeIs_str _ _ _, (fun _ e => nomatch e), ?_⟩
  refine Calls.callWith_builtin rfl (PySem.evalArgs_none ?_)
  refine PySem.SC.lower (PyProof.Rows.short24 (by have h1 := T.sz; have h2 := PyProof.Rows.len_lower nm; omega)) ?_
  refine ld (v := .ref x) hn (by first | rfl | with_unfolding_all rfl | kernel_rfl) ?_
  refine set_plain X₁ (ox := excO C t0) (od := none) ⟨hx₁, rfl, rfl, trivial⟩ T.sa ?_
  refine exc_osa X₁ hx₁ hcl hre hdi T.nw (fun h₃ tk₃ dx k₃ dn dne hx₃ hn₃ => ?_)
  show wpAny _ _ (execs _ _) _ _ _
  have z : s.heap.objs.size < h₁.objs.size := hn.lt
  refine wpAny_execs_nil (hq h₃ tk₃ dx ⟨fun b o hb e => k₃ b o hb (k b o e), hx₃, ?_, dne, _, hn₃⟩)
  exact Nat.le_of_lt (Nat.lt_of_lt_of_le z dn)
end
end VX
end PySem

set_option Elab.async false
set_option linter.all false
set_option maxRecDepth 100000
set_option maxHeartbeats 2000000
namespace PySem
namespace VX
open PySem.W PySem.Calls PyProof.Rows PySem.HandSPX
inductive Stores : List Str → List Stmt → Prop
  | nil : Stores [] []
  | cons {f : Str} {fs : List Str} {st : List Stmt} (p1 p2 p3 p4 : Pos) : Stores fs st → Stores (f :: fs) (.Assign [.Attribute (.Name "self" p1) f p2] (.Name f p3) p4 :: st)
def putNs : List (Str × Value) → (Str → Option Value) → Str → Option Value
  | [], m => m
  | (f, v) :: r, m => putNs r (fun y => if y = f then some v else m y)
theorem In_but {K : Frag} {h h' : Heap} {x : Addr} (X : K.In h) (hx : K.lookup x = none) (k : ∀ b o, b ≠ x → h.get? b = some o → h'.get? b = some o) : K.In h' := fun a o e =>
  k a o (fun z => by
    rw [z] at e
    rw [show List.lookup x K = none from hx] at e
    cases e) (X a o e)
theorem notIn_of {K : Frag} {h : Heap} {x : Addr} (X : K.In h) (hx : h.objs.size ≤ x) : K.lookup x = none := by
  cases e : K.lookup x with
  | none => rfl
  | some o => exact absurd (Nat.lt_of_lt_of_le (Heap.lt_size (X _ _ e)) hx) (Nat.lt_irrefl _)
section
variable {prog : Program} {w : World} {A : Around} {E : Value → Shared → Prop} {K : Frag} {C : Addr} {nm : Str}
theorem stores_ok (T : Kind K C nm) {x dx : Addr} {fv : Array Value} {env : Env} {m : Str → Option Value} {Q : Flow → Shared → Prop} (hk : env.scope.kind = .function) (hself : m "self" = some (.ref x)) (ls : env.kindOf "self" = some .local) (hKd : K.lookup dx = none) (hxd : x ≠ dx) (hLd : env.locals ≠ dx) :
    ∀ (kvs : List (Str × Value)) (body : List Stmt) (m0 : Str → Option Value) (nl : List Str) (s : Shared), Stores (kvs.map (·.1)) body →
      (∀ p ∈ kvs, m p.1 = some p.2 ∧ findIn K (.ref C) p.1 = some none ∧ env.kindOf p.1 = some .local ∧ (p.1 == ("__debug__" : Str)) = false) →
      K.In s.heap → s.heap.Ns env.locals m → s.heap.get? x = some { cls := .ref C, dict := some dx, data := .fields fv } → s.heap.Ns1 dx m0 → Within m0 nl → nl.length + kvs.length ≤ 1000 →
      (∀ h' tk, (∀ b o, b ≠ dx → s.heap.get? b = some o → h'.get? b = some o) → h'.Ns1 dx (putNs kvs m0) → Q .next { s with heap := h', toks := tk }) → wpAny (model prog w) A (execs body env) Q E s := by
  intro kvs
  induction kvs with
  | nil =>
    intro body m0 nl s hb _ X hn hx hd hw hl hq
    cases hb
    exact wpAny_execs_nil (hq s.heap s.toks (fun _ _ _ e => e) hd)
  | cons p kvs ih =>
    intro body m0 nl s hb hp X hn hx hd hw hl hq
    obtain ⟨f, v⟩ := p
    cases hb with
    | cons p1 p2 p3 p4 hb =>
      obtain ⟨e1, e2, e3, e4⟩ := hp _ List.mem_cons_self
      obtain ⟨cd, hcl, hre, hdi⟩ := T.cd
      obtain ⟨oD, _, _, hoD, _, _⟩ := hd.count hw
      obtain ⟨hp0, g, d, t, os⟩ := s
      refine wpAny_execs_cons (plainObj_wpAny_Assign_Attribute ?_)
      refine ld (v := v) hn e1 ?_ hk e3 e4
      refine ld (v := .ref x) hn hself ?_ hk ls (by decide)
      refine set_plain X (ox := { cls := .ref C, dict := some dx, data := .fields fv }) (od := some oD) ⟨hx, rfl, rfl, hoD⟩ T.sa ?_
      refine OEX.osa_old X hx hd hw (by have := hl; rw [List.length_cons] at this; omega) hcl hre hdi e2 (fun h₃ tk₃ k₃ hn₃ => ?_)
      have keepL : h₃.Ns env.locals m := hn.at fun o q => k₃ _ _ hLd q
      refine ih _ _ (f :: nl) ⟨h₃, g, d, tk₃, os⟩ hb (fun q hq' => hp q (List.mem_cons_of_mem _ hq')) (In_but X hKd k₃) keepL (k₃ _ _ hxd hx) hn₃ (Within.cons f v hw) (by rw [List.length_cons] at hl ⊢; omega) fun h' tk k' n' => ?_
      exact hq h' tk (fun b o hb' e => k' b o hb' (k₃ b o hb' e)) n'
end
end VX
end PySem

set_option Elab.async false
set_option linter.all false
set_option maxRecDepth 100000
set_option maxHeartbeats 2000000
namespace PySem
namespace VX
open PySem.W PySem.Calls PyProof.Rows PySem.HandSPX
def leafArgs (p : Pos) (fs : List (Str × Pos)) : Arguments := { posonlyargs := [], args := { arg := "self", annotation := none, pos := p } :: fs.map (fun y => { arg := y.1, annotation := none, pos := y.2 }), vararg := none, kwonlyargs := [], kw_defaults := [], kwarg := none, defaults := [] }
def leafBody (r : Nat → Pos) (st : List Stmt) : List Stmt := .Expr (.Call (.Attribute (.Call (.Name "super" (r 0)) [] [] (r 1)) "__init__" (r 2)) [] [] (r 3)) (r 4) :: st
def leafScope (fs : List Str) : Scope := { kind := .function, names := (PySem.Str.ofString "self", .local) :: (fs.map (fun f => (f, NameKind.local)) ++ [(PySem.Str.ofString "__class__", .free), (PySem.Str.ofString "super", .globalImplicit)]), isGenerator := false, isCoroutine := false, more := [] }
/-- a class that is raised: its own __init__ at fI, the cell of its __class__ at cc -/
structure Leaf (P : Program) (K : Frag) (mg : Str → Option Value) (C fV fI : Addr) (nm : Str) (fs : List Str) : Prop where
  kind : Kind K C nm
  root : Root K fV
  top : (P.main.scope.names.lookup ("super" : Str)).isSome = false
  ms : mg "super" = none
  iC : findIn K (.ref C) "__init__" = some (some (.ref fI))
  tI : typeIn K (.ref fI) = some (.type "function")
  up : ks_superIn K C C "__init__" = some (some (.ref fV))
  fV : fnIn K fV = true
  fn : ∃ (qual : Str) (oc : Value) (od : Option Addr) (doc pm : Value) (an : Option Addr) (ct : Value) (osl : Array (Option Value)) (cda cc : Addr) (p : Pos) (ps : List (Str × Pos)) (r : Nat → Pos) (st : List Stmt) (ccl : Value) (cdd : Option Addr) (ccs : Array (Option Value)) (vs : Array Value) (tf : Tok) (cl : Value) (cld : Option Addr) (csl : Array (Option Value)),
    K.lookup fI = some ⟨oc, od, .func (ksFn "__init__" qual (leafArgs p ps) (leafBody r st) (leafScope fs) .none .none doc pm an (.ref cda) ct cc), osl⟩ ∧ codeIn K (.ref cda) qual = true ∧
    K.lookup cda = some ⟨ccl, cdd, .fields vs, ccs⟩ ∧ vs[2]? = some (.str P.main.file tf) ∧ ((r 2).endLine == (r 3).line) = true ∧ K.lookup cc = some ⟨cl, cld, .cell (some (.ref C)), csl⟩ ∧ Stores fs st ∧
    (∀ (s : Shared) (x : Value) (us : List Value), us.length = fs.length → BindsTo s (ksFn "__init__" qual (leafArgs p ps) (leafBody r st) (leafScope fs) .none .none doc pm an (.ref cda) ct cc) ⟨x :: us, []⟩ ((("self" : Str) :: fs).zip (x :: us)))
  nf : ∀ f ∈ fs, findIn K (.ref C) f = some none ∧ (f == ("__debug__" : Str)) = false ∧ (leafScope fs).names.lookup f = some .local ∧ ¬ f = "self"
  nd : (("self" : Str) :: fs).Nodup
  few : fs.length ≤ 10
  ks : (leafScope fs).names.lookup ("super" : Str) = some .globalImplicit
  kc : (leafScope fs).names.lookup ("__class__" : Str) = some .free
  me : mroIn K C (.ref C) = some true
theorem look_mem {k : Str} {v : Value} : ∀ {l : List (Str × Value)}, (l.map (·.1)).Nodup → (k, v) ∈ l → l.lookup k = some v
  | [], _, h => by cases h
  | (a, b) :: l, nd, h => by
    rw [List.map_cons, List.nodup_cons] at nd
    rcases List.mem_cons.mp h with e | h
    · cases e
      simp [List.lookup]
    · have ne : ¬ k = a := fun z => nd.1 (by rw [← z]; exact List.mem_map_of_mem (f := (·.1)) h)
      have e : (k == a) = false := by simpa using ne
      show (match k == a with | true => some b | false => l.lookup k) = some v
      rw [e]
      exact look_mem nd.2 h
theorem look_rev {k : Str} {v : Value} {l : List (Str × Value)} (nd : (l.map (·.1)).Nodup) (h : (k, v) ∈ l) : l.reverse.lookup k = some v :=
  look_mem (by rw [List.map_reverse]; exact List.pairwise_reverse.mpr (nd.imp fun z => Ne.symm z)) (List.mem_reverse.mpr h)
theorem keys_zip {fs : List Str} {us : List Value} (h : us.length = fs.length) : (fs.zip us).map (·.1) = fs := by
  rw [List.map_fst_zip (by omega)]
section
variable {prog : Program} {w : World} {A : Around} {E : Value → Shared → Prop} {R : Result → Shared → Prop} {s : Shared} {K : Frag} {mg mb : Str → Option Value} {C fV fI : Addr} {nm : Str} {fs : List Str}
/-- what __init__ leaves of the fresh exception at x -/
structure Inited (h h' : Heap) (x C dx t0 : Addr) (nm : Str) (kvs : List (Str × Value)) : Prop where
  keep : ∀ b o, b ≠ x → h.get? b = some o → h'.get? b = some o
  obj : h'.get? x = some { cls := .ref C, dict := some dx, data := .fields #[.ref t0, .none, .none, .none, .bool false, .none] }
  big : h.objs.size ≤ dx
  ne : dx ≠ x
  ns : ∃ tk, h'.Ns1 dx (putNs kvs (fun y => if y = "word" then some (.str (Txt.lower nm) tk) else none))
theorem init_leaf (T : Leaf prog K mg C fV fI nm fs) (G : s.heap.Ns mainGlobals mg) (B : s.heap.Ns builtinsNs mb) (hb : mb "super" = bootBuiltins "super") {x t0 : Addr} {us : List Value} (hus : us.length = fs.length)
    (X : K.In s.heap) (hlim : s.heap.NoLimit) (hx : s.heap.get? x = some (excO C t0)) (hKx : K.lookup x = none) (hgx : mainGlobals ≠ x) (hroom : A.depth + 1 < recursionLimit)
    (hq : ∀ h' tk dx, Inited s.heap h' x C dx t0 nm (fs.zip us) → R (.ok (.ret .none)) { s with heap := h', toks := tk }) :
    codeAny (model prog w) A (.call (.ref fI) ⟨.ref x :: us, []⟩) R s := by
  obtain ⟨qual, oc, od, doc, pm, an, ct, osl, cda, cc, p, ps, r, st, ccl, cdd, ccs, vs, tf, cl, cld, csl, ho, hcd, hca, hfile, hln, hcc, hst, hbd⟩ := T.fn
  obtain ⟨cd, hcl, hre, hdi⟩ := T.kind.cd
  obtain ⟨qq, N, bs, bm, sn, sub, ab, col, dd, k0, k1, k3, k5, tk0, hC, hbm⟩ := T.kind.cls
  have hcd' : cd = { name := nm, bases := bs, mro := .ref C :: bm, ns := N, qualname := qq, hasDict := true, slotNames := sn, subclasses := sub, abstract := ab, collection := col, hasDel := false } := by
    have e := hcl
    unfold clsIn at e
    rw [hC] at e
    exact (Option.some.inj e).symm
  refine ks_codeAny_call_defAt (binds := (("self" : Str) :: fs).zip (.ref x :: us)) (by omega) (X _ _ ho) rfl hlim (codeRec_of X hcd) rfl (hbd s _ us hus) ?c1 ?c2 (fun h₁ hns hk₁ => ?_) rfl rfl rfl
  case c1 =>
    intro y hy
    have hy' : y ∈ (PySem.Str.ofString "self", NameKind.local) :: (fs.map (fun f => (f, NameKind.local)) ++ [(PySem.Str.ofString "__class__", .free), (PySem.Str.ofString "super", .globalImplicit)]) := hy
    rcases List.mem_cons.mp hy' with e | h
    · rw [e]
      exact fun z => NameKind.noConfusion z
    · rcases List.mem_append.mp h with h | h
      · obtain ⟨f, _, e⟩ := List.mem_map.mp h
        rw [← e]
        exact fun z => NameKind.noConfusion z
      · rcases List.mem_cons.mp h with e | h
        · rw [e]
          exact fun z => NameKind.noConfusion z
        · rcases List.mem_cons.mp h with e | h
          · rw [e]
            exact fun z => NameKind.noConfusion z
          · cases h
  case c2 =>
    rintro ⟨y, u⟩ hy
    rcases List.mem_cons.mp (List.of_mem_zip hy).1 with e | h
    · rw [show y = "self" from e]
      rfl
    · exact (T.nf y h).2.2.1
  have X₁ : K.In h₁ := X.keeps hk₁
  have ndz : ((((("self" : Str) :: fs).zip (.ref x :: us)).map (·.1))).Nodup := by
    rw [keys_zip (by rw [List.length_cons, List.length_cons, hus])]
    exact T.nd
  have hx₁ := hk₁ _ _ hx
  refine ks_wpAt_execs_cons (ks_wpAt_Expr_any (ks_wpAt_MethodCall (pl := ?pl) (h := ?_) (he := ?he)))
  case he =>
    rw [arm_eval_Call]
    unfold methodCall
    have hp : ∀ env : Env, methodCallPos true (.Call (.Name "super" (r 0)) [] [] (r 1)) env (r 2) (r 3) = pure (r 3) := fun env => by
      unfold methodCallPos
      simp [hln]
    have hf : ∀ (env : Env), methodCallForm 0 (backTo (r 3) (starEach [] env)) (backToKw (r 3) (keywordEach [] env)) = true := fun _ => rfl
    show (do
      let ov ← attributeBase _ _ _ _
      standAt (r 2).atName
      let (f, first) ← holding [ov] (getMethod ov "__init__" _)
      let cp ← methodCallPos true _ _ (r 2) (r 3)
      callWith cp f first _ _) = _
    simp only [hp, pure_bind]
    rfl
  refine ks_wpAt_super_base (f := fI) (cc := cda) (ar := { arg := "self", annotation := none, pos := p }) ?s1 ?s2 (by decide) rfl (X₁ _ _ ho) rfl rfl rfl (X₁ _ _ hca) rfl hfile (by simp) T.top ?_
  case s1 => exact T.ks
  case s2 => exact T.kc
  refine ks_loadName_global rfl ?s3 (loadGlobal_builtin (mb := mb) ?g1 T.ms ?g2 ?g3 ⟨rfl, ?_⟩)
  case s3 => exact T.ks
  case g1 => exact G.keeps hk₁
  case g2 => exact B.keeps hk₁
  case g3 => exact hb.trans (by first | boot_by_name | rfl | kernel_rfl)
  refine wpAny_loadName_free rfl ?s4 rfl ⟨_, X₁ _ _ hcc, rfl⟩ ?_
  case s4 => exact T.kc
  refine wpAny_loadName_local (v := .ref x) rfl ?s5 hns (look_rev ndz (by rw [List.zip_cons_cons]; exact List.mem_cons_self)) ?_
  case s5 => rfl
  have hD : h₁.get? C = _ := X₁ _ _ hC
  refine ks_wpAny_isType_cls hD rfl ⟨rfl, ?_⟩
  have hsub : Looks (model prog w) h₁ (isSubtype (.ref C) (.ref C)) true := looks_mroIn X₁ T.me
  refine ks_wpAny_call_super hD rfl hx₁ rfl (fun c e => by cases e) hsub (fun h₂ hso k₂ => ?_)
  have X₂ : K.In h₂ := X₁.keeps k₂
  have hx₂ := k₂ _ _ hx₁
  have I₂ : W.InstAt h₂ x (excO C t0) C none := ⟨hx₂, rfl, rfl, trivial⟩
  have hal : alongIn K "__init__" ((cd.mro.dropWhile (· != .ref C)).drop 1) = some (some (.ref fV)) := by
    have e := T.up
    unfold ks_superIn at e
    rw [hcl] at e
    exact e
  obtain ⟨of, hof, hofc⟩ : ∃ of, h₂.get? fV = some of ∧ of.cls = .type "function" := by
    have ht' : (K.lookup fV).map (·.cls) = some (.type "function") := T.root.ty
    cases z : K.lookup fV with
    | none => rw [z] at ht'; cases ht'
    | some of => rw [z] at ht'; exact ⟨of, X₂ _ _ z, Option.some.inj ht'⟩
  refine ks_wpAny_getMethod_super hso (looks_opaque X₂ T.kind.th) (l₀ := cd.mro) (fun A Q E s k q => wpAny_bind ((looks_clsIn X₂ hcl) A _ E s k (wpAny_pure q))) rfl X₂ hal hof hofc (ks_ne X₂ I₂ hcl) (by decide) ?_
  have k₃ : ∀ b o, h₂.get? b = some o → (h₂.push { cls := .type "method", data := .fields #[.ref fV, .ref x] }).get? b = some o := fun b o e => Heap.get?_push_of_some _ e
  have hbm' : (h₂.push { cls := .type "method", data := .fields #[.ref fV, .ref x] }).get? h₂.objs.size = some (methodObj (.ref fV) (.ref x)) := Heap.get?_push_at rfl rfl
  have X₃ := X₂.keeps k₃
  have hx₃ := k₃ _ _ hx₂
  have k13 : ∀ b o, h₁.get? b = some o → (h₂.push { cls := .type "method", data := .fields #[.ref fV, .ref x] }).get? b = some o := fun b o e => k₃ b o (k₂ b o e)
  refine callWith_of (P := MethP K h₂.objs.size fV (.ref x)) rfl (fun h X => keeps_M T.fV h X) (evalArgs_nil3 ⟨⟨hbm', X₃⟩, ?_⟩)
  refine wpAny_call (ks_codeAny_call_bound hbm' ?_)
  refine init_root T.root T.kind X₃ (hlim.keeps fun b o e => k13 b o (hk₁ b o e)) hx₃ (by exact hroom) (fun h₄ tk₄ dx BG => ?_)
  have hLx : s.heap.objs.size ≠ x := fun z => absurd (Heap.lt_size hx) (by rw [← z]; exact Nat.lt_irrefl _)
  have X₄ : K.In h₄ := In_but X₃ hKx BG.keep
  have hn₄ := (hns.keeps k13).at fun o e => BG.keep _ _ hLx e
  have hKd : K.lookup dx = none := notIn_of X₃ BG.big
  have hLd : s.heap.objs.size ≠ dx := fun z => by
    have h1 := (hns.keeps k13).lt
    have h2 := BG.big
    rw [z] at h1
    exact absurd (Nat.lt_of_lt_of_le h1 h2) (Nat.lt_irrefl _)
  obtain ⟨tw, hw⟩ := BG.ns
  have hin : ∀ p ∈ fs.zip us, p.1 ∈ fs := fun p hp => (List.of_mem_zip hp).1
  refine wpAt_of_wpAny ?_
  refine stores_ok T.kind (m := fun y => (((("self" : Str) :: fs).zip (Value.ref x :: us)).reverse.lookup y)) rfl (look_rev ndz (by rw [List.zip_cons_cons]; exact List.mem_cons_self)) rfl hKd BG.ne.symm hLd (fs.zip us) st _ ["word"] _ (by rw [keys_zip hus]; exact hst) (fun p hp => ?_) X₄ hn₄ BG.obj hw (Within.cons ("word" : Str) _ Within.nil) ?_ fun h₅ tk₅ k₅ n₅ => ?_
  · obtain ⟨a1, a2, a3, _⟩ := T.nf p.1 (hin p hp)
    exact ⟨look_rev ndz (by rw [List.zip_cons_cons]; exact List.mem_cons_of_mem _ hp), a1, a3, a2⟩
  · have h1 : (fs.zip us).length ≤ fs.length := by
      rw [List.length_zip]
      exact Nat.min_le_left _ _
    have h2 := T.few
    rw [List.length_cons, List.length_nil]
    omega
  · refine hq h₅ tk₅ dx ⟨fun b o hb e => ?_, ?_, ?_, BG.ne, tw, n₅⟩
    · have e1 := k13 b o (hk₁ b o e)
      exact k₅ b o (fun z => absurd (Heap.lt_size e1) (by rw [z]; exact Nat.not_lt.mpr BG.big)) (BG.keep b o hb e1)
    · exact k₅ _ _ BG.ne.symm BG.obj
    · have h1 := (hns.keeps k13).lt
      exact Nat.le_of_lt (Nat.lt_of_lt_of_le h1 BG.big)
end
end VX
end PySem

set_option Elab.async false
set_option linter.all false
set_option maxRecDepth 100000
set_option maxHeartbeats 2000000
namespace PySem
namespace VX
open PySem.W PySem.Calls PyProof.Rows PySem.HandSPX
section
variable {prog : Program} {w : World} {A : Around} {E : Value → Shared → Prop} {R : Result → Shared → Prop} {s : Shared} {K : Frag} {mg mb : Str → Option Value} {C fV fI : Addr} {nm : Str} {fs : List Str}
/-- a made exception -/
structure Thrown (h h' : Heap) (e C d : Addr) (nm : Str) (kvs : List (Str × Value)) : Prop where
  keep : ∀ b o, h.get? b = some o → h'.get? b = some o
  new : h.objs.size ≤ e
  obj : ∃ oe vs, h'.get? e = some oe ∧ oe.cls = .ref C ∧ oe.dict = some d ∧ oe.data = .fields vs ∧ vs[1]? = some .none ∧ vs[2]? = some .none
  big : h.objs.size ≤ d
  ne : d ≠ e
  ns : ∃ tk, h'.Ns1 d (putNs kvs (fun y => if y = "word" then some (.str (Txt.lower nm) tk) else none))
theorem leaf_made (T : Leaf prog K mg C fV fI nm fs) (G : s.heap.Ns mainGlobals mg) (B : s.heap.Ns builtinsNs mb) (hb : mb "super" = bootBuiltins "super") {us : List Value} (hus : us.length = fs.length)
    (X : K.In s.heap) (hlim : s.heap.NoLimit) (hroom : A.depth + 2 < recursionLimit)
    (hq : ∀ h' tk e d, Thrown s.heap h' e C d nm (fs.zip us) → R (.ok (.ret (.ref e))) { s with heap := h', toks := tk }) :
    codeAny (model prog w) A (.call (.ref C) ⟨us, []⟩) R s := by
  obtain ⟨qq, N, bs, bm, sn, sub, ab, col, dd, k0, k1, k3, k5, tk0, hC, hbm⟩ := T.kind.cls
  obtain ⟨hp, g, dr, tk, os⟩ := s
  have k : ∀ b o, hp.get? b = some o → ((hp.push (kdv_tup us)).push (excO C hp.objs.size)).get? b = some o := fun b o e => Heap.get?_push_of_some _ (Heap.get?_push_of_some _ e)
  have hget : ((hp.push (kdv_tup us)).push (excO C hp.objs.size)).get? (hp.objs.size + 1) = some (excO C hp.objs.size) := by heap_get
  have hnx : K.lookup (hp.objs.size + 1) = none := notIn_of X (Nat.le_succ _)
  have hsz : us.length ≤ sizeLine := by
    rw [hus, sizeLine_eq]
    have := T.few
    omega
  refine call_own F.excBase_ValueError (fun Y => refsVE_contains Y bm hbm) (X _ _ hC) (looks_findIn X T.iC) (fun self => bind_fn X self T.tI) hsz ?_
  refine init_leaf (s := ⟨(hp.push (kdv_tup us)).push (excO C hp.objs.size), g, dr, tk, os⟩) T (G.keeps k) (B.keeps k) hb hus (X.keeps k) (hlim.keeps k) hget hnx (fun z => ?_) ?_ fun h' tk' dx M => ?_
  · have h1 := G.lt
    rw [z] at h1
    exact absurd (Nat.lt_of_succ_lt h1) (Nat.lt_irrefl _)
  · rw [L2.make_depth]
    omega
  · have old : ∀ b o, hp.get? b = some o → h'.get? b = some o := fun b o e => M.keep b o (Nat.ne_of_lt (Nat.lt_succ_of_lt (Heap.lt_size e))) (k b o e)
    have z : hp.objs.size + 1 + 1 ≤ dx := by
      have q := M.big
      rw [Heap.size_push, Heap.size_push] at q
      exact q
    exact ⟨rfl, hq h' tk' (hp.objs.size + 1) dx ⟨old, Nat.le_succ _, ⟨_, _, M.obj, rfl, rfl, rfl, rfl, rfl⟩, Nat.le_trans (Nat.le_trans (Nat.le_succ _) (Nat.le_succ _)) z, M.ne, M.ns⟩⟩
end
end VX
end PySem
namespace L2
open PySem PySem.Spec PyProof.Rows
/-- the exception's own dict: the fields laid one by one -/
def putV : List (Str × V) → List (Str × V) → List (Str × V)
  | [], l => l
  | (f, v) :: r, l => putV r ((f, v) :: l)
theorem relO_putV : ∀ {fs : List Str} {vs : List V} {us : List Value} {l : List (Str × V)} {m : Str → Option Value}, Vals vs us → (∀ g, RelO (l.lookup g) (m g)) → ∀ g, RelO ((putV (fs.zip vs) l).lookup g) (PySem.VX.putNs (fs.zip us) m g)
  | [], vs, us, l, m, _, h, g => by
    rw [List.zip_nil_left, List.zip_nil_left]
    exact h g
  | f :: fs, _, _, l, m, .nil, h, g => by
    rw [List.zip_nil_right, List.zip_nil_right]
    exact h g
  | f :: fs, _, _, l, m, .cons r t, h, g => by
    rw [List.zip_cons_cons, List.zip_cons_cons]
    exact relO_putV t (relO_put r h) g
section
variable {X : Cx} {C fV fI : Addr} {nm : Str} {fs : List Str}
def excD (fs : List Str) (nm : Str) (vs : List V) : List (Str × V) := putV (fs.zip vs) [(("word" : Str), V.str (Txt.lower nm))]
/-- C(e, ..) -/
def tMkL (C : Addr) (fs : List Str) (nm : Str) (ta : TA) : St → Hp → XK → Prop := fun σ H Q => ta σ H fun vs H1 => vs.length = fs.length ∧ ∀ d, H1 d = none → Q (.ref C) (some d) (upd H1 d (.xd (excD fs nm vs)))
theorem pmk_leaf {x : Str} {a : Expr} {es : List Expr} {ta : TA} {p pos : Pos} {k : Nat} (T : PySem.VX.Leaf X.prog X.K X.mg C fV fI nm fs) (hr : Room k X.A) (ha : PA X (a :: es) ta) (hg : Gl X x) (hm : X.mg x = some (.ref C)) (hdb : (x == ("__debug__" : Str)) = false := by decide)
    (he : starEach (a :: es) X.env = (false, eval a X.env) :: starEach es X.env := by rfl) (hpl : (backTo pos (starEach es X.env)).any (·.1) = false := by rfl) :
    PMk X (.Call (.Name x p) (a :: es) [] pos) (tMkL C fs nm ta) := by
  intro pins s σ H Q I h
  refine wpAny_Call_Name_kw (ld_glob I hg hm ?_ hdb)
  refine PySem.W.callWith_K (h₀ := X.base) I.ok.mod.kin T.kind.kp (thn (ha.run pos pins s σ H _ I h) fun us s1 hh => ?_) he hpl
  obtain ⟨vs, H1, I1, r1, hl, q1⟩ := hh
  refine ⟨I1.kIn, ?_⟩
  show wpAny _ _ (call (.ref C) us) _ _ _
  have hlim := I1.nolimit
  obtain ⟨mb, hmb, hbb⟩ := I1.ok.mod.blt
  have hus : us.length = fs.length := by rw [← r1.length, hl]
  have KI := I1.kIn
  have Gs := I1.ok.mod.glob.keeps I1.bk
  have Bs := hmb.keeps I1.bk
  obtain ⟨hp, g, dr, tk, os⟩ := s1
  refine wpAny_call (PySem.VX.leaf_made T Gs Bs (hbb _ (by decide)) hus KI hlim (by have := hr.dp; omega) fun h' tk' e d M => ?_)
  show MkP X pins σ Q (.ref e) ⟨h', g, dr, tk', os⟩
  obtain ⟨oe, fv, hoe, hc, hd, hdat, h1, _⟩ := M.obj
  obtain ⟨tw, hns⟩ := M.ns
  obtain ⟨G', g1, g2⟩ := restrict h' fun b => decide (b ≠ e)
  have gk : ∀ b, b ≠ e → G'.get? b = h'.get? b := fun b hb => g1 b (decide_eq_true hb)
  have ge : G'.get? e = none := g2 e (by simp)
  have old : ∀ b o, hp.get? b = some o → G'.get? b = some o := fun b o q => (gk b (Nat.ne_of_lt (Nat.lt_of_lt_of_le (Heap.lt_size q) M.new))).trans (M.keep b o q)
  have ob : ObjOk X.prog X.w (upd H1 d (.xd (excD fs nm vs))) G' d (.xd (excD fs nm vs)) :=
    ⟨_, hns.at (fun o q => (gk d M.ne).trans q), relO_putV r1 (relO_put (fs := []) ⟨tw, rfl⟩ fun g => True.intro)⟩
  have J : Inv X pins σ (upd H1 d (.xd (excD fs nm vs))) ⟨G', g, dr, tk', os⟩ := I1.laid (t' := tk') old M.big ob
  refine ⟨e, oe, fv, ⟨G', g, dr, tk', os⟩, _, .ref C, some d, rfl, J, fun b o q => ?_, ge, hoe, ⟨hc, hd⟩, hdat, h1, ?_, rfl, I1.bare, raises_own T.kind.ex T.kind.ty, q1 d (I1.hok.fresh M.big)⟩
  · by_cases hb : b = e
    · have q' : G'.get? b = some o := q
      rw [hb, ge] at q'
      cases q'
    · exact (gk b hb).symm.trans q
  · rw [upd_ne (Ne.symm M.ne)]
    exact I1.hok.fresh M.new
/-- raise C(e, ..) -/
def tRaiseL (C : Addr) (fs : List Str) (nm : Str) (W : WX) (ta : TA) : TS := fun _ σ H => tMkL C fs nm ta σ H fun cls d H' => W cls d σ H'
theorem ps_raiseL {x : Str} {a : Expr} {es : List Expr} {ta : TA} {W : WX} {p pos pos2 : Pos} {k : Nat} (hc : X.calm = true) (T : PySem.VX.Leaf X.prog X.K X.mg C fV fI nm fs) (hr : Room k X.A) (tk : Takes X W) (hm : X.mg x = some (.ref C)) (ha : PA X (a :: es) ta) (hg : Gl X x := by rfl)
    (hdb : (x == ("__debug__" : Str)) = false := by decide) (he : starEach (a :: es) X.env = (false, eval a X.env) :: starEach es X.env := by rfl) (hpl : (backTo pos (starEach es X.env)).any (·.1) = false := by rfl) :
    PS X (.Raise (some (.Call (.Name x p) (a :: es) [] pos)) none pos2) (tRaiseL C fs nm W ta) := ps_raise hc tk (pmk_leaf T hr ha hg hm hdb he hpl)
end
end L2

set_option Elab.async false
set_option linter.all false
set_option maxRecDepth 100000
set_option maxHeartbeats 2000000
/-! ### raise, with the context told -/
namespace L2
open PySem PySem.Spec PyProof.Rows
section
variable {X : Cx} {C fV fI : Addr} {nm : Str} {fs : List Str}
theorem pmk_leafN {x : Str} {a : Expr} {es : List Expr} {ta : TA} {p pos : Pos} {k : Nat} (T : PySem.VX.Leaf X.prog X.K X.mg C fV fI nm fs) (hr : Room k X.A) (ha : PA X (a :: es) ta) (hg : Gl X x) (hm : X.mg x = some (.ref C)) (hdb : (x == ("__debug__" : Str)) = false := by decide)
    (he : starEach (a :: es) X.env = (false, eval a X.env) :: starEach es X.env := by rfl) (hpl : (backTo pos (starEach es X.env)).any (·.1) = false := by rfl) :
    L2N.PMk X (.Call (.Name x p) (a :: es) [] pos) (tMkL C fs nm ta) := by
  intro pins s σ H Q I h
  refine wpAny_Call_Name_kw (ld_glob I hg hm ?_ hdb)
  refine PySem.W.callWith_K (h₀ := X.base) I.ok.mod.kin T.kind.kp (thn (ha.run pos pins s σ H _ I h) fun us s1 hh => ?_) he hpl
  obtain ⟨vs, H1, I1, r1, hl, q1⟩ := hh
  refine ⟨I1.kIn, ?_⟩
  show wpAny _ _ (call (.ref C) us) _ _ _
  have hlim := I1.nolimit
  obtain ⟨mb, hmb, hbb⟩ := I1.ok.mod.blt
  have hus : us.length = fs.length := by rw [← r1.length, hl]
  have KI := I1.kIn
  have Gs := I1.ok.mod.glob.keeps I1.bk
  have Bs := hmb.keeps I1.bk
  obtain ⟨hp, g, dr, tk, os⟩ := s1
  refine wpAny_call (PySem.VX.leaf_made T Gs Bs (hbb _ (by decide)) hus KI hlim (by have := hr.dp; omega) fun h' tk' e d M => ?_)
  show L2N.MkP X pins σ Q (.ref e) ⟨h', g, dr, tk', os⟩
  obtain ⟨oe, fv, hoe, hc, hd, hdat, h1, h2⟩ := M.obj
  obtain ⟨tw, hns⟩ := M.ns
  obtain ⟨G', g1, g2⟩ := restrict h' fun b => decide (b ≠ e)
  have gk : ∀ b, b ≠ e → G'.get? b = h'.get? b := fun b hb => g1 b (decide_eq_true hb)
  have ge : G'.get? e = none := g2 e (by simp)
  have old : ∀ b o, hp.get? b = some o → G'.get? b = some o := fun b o q => (gk b (Nat.ne_of_lt (Nat.lt_of_lt_of_le (Heap.lt_size q) M.new))).trans (M.keep b o q)
  have ob : ObjOk X.prog X.w (upd H1 d (.xd (excD fs nm vs))) G' d (.xd (excD fs nm vs)) :=
    ⟨_, hns.at (fun o q => (gk d M.ne).trans q), relO_putV r1 (relO_put (fs := []) ⟨tw, rfl⟩ fun g => True.intro)⟩
  have J : Inv X pins σ (upd H1 d (.xd (excD fs nm vs))) ⟨G', g, dr, tk', os⟩ := I1.laid (t' := tk') old M.big ob
  refine ⟨e, oe, fv, ⟨G', g, dr, tk', os⟩, _, .ref C, some d, rfl, J, fun b o q => ?_, ge, hoe, ⟨hc, hd, fun vs e => ?_⟩, hdat, h1, ?_, rfl, I1.bare, raises_own T.kind.ex T.kind.ty, q1 d (I1.hok.fresh M.big)⟩
  · by_cases hb : b = e
    · have q' : G'.get? b = some o := q
      rw [hb, ge] at q'
      cases q'
    · exact (gk b hb).symm.trans q
  · rw [hdat] at e
    cases e
    exact h2
  · rw [upd_ne (Ne.symm M.ne)]
    exact I1.hok.fresh M.new
theorem ps_raiseN {x : Str} {a : Expr} {es : List Expr} {ta : TA} {W : WX} {p pos pos2 : Pos} {k : Nat} (hc : X.calm = true) (T : PySem.VX.Leaf X.prog X.K X.mg C fV fI nm fs) (hr : Room k X.A) (tk : L2N.Takes X W) (hm : X.mg x = some (.ref C)) (ha : PA X (a :: es) ta) (hg : Gl X x := by rfl)
    (hdb : (x == ("__debug__" : Str)) = false := by decide) (he : starEach (a :: es) X.env = (false, eval a X.env) :: starEach es X.env := by rfl) (hpl : (backTo pos (starEach es X.env)).any (·.1) = false := by rfl) :
    PS X (.Raise (some (.Call (.Name x p) (a :: es) [] pos)) none pos2) (tRaiseL C fs nm W ta) := L2N.ps_raise hc tk (pmk_leafN T hr ha hg hm hdb he hpl)
end
/-! ### defs that are handed the handled exception, within its suite -/
open L2H
/-- as FnOk, the handled exception p told to the promise -/
structure FnE (P : Program) (w : World) (K : PySem.W.Frag) (mg : Str → Option Value) (base : Heap) (k : Nat) (f : Addr) (fd : FuncData) (ps : List Str) (sp : Addr × Obj → Sp) : Prop where
  len : ∀ p vs H Q E, sp p vs H Q E → vs.length = ps.length
  run : ∀ (A : Around) (outer : List Env) (s : Shared) (H : Hp) (args : Args) (us : List Value) (vs : List V) (Q : VK) (E : XK) (p : Addr × Obj), RoomH k A → Hot1 A p → PinOk outer H s p → Env0 P w K mg base A outer s H → BindsTo s fd args (ps.zip us) → Vals vs us → sp p vs H Q E →
    codeAny (model P w) A (.call (.ref f) args) (CR CX0 outer P w H s Q E) s
theorem Fun.okE {P : Program} {w : World} {K : PySem.W.Frag} {mg : Str → Option Value} {base : Heap} {x qual : Str} {st : Stmt} {f : Addr} {fd : FuncData} {N ps : List Str} {k : Nat} {sp : Addr × Obj → Sp} (F : Fun K x qual st f fd) (S : FnScope N ps (defScope st)) (len : ∀ p vs H Q E, sp p vs H Q E → vs.length = ps.length)
    (hbody : ∀ (cdv : Value) (A : Around) (outer : List Env) (s : Shared) (H : Hp) (vs : List V) (Q : VK) (E : XK) (p : Addr × Obj), Hot1 A p → RoomH k (A.deeper (envOfC qual (defScope st) s.heap.objs.size f cdv)) → sp p vs H Q E →
      ∃ t, PSs (cxH CX0 P w K mg base N qual (defScope st) f cdv A outer s H E p).nox (defBody st) t ∧ t { nx := fun _ H' => Q .non H', rt := Q } (start N vs) H) : FnE P w K mg base (k + 1) f fd ps sp := by
  obtain ⟨oc, od, kV, doc, pm, an, cdv, ct, osl, rfl, lk, hcd⟩ := F.ex
  refine ⟨len, fun A outer s H args us vs Q E p hr hot hpin e0 hb r hsp => ?_⟩
  have hl := len _ _ _ _ _ hsp
  have KX : K.In s.heap := e0.mod.kin.keeps fun b o e => (e0.bs b o e).1
  have lim : s.heap.NoLimit := e0.mod.nolimit.keeps fun b o e => (e0.bs b o e).1
  have hkind : ∀ y ∈ ps.zip us, (defScope st).names.lookup y.1 = some .local ∨ ((defScope st).names.lookup y.1 = some .cell ∧ ((cellsFrom (s.heap.objs.size + 1) (defScope st).names []).lookup y.1).isSome = true) := fun ⟨n, v⟩ hy =>
    (S.par n (List.of_mem_zip hy).1).elim .inl fun q => .inr ⟨q, PySem.W.cellsFrom_some _ _ _ (.inl q)⟩
  refine codeAny_call_function hr.depth (KX _ _ lk) rfl S.co S.gen rfl (PySem.W.codeRec_of KX hcd) (hb _ _ _ _ ?_)
  refine wpAny_newFunctionEnv_cells S.kind hkind fun env he s1 y => ?_
  subst he
  refine ⟨lim.keeps y.toInCall.keep, codeAny_func ?_⟩
  obtain ⟨t, ht, hq⟩ := hbody cdv A outer s H vs Q E p hot (hr.deeper _) hsp
  have I := inv_startH (CX := CX0) (E := E) S hpin e0 hl r y
  refine wpAny_mono (ht.nox.run [] s1 (start N vs) H _ I hq) (fun fl s' hs => ?_) fun e s' hs => hs
  cases fl with
  | ret u =>
    obtain ⟨v, σ', H', J, rv, q⟩ := hs
    exact ⟨v, H', J.os, J.bare, J.base, J.hok, rv, q⟩
  | next =>
    obtain ⟨σ', H', J, q⟩ := hs
    exact ⟨V.non, H', J.os, J.bare, J.base, J.hok, rfl, q⟩
  | brk =>
    obtain ⟨_, _, _, q⟩ := hs
    exact False.elim q
  | cont =>
    obtain ⟨_, _, _, q⟩ := hs
    exact False.elim q
section
variable {X : Cx} {k : Nat} {f : Addr} {fd : FuncData} {ps : List Str} {sp : Addr × Obj → Sp} {x : Str} {q pos : Pos} {e : Expr} {es : List Expr} {t : TA}
/-- f(e, ..) within the suite (or within a def called there); p the handled exception -/
def tCallE (sp : Addr × Obj → Sp) (p : Addr × Obj) (t : TA) : TE := fun σ H Q => t σ H fun vs H1 => sp p vs H1 Q E0
theorem pe_callE {p : Addr × Obj} (F : FnE X.prog X.w X.K X.mg X.base k f fd ps sp) (hr : RoomH k X.A) (hot : Hot1 X.A p) (hp : p ∈ X.pn) (hg : Gl X x) (hm : X.mg x = some (.ref f)) (hk : PySem.W.keepIn X.K (.ref f) = true) (hb : Binds X.K fd ps [])
    (ha : PA X (e :: es) t) (hdb : (x == ("__debug__" : Str)) = false := by decide) (he : starEach (e :: es) X.env = (false, eval e X.env) :: starEach es X.env := by rfl) (hpl : (backTo pos (starEach es X.env)).any (·.1) = false := by rfl) :
    PE X (.Call (.Name x q) (e :: es) [] pos) (tCallE sp p t) := by
  refine ⟨fun pins s σ H Q I h => ?_⟩
  refine wpAny_Call_Name_kw (ld_glob I hg hm ?_ hdb)
  refine PySem.W.callWith_K (h₀ := X.base) I.ok.mod.kin hk (thn (ha.run pos pins s σ H _ I h) fun us s1 ⟨vs, H1, J, r, hsp⟩ => ⟨J.kIn, ?_⟩) he hpl
  have hl : us.length = ps.length := by rw [← r.length]; exact F.len _ _ _ _ _ hsp
  have b := hb s1 us J.kIn (by rw [List.append_nil]; exact hl)
  rw [List.append_nil] at b
  have P1 := J.pin p (List.mem_append_left _ hp)
  have hpin : PinOk X.stack H1 s1 p := ⟨P1.1, P1.2.1, fun hm => (List.mem_cons.mp (J.stkSub p.1 hm)).elim P1.2.2.1 P1.2.2.2.1, P1.2.2.2.2⟩
  refine wpAny_call (codeAny_mono (F.run X.A X.stack s1 H1 ⟨us, []⟩ us vs Q E0 p hr hot hpin J.env0 b r hsp) fun r s' hq => ?_)
  cases r with
  | error e => exact False.elim hq
  | ok fl =>
    cases fl with
    | ret u => exact J.after hq
    | next => exact False.elim hq
    | brk => exact False.elim hq
    | cont => exact False.elim hq
/-! ### the handled exception's class and fields -/
/-- p is an exception of the class at C, its dict at d -/
def ExP (C d : Addr) (p : Addr × Obj) : Prop := Zc (.ref C) (some d) p.2 ∧ ∃ vs, p.2.data = .fields vs
theorem ExP.inst {C d : Addr} {p : Addr × Obj} {fs : List (Str × V)} {pins : List (Addr × Obj)} {σ : St} {H : Hp} {s : Shared} (z : ExP C d p) (hp : p ∈ X.pn) (I : Inv X pins σ H s) (hd : H d = some (.xd fs)) :
    ∃ od, PySem.W.InstAt s.heap p.1 p.2 C (some od) ∧ ∀ f v, fs.lookup f = some v → ∃ u, PySem.W.lookIn f od = some (some u) ∧ RelV v u := by
  obtain ⟨⟨h1, h2⟩, vs, h3⟩ := z
  have e := (I.pin p (List.mem_append_left _ hp)).1
  have hx : ObjOk X.prog X.w H s.heap d (.xd fs) := I.hok d _ hd
  obtain ⟨mA, hns, hr⟩ := hx
  obtain ⟨od, ho, hl⟩ := lookIn_ns hns
  refine ⟨od, ⟨e, h1, by unfold PySem.W.notCls; rw [h3] <;> rfl, by rw [h2]; exact ho⟩, fun f v hv => ?_⟩
  obtain ⟨u, hu, ru⟩ := RelO.some_of (v := v) (o := mA f) (by rw [← hv]; exact hr f)
  exact ⟨u, by rw [hl, hu], ru⟩
/-- isinstance(e, c), e the pinned exception -/
def rIsP (K : PySem.W.Frag) (C d : Addr) (p : Addr × Obj) : List V → Hp → VK → Prop := fun xs H Q => ∃ (c : V) (cv : Value) (b : Bool) (fs : List (Str × V)), xs = [.ref p.1, c] ∧ (∀ u, RelV c u → u = cv) ∧ PySem.W.kitOne K (.ref C) cv = some b ∧ H d = some (.xd fs) ∧ Q (.bl b) H
theorem call_isP {p : Addr × Obj} {C d : Addr} {nm : Str} (hp : p ∈ X.pn) (T : PySem.VX.Kind X.K C nm) (z : ExP C d p) : CallR X (.builtin "isinstance") (rIsP X.K C d p) := by
  intro pins s σ H xs us Q I r h
  obtain ⟨c, cv, b, fs, rfl, hcv, e, hd, q⟩ := h
  cases r with
  | cons rx rr =>
    cases rr with
    | cons rt rr =>
      cases rr
      cases rx
      have ec := hcv _ rt
      subst ec
      obtain ⟨od, J, _⟩ := z.inst hp I hd
      exact PySem.W.kia_one (PySem.W.kitx_exc T.some T.ga T.gg T.ex T.cl T.sp T.tk T.mo) I.kIn J e (fun z => nomatch z) fun tk => ⟨.bl b, H, I.kept (t' := tk) fun _ _ z => z, rfl, q⟩
/-- e.f, e the pinned exception -/
def tXp (C d : Addr) (p : Addr × Obj) (f : Str) (te : TE) : TE := fun σ H Q => te σ H fun x H1 => x = .ref p.1 ∧ ∃ (fs : List (Str × V)) (v : V), H1 d = some (.xd fs) ∧ fs.lookup f = some v ∧ Q v H1
theorem pe_xp {p : Addr × Obj} {C d : Addr} {nm : Str} {e : Expr} {te : TE} {pos : Pos} {n : Str} (hp : p ∈ X.pn) (T : PySem.VX.Kind X.K C nm) (z : ExP C d p) (hno : PySem.W.findIn X.K (.ref C) n = some none) (he : PE X e te) (hb : attributeBase e n X.env (eval e X.env) = eval e X.env := by rfl) :
    PE X (.Attribute e n pos) (tXp C d p n te) := by
  refine ⟨fun pins s σ H Q I h => ?_⟩
  refine attr_of hb (thn (he.run pins s σ H _ I h) fun u s1 hh => ?_)
  obtain ⟨x, H1, J, rx, ex, fs, v, hd, l, q⟩ := hh
  subst ex
  obtain rfl : u = Value.ref p.1 := rx
  obtain ⟨od, ia, look⟩ := z.inst hp J hd
  obtain ⟨w', hw, rw'⟩ := look n v l
  exact PySem.HandSPX.exc_get J.kIn ia T.ga T.gg T.ex (PySem.W.findObj_own T.hd hno rfl hw) (handed_of rw') ⟨v, H1, J.tok _, rw', q⟩
end
end L2

set_option Elab.async false
set_option linter.all false
set_option maxRecDepth 100000
set_option maxHeartbeats 2000000
namespace HotL
open PySem PySem.Spec PyProof.Rows HotX
section
variable {prog : Program} {w : World} {A : Around} {E : Value → Shared → Prop} {s : Shared}
/-- the end of a list's iterator, an exception being handled -/
theorem list_end_hot {it l x1 : Addr} {i : Nat} {items : Array Value} {Q : Option Value → Shared → Prop} (hot : HotAt A x1 s.heap) (h1i : x1 ≠ it) (hit : s.heap.IsListIter it l i) (hl : s.heap.IsList l items) (hx : items[i]? = none)
    (hQ : ∀ h', (∀ b o, b ≠ it → s.heap.get? b = some o → h'.get? b = some o) → Q none { s with heap := h' }) : wpAny (model prog w) A (pyNext (.ref it)) Q E s := by
  obtain ⟨o, ho, hc, hd⟩ := id hit
  obtain ⟨ol, hol, _, nl, hdl⟩ := hl
  obtain ⟨hh, o1, vs1, h1, d1, c1⟩ := hot
  unfold pyNext
  refine wpAny_bind (wpAny_attempt (wpAny_callSpecial?_slot (name := Str.ofString "__next__") hit.typeIs slot_listiter_next
    (wpAny_call_entry slot_listiter_next hit.typeIs entry_listiter_next ?_ (args_listiter_next _))))
  show wpAny _ _ (field (.ref it) 0 >>= _) _ _ s
  refine wpAny_bind (wpAny_field ho hd (x := .ref l) rfl ?_)
  show wpAny _ _ (if (Value.ref l == Value.none) = true then _ else _) _ _ s
  rw [if_neg (show ¬ ((Value.ref l == Value.none) = true) from Bool.false_ne_true)]
  show wpAny _ _ (field (.ref it) 1 >>= _) _ _ s
  refine wpAny_bind (wpAny_field ho hd (x := .int i 0) rfl ?_)
  show wpAny _ _ (seqItems? (.ref l) >>= _) _ _ s
  refine wpAny_bind (wpAny_seqItems hol hdl ?_)
  simp only [Int.toNat_natCast, hx]
  refine wpAny_bind (wpAny_rule (wpAny_bind (wpAny_setField ho hd (by simp) ?_)))
  show wpAny _ _ (newExc (.type "StopIteration") [] >>= _) _ _ _
  refine wpAny_bind ?_
  simp only [newExc, newTuple]
  refine wpAny_bind (wpAny_newObj_type ?_ (by size_fits))
  refine wpAny_bind (m := firstArgMember _ _) (wpAny_of_eq (a := Value.none) (by first | rfl | (simp only [firstArgMember]; rfl)) ?_)
  refine wpAny_newObj_type ?_ (by size_fits)
  have keep0 : ∀ b u, b ≠ it → s.heap.get? b = some u → (s.heap.update it (Obj.mapFields (·.setIfInBounds 0 .none))).get? b = some u := fun b u hb e => (Heap.get?_update_other _ _ (Ne.symm hb)).trans e
  have h1' := keep0 _ _ h1i h1
  refine raiseNew_hot ⟨hh, o1, vs1, Heap.get?_push_of_some _ (Heap.get?_push_of_some _ h1'), d1, c1⟩ (Nat.ne_of_lt (Heap.lt_size (Heap.get?_push_of_some _ h1'))) (Heap.get?_push_size _ rfl) rfl (by first | (simp; done) | (simp; omega) | (simp only [Array.size_append]; simp; omega)) ?_
  refine wpAny_bind (wpAny_isInstance (T := "StopIteration") (b := true) ⟨_, Heap.get?_update_self _ (Heap.get?_push_size _ rfl) rfl, rfl⟩ isSubtype_stop ?_)
  refine wpAny_pure (hQ _ fun b u hb e => ?_)
  rw [Heap.get?_update_other _ _ (Nat.ne_of_gt (Heap.lt_size (Heap.get?_push_of_some _ (keep0 _ _ hb e))))]
  exact Heap.get?_push_of_some _ (Heap.get?_push_of_some _ (keep0 _ _ hb e))
end
end HotL
namespace L2
open PySem PySem.Spec PyProof.Rows L2H HotX
section
variable {X : Cx}
/-- [elt for tg in iter if ..] over a list, while the exception of p is handled -/
theorem pe_lcE {p : Addr × Obj} {elt tg iter : Expr} {ifs : List Expr} {scope : Scope} {own : List (Str × Nat)} {pos : Pos} {tl : TE} {g : TG} {tt : TT} {te : TE} (hot : Hot1 X.A p) (hp : p ∈ X.pn) (hN : X.N.Nodup) (hl : PE X iter tl) (ok : BlkOk X.N X.env.scope scope own)
    (hg : ∀ (s : Shared) (H : Hp) (C : Addr) (cl : List (Str × Addr)) (fp : List Addr), PG (X.blk s H scope (compEnvC scope cl C X.env) fp) tg g) (ht : ∀ (s : Shared) (H : Hp) (C : Addr) (cl : List (Str × Addr)) (fp : List Addr), PTs (X.blk s H scope (compEnvC scope cl C X.env) fp) ifs tt)
    (he : ∀ (s : Shared) (H : Hp) (C : Addr) (cl : List (Str × Addr)) (fp : List Addr), PE (X.blk s H scope (compEnvC scope cl C X.env) fp) elt te) (hs : ∀ x, foldedSetIterable iter X.env x = pure x := by intro _; rfl) :
    PE X (.ListComp elt [⟨tg, iter, ifs, 0⟩] scope pos) (tLc (iList X.K tl) g tt te (own.map (·.2))) := by
  refine ⟨fun pins s σ H Q I h => ?_⟩
  rw [eval_ListComp]
  obtain ⟨hhd, hvs, hdat, hctx⟩ := hot
  have hfree : ∀ y ∈ scope.names, y.2 = .free → ∃ c, X.env.cells.lookup y.1 = some c := fun y hy e => (ok.free y hy e).elim (fun k => I.ok.has _ (.inl k)) fun k => I.ok.has _ (.inr k)
  refine wpAny_comprehension_free (use := none) rfl hs (closure_ok hfree) ok.kind (fun y hy e => by rw [ok.uniq y hy, e]) (thn (hl.run pins s σ H _ I h) fun v s1 ⟨xv, H1, I1, r1, q1⟩ => ?_)
  obtain ⟨a, ea, ⟨xs0, hq0⟩, q⟩ := q1
  subst ea
  cases r1
  obtain ⟨its0, rv0, pl0, hz0⟩ := I1.list hq0
  refine wpAny_pyIter_list pl0.isList ?_
  generalize hit0 : s1.heap.objs.size = it
  generalize hs2 : ({ s1 with heap := s1.heap.push { cls := .type "list_iterator", data := .fields #[.ref a, .int 0 0] } } : Shared) = s2
  have h2 : s2.heap = s1.heap.push { cls := .type "list_iterator", data := .fields #[.ref a, .int 0 0] } := by rw [← hs2]
  have I2 : Inv X pins σ H1 s2 := by
    rw [← hs2]
    exact I1.kept (t' := s1.toks) fun b o e => Heap.get?_push_of_some _ e
  have st2 : s2.heap.IsListIter it a 0 := by
    rw [h2, ← hit0]
    exact ⟨_, Heap.get?_push_size _ rfl, rfl, rfl⟩
  have f2 : FpOk X pins H1 it := by
    rw [← hit0]
    exact I1.fpOk (Nat.le_refl _) (I1.hok.fresh (Nat.le_refl _))
  refine wpAny_newObj_type (newEnv_comp ?_) (by show 0 ≤ sizeLine; decide)
  generalize hD : s2.heap.objs.size = D
  have hDn : H1 D = none := I2.hok.fresh (Nat.le_of_eq hD)
  obtain ⟨W, ⟨m0, w0⟩, turn⟩ := q D hDn
  generalize hs3 : ({ s2 with heap := s2.heap.push { cls := .type "list", data := .seq ([] : List Value).toArray } } : Shared) = s3
  have h3 : s3.heap = s2.heap.push { cls := .type "list", data := .seq ([] : List Value).toArray } := by rw [← hs3]
  have I3 : Inv X pins σ (upd H1 D (.lst [])) s3 := by
    rw [← hs3]
    refine I2.laid (t' := s2.toks) (fun b o e => Heap.get?_push_of_some _ e) (Nat.le_of_eq hD) ⟨Nat.zero_le _, [], 0, .nil, ?_⟩
    rw [← hD]
    exact Heap.get?_push_size _ rfl
  have itlt : it < s2.heap.objs.size := by
    obtain ⟨o, e, _⟩ := id st2
    exact Heap.lt_size e
  have itD : it ≠ D := by rw [← hD]; exact Nat.ne_of_lt itlt
  have f3 : ∀ b ∈ [it], FpOk X pins (upd H1 D (.lst [])) b ∧ b < s3.heap.objs.size := fun b hb => by
    obtain rfl : b = it := by simpa using hb
    exact ⟨⟨by rw [upd_ne itD]; exact f2.1, f2.2⟩, by rw [h3, Heap.size_push]; exact Nat.lt_succ_of_lt itlt⟩
  have st3 : s3.heap.IsListIter it a 0 := st2.at fun o e => by rw [h3]; exact Heap.get?_push_of_some _ e
  have I4 := block_start I3 ok hN f3
  have pg := hg s3 (upd H1 D (.lst [])) s3.heap.objs.size (cellsFrom (s3.heap.objs.size + 1) scope.names (cloFrom X.env.cells scope.names [])) [it]
  have pt := ht s3 (upd H1 D (.lst [])) s3.heap.objs.size (cellsFrom (s3.heap.objs.size + 1) scope.names (cloFrom X.env.cells scope.names [])) [it]
  have pe := he s3 (upd H1 D (.lst [])) s3.heap.objs.size (cellsFrom (s3.heap.objs.size + 1) scope.names (cloFrom X.env.cells scope.names [])) [it]
  show codeAny _ _ (.compStart (.ListComp elt [⟨tg, iter, ifs, 0⟩] scope pos) 0 (.ref it) (.ref D) (compEnvC scope (cellsFrom (s3.heap.objs.size + 1) scope.names (cloFrom X.env.cells scope.names [])) s3.heap.objs.size X.env)) (compPost (model X.prog X.w) X.A X.xe none _ (.ref D) s3.heap.objs.size) { s3 with heap := pushCells (s3.heap.push { cls := .type "dict", data := .dict #[] }) scope.names }
  have nit : (upd H1 D (.lst [])) it = none := (f3 it (by simp)).1.1
  generalize hce : compEnvC scope (cellsFrom (s3.heap.objs.size + 1) scope.names (cloFrom X.env.cells scope.names [])) s3.heap.objs.size X.env = ce at I4 pg pt pe ⊢
  have cL : ce.locals = s3.heap.objs.size := by subst hce; rfl
  generalize hH3 : upd H1 D (.lst []) = H3 at I3 I4 pg pt pe w0 nit f3
  generalize hs4 : ({ s3 with heap := pushCells (s3.heap.push { cls := .type "dict", data := .dict #[] }) scope.names } : Shared) = s4 at I4 ⊢
  have k34 : ∀ b o, s3.heap.get? b = some o → s4.heap.get? b = some o := fun b o e => by rw [← hs4]; exact pushCells_keeps _ _ _ _ (Heap.get?_push_of_some _ e)
  have st4 : s4.heap.IsListIter it a 0 := st3.at fun o e => k34 _ _ e
  -- the handled exception stands beside
  have P3 := I3.pin p (List.mem_append_left _ hp)
  have plt : p.1 < s3.heap.objs.size := Heap.lt_size P3.1
  have pne : p.1 ≠ it := fun z => (f2.2.2.2.2.2 p (List.mem_append_left _ hp)) z
  have I4' : Inv (X.blk s3 H3 scope ce [it]) [p] (wipe σ (own.map (·.2))) H3 s4 := I4.pins_of fun y hy => by
    obtain rfl : y = p := by simpa using hy
    refine ⟨k34 _ _ P3.1, P3.2.1, ?_, ?_, P3.2.2.2.2⟩
    · show y.1 ≠ ce.locals
      rw [cL]
      exact Nat.ne_of_lt plt
    · intro hm
      have hm' : y.1 ∈ frs X.stack := hm
      exact (List.mem_cons.mp (I3.stkSub y.1 hm')).elim P3.2.2.1 P3.2.2.2.1
  have stat : ∀ {σ' : St} {H' : Hp} {s' : Shared}, Inv (X.blk s3 H3 scope ce [it]) [p] σ' H' s' → H' it = none → FpOk (X.blk s3 H3 scope ce [it]) [p] H' it := fun {σ' H' s'} I' hn =>
    ⟨hn, (I'.ok.exf it (by simp)).1, I'.ok.exfs it (by simp), .inl (by simp), fun x c e => (I'.ok.exf it (by simp)).2 x c e, fun y hy => by
      obtain rfl : y = p := by simpa using hy
      exact pne⟩
  have loop : codeAny (model X.prog X.w) X.A (.compLoop (.ListComp elt [⟨tg, iter, ifs, 0⟩] scope pos) 0 (.ref it) (.ref D) ce) (compPost (model X.prog X.w) X.A X.xe none (EP X pins σ Q) (.ref D) s3.heap.objs.size) s4 := by
    refine compLoop_any (fun n s' => ∃ i H', Inv (X.blk s3 H3 scope ce [it]) [p] (wipe σ (own.map (·.2))) H' s' ∧ s'.heap.IsListIter it a i ∧ H' it = none ∧ W i n H') ?_ m0 ⟨0, H3, I4', st4, nit, w0⟩
    rintro n s5 ⟨i, H5, I5, st5, n5, w5⟩
    obtain ⟨g0, g1, g2, g3, g4, g5⟩ := stat I5 n5
    rcases turn i n H5 w5 with ⟨⟨xs, hq, hx⟩, qq⟩ | ⟨⟨xs, x0, hq, hx⟩, Nx, hNx, step⟩
    · obtain ⟨its, rv, pl, hz⟩ := I5.list hq
      have hl5 := rv.length
      have P5 := (I5.pin p (by simp)).1
      refine HotL.list_end_hot (A := X.A) ⟨hhd, p.2, hvs, P5, hdat, hctx⟩ pne st5 pl.isList (by simp; omega) fun h' eb => ?_
      have I6 := I5.turned (h' := h') (t' := s5.toks) (fun b o hb e => eb b o hb e) g0 g1 g3 g4 g5
      have I7 : Inv X pins σ H5 { s5 with heap := h' } := I3.call' (ch := [it]) I6.os I6.base I6.hok I6.bare fun b hb => ⟨(f3 b hb).1.2.2.2.1, (f3 b hb).1.2.1, (f3 b hb).1.2.2.2.2.1, (f3 b hb).1.2.2.2.2.2⟩
      have nC : H5 s3.heap.objs.size = none := by
        have z : H5 ce.locals = none := I6.free
        rw [cL] at z
        exact z
      obtain ⟨m, hn, _⟩ := I6.loc
      have hn : h'.Ns ce.locals m := hn
      rw [cL] at hn
      obtain ⟨e0, e1, e2, e3, e4, e5⟩ := I3.fpOk (Nat.le_refl _) nC
      exact ⟨m, hn, fun h'' sb => ⟨.ref D, H5, I7.turned (t' := s5.toks) (fun b o hb e => (sb.2 b hb).trans e) e0 e1 e3 e4 e5, rfl, qq⟩⟩
    · obtain ⟨its, rv, pl, hz⟩ := I5.list hq
      obtain ⟨u, hu, ru⟩ := rv.get hx
      refine wpAny_pyNext_list_item st5 pl.isList (x := u) (by simpa using hu) fun h' st' sb => ?_
      have I6 : Inv (X.blk s3 H3 scope ce [it]) [p] (wipe σ (own.map (·.2))) H5 { s5 with heap := h' } := I5.turned (t' := s5.toks) (fun b o hb e => (sb.2 b hb).trans e) g0 g1 g3 g4 g5
      obtain ⟨oi, ei, ci, di⟩ := id st'
      refine go_of (s := { s5 with heap := h' }) ei ci di (by decide) ?_
      have I7 : Inv (X.blk s3 H3 scope ce [it]) ([p] ++ pinsAt [it] h') (wipe σ (own.map (·.2))) H5 { s5 with heap := h' } := I6.pinned (fun b hb => by
        obtain rfl : b = it := by simpa using hb
        exact stat I6 n5) fun b hb => by
        obtain rfl : b = it := by simpa using hb
        exact ⟨oi, ei, fun v z => by rw [di] at z; cases z⟩
      refine thnF (pg.run _ _ _ H5 x0 u _ I7 ru (step x0 H5 ⟨rfl, fun ys hy => by rw [I6.list_inj hy hq]; exact hx⟩)) fun _ s8 ⟨σ8, H8, I8, hw8, q8⟩ => ?_
      refine thnF (pt.run _ s8 σ8 H8 _ I8 q8) fun b s9 ⟨H9, I9, q9⟩ => ?_
      have fin : ∀ {s' : Shared} {H' : Hp}, Inv (X.blk s3 H3 scope ce [it]) ([p] ++ pinsAt [it] h') σ8 H' s' → Nx H' → ∃ m, m < n ∧ ∃ i H', Inv (X.blk s3 H3 scope ce [it]) [p] (wipe σ (own.map (·.2))) H' s' ∧ s'.heap.IsListIter it a i ∧ H' it = none ∧ W i m H' := fun {s' H'} I' nx => by
        obtain ⟨m', hm, w'⟩ := hNx H' nx
        have pin' : ∀ o, h'.get? it = some o → s'.heap.get? it = some o ∧ H' it = none := fun o e =>
          let z := I'.pin (it, o) (List.mem_append_right _ (List.mem_append_right _ (mem_pinsAt (by simp) e)))
          ⟨z.1, z.2.1⟩
        have hl : (wipe σ (own.map (·.2))).length = σ8.length := by rw [← hw8, wipe_length]
        refine ⟨m', hm, i + 1, H', (I'.unpinned (pins := [p])).weak hl (fun j v e => ?_), st'.at fun o e => (pin' o e).1, (pin' oi ei).2, w'⟩
        rw [← hw8] at e
        exact (wipe_some e).1
      cases b with
      | false =>
        simp only [Bool.false_eq_true, if_false] at q9 ⊢
        exact fin I9 q9
      | true =>
        simp only [if_true] at q9 ⊢
        refine thnF (pe.run _ s9 σ8 H9 _ I9 q9) fun z s10 ⟨yv, H10, I10, r10, acc, hD10, hz10, nx⟩ => ?_
        exact app_ok (X := X.blk s3 H3 scope ce [it]) I10 hD10 hz10 r10 fun s11 I11 => fin I11 nx
  exact codeAny_compStart_list loop (wpAny_pyIter_listiter st4 loop)
end
end L2

set_option Elab.async false
set_option linter.all false
set_option maxRecDepth 100000
set_option maxHeartbeats 2000000
namespace VLR
open PySem PySem.Spec PyProof.Rows RT
section
variable {prog : Program} {w : World} {A : Around} {E : Value → Shared → Prop} {s : Shared}
/-- list.__init__(S, reversed list iterator) on an empty list S -/
theorem init_rev {R : Result → Shared → Prop} {it l S : Addr} {items : Array Value} (hh : A.handled = none) (hit : s.heap.IsRevIter it l ((items.size : Int) - 1)) (hl : s.heap.IsList l items) (hne : l ≠ it) (hn : items.size ≤ sizeLine)
    (hS : s.heap.get? S = some { cls := .type "list", data := .seq #[] }) (hSi : S ≠ it) (hSl : S ≠ l)
    (hR : ∀ (h' : Heap) (tk : Nat) (acc : Array Value) (c : Nat), (∀ b o, b ≠ S → b ≠ it → s.heap.get? b = some o → h'.get? b = some o) → h'.get? S = some { cls := .type "list", dict := none, data := .seq acc c, slots := #[] } →
      ItemsOf (fun i v => items[items.size - 1 - i]? = some v) acc items.size → R (.ok (.ret .none)) { s with heap := h', toks := tk }) :
    wpAny (model prog w) A.in1 (Builtin.«list.__init__» ⟨[.ref S, .ref it], []⟩)
      (fun fin s' => match fin with | .done f => R (.ok f) s' | .again c' => c'.quiet = true ∧ codeAny (model prog w) A c' R s') (fun e s' => R (.error e) s') s := by
  have hSf : S ∉ [it, l] := by simp only [List.mem_cons, List.not_mem_nil, or_false, not_or]; exact ⟨hSi, hSl⟩
  have W := (Walks.listRev (prog := prog) (w := w) (A := A.in1) hh it l hne items).toS
  show wpAny _ _ (Builtin.List.listItems (.ref S) >>= fun old => Builtin.List.listUpdate (.ref S) (fun _ => #[]) >>= fun _ => letGo old.toList.reverse >>= fun _ => Builtin.List.listExtendWith (.ref S) (.ref it) .none) _ _ s
  refine wpAny_bind ?_
  unfold Builtin.List.listItems
  refine wpAny_bind (wpAny_seqItems hS rfl (wpAny_pure ?_))
  refine wpAny_bind (m := updateSeq S (fun _ => #[])) (wpAny_updateSeq hS rfl ?_)
  have hS₂ := Heap.get?_update_self (Obj.mapSeq (fun _ => (#[] : Array Value))) hS rfl
  have other : ∀ b o, b ≠ S → s.heap.get? b = some o → (s.heap.update S (Obj.mapSeq (fun _ => (#[] : Array Value)))).get? b = some o := fun b o hb e => (Heap.get?_update_other _ _ (Ne.symm hb)).trans e
  refine wpAny_bind (wpAny_letGo ?_)
  obtain ⟨oi, hoi, ci, di⟩ := id hit
  have hit2 : (s.heap.update S (Obj.mapSeq (fun _ => (#[] : Array Value)))).IsRevIter it l ((items.size : Int) - 1) := hit.at fun o e => other _ _ (Ne.symm hSi) e
  have hl2 : (s.heap.update S (Obj.mapSeq (fun _ => (#[] : Array Value)))).IsList l items := by
    obtain ⟨ol, hol, r⟩ := id hl
    exact ⟨ol, other _ _ (Ne.symm hSl) hol, r⟩
  have hT : ({ s with heap := s.heap.update S (Obj.mapSeq (fun _ => (#[] : Array Value))) } : Shared).TypeIs (.ref it) "list_reverseiterator" := Heap.IsRevIter.typeIs (s := { s with heap := s.heap.update S (Obj.mapSeq (fun _ => (#[] : Array Value))) }) hit2
  have h1 : Builtin.List.listSameRef (.ref S) (.ref it) = false := by simp [Builtin.List.listSameRef, hSi]
  unfold Builtin.List.listExtendWith
  refine wpAny_bind (wpAny_typeOf hT ?_)
  rw [if_neg (by rw [h1]; decide)]
  refine wpAny_bind (wpAny_pyIter_revIter (s := { s with heap := s.heap.update S (Obj.mapSeq (fun _ => (#[] : Array Value))) }) hit2 ?_)
  refine wpAny_bind (wpAny_holding ?_)
  unfold Builtin.List.listLengthHint
  refine wpAny_bind (wpAny_specialOf hT nolen_lri ?_)
  show wpAny _ A.in1 (specialOf (Value.ref it) (Str.ofString "__length_hint__") >>= _) _ _ _
  refine wpAny_bind (wpAny_specialOf hT hint_lri ?_)
  generalize hid : ("list_reverseiterator.__length_hint__" : String) = id0
  wp_delta
  rw [show splitId id0 = some ("list_reverseiterator", "__length_hint__") from by subst hid; decide +kernel]
  subst hid
  refine wpAny_bind (wpAny_isInstance (b := true) hT (by rw [isSubtype_type]; kernel_rfl) ?_)
  refine wpAny_pure ?_
  rw [if_neg (by decide)]
  have e0 : ((items.size : Nat) : Int) - 1 - ((0 : Nat) : Int) = (items.size : Int) - 1 := by omega
  refine wpAny_pure ⟨plainId_quiet F.plain_extend_loop _, codeAny_extend_loopS W hn S hSf _ items.size 0 _ _ _ rfl (Nat.zero_le _) ⟨Nat.zero_le _, by rw [e0]; exact hit2, hl2⟩ hS₂ (ItemsOf.nil _) fun s' acc' c' hm hS' hacc => ?_⟩
  rw [Moved.eq_with hm]
  refine hR s'.heap s'.toks acc' c' (fun b o hb hi e => hm.heap b o (fun hmem => ?_) (other b o hb e)) hS' hacc
  rcases List.mem_cons.mp hmem with e' | hmem
  · exact hb e'
  · exact hi (List.mem_singleton.mp hmem)
theorem call_list_rev {it l : Addr} {items : Array Value} {Q : Value → Shared → Prop} (hh : A.handled = none) (hit : s.heap.IsRevIter it l ((items.size : Int) - 1)) (hl : s.heap.IsList l items) (hne : l ≠ it) (hn : items.size ≤ sizeLine)
    (hQ : ∀ (h' : Heap) (tk : Nat) (acc : Array Value) (c : Nat), (∀ b o, b ≠ it → s.heap.get? b = some o → h'.get? b = some o) → h'.get? s.heap.objs.size = some { cls := .type "list", dict := none, data := .seq acc c, slots := #[] } →
      ItemsOf (fun i v => items[items.size - 1 - i]? = some v) acc items.size → Q (.ref s.heap.objs.size) { s with heap := h', toks := tk }) :
    wpAny (model prog w) A (call (.type "list") [.ref it]) Q E s := by
  refine callType_codes (Q₁ := fun obj s₁ => obj = .ref s.heap.objs.size ∧ s₁ = { s with heap := s.heap.push { cls := .type "list", data := .seq #[] } }) F.called_list (F.typeCall_list_1 _) F.entry_list_init
    (code_list_new _ ⟨rfl, rfl⟩) fun obj s₁ h₁ => ?_
  obtain ⟨rfl, rfl⟩ := h₁
  have hS : (s.heap.push { cls := .type "list", data := .seq #[] }).get? s.heap.objs.size = some { cls := .type "list", data := .seq #[] } := Heap.get?_push_size _ rfl
  obtain ⟨oi, hoi, _⟩ := id hit
  obtain ⟨ol, hol, _⟩ := id hl
  refine ⟨⟨_, hS, rfl⟩, F.args_list_init_2 _ _, init_rev (A := A.in1) hh (hit.at fun o e => Heap.get?_push_of_some _ e) (hl.push _) hne hn hS (Nat.ne_of_gt (Heap.lt_size hoi)) (Nat.ne_of_gt (Heap.lt_size hol)) fun h' tk acc c k hS' hacc => ?_⟩
  exact ⟨rfl, hQ h' tk acc c (fun b o hb e => k b o (Nat.ne_of_lt (Heap.lt_size e)) hb (Heap.get?_push_of_some _ e)) hS' hacc⟩
end
end VLR
namespace L2
open PySem PySem.Spec PyProof.Rows RT
def tLstRev (K : PySem.W.Frag) (te : TE) : TE := fun σ H Q => te σ H fun v H1 => ∃ (a : Addr) (xs : List V), v = .ref a ∧ SqL K H1 a xs ∧ ∀ p, H1 p = none → Q (.ref p) (upd H1 p (.lst xs.reverse))
section
variable {X : Cx}
theorem pe_lstRev {e : Expr} {te : TE} {p p2 pos pos2 : Pos} (hc : X.calm = true) (hg : Gl X "list") (hm : X.mg "list" = none) (hg2 : Gl X "reversed") (hm2 : X.mg "reversed" = none) (he : PE X e te)
    (hs : starEach [e] X.env = (false, eval e X.env) :: starEach [] X.env := by rfl)
    (hs2 : starEach [.Call (.Name "reversed" p2) [e] [] pos2] X.env = (false, eval (.Call (.Name "reversed" p2) [e] [] pos2) X.env) :: starEach [] X.env := by rfl) :
    PE X (.Call (.Name "list" p) [.Call (.Name "reversed" p2) [e] [] pos2] [] pos) (tLstRev X.K te) := by
  refine ⟨fun pins s σ H Q I h => ?_⟩
  refine Call_ (ld_blt I hg hm boot_list (PyProof.Rows.callWith_type1 (args_cons (Call_ (ld_blt I hg2 hm2 PyProof.Rows.boot_reversed (PyProof.Rows.callWith_type1 (args_cons (thn (he.run pins s σ H _ I h) fun u s1 ⟨v, H1, I1, r1, q1⟩ => args_nil ?_) hs) hs rfl))) hs2) hs2 rfl))
  obtain ⟨a, xs, ev, hq, q⟩ := q1
  subst ev
  obtain rfl : u = Value.ref a := r1
  obtain ⟨its, rv, p', hz⟩ := I1.list hq
  refine call_reversed_list p'.isList (args_nil ?_)
  have k0 : ∀ b o, s1.heap.get? b = some o → (s1.heap.push (revObj a ((its.toArray.size : Int) - 1))).get? b = some o := fun b o e => Heap.get?_push_of_some _ e
  have I2 : Inv X pins σ H1 { s1 with heap := s1.heap.push (revObj a ((its.toArray.size : Int) - 1)) } := I1.kept (t' := s1.toks) k0
  obtain ⟨f0, f1, f2, f3, f4, f5⟩ := I1.fpOk (H' := H1) (b := s1.heap.objs.size) (Nat.le_refl _) (I1.hok.fresh (Nat.le_refl _))
  have hl := p'.isList
  obtain ⟨ol, hol, _⟩ := id hl
  have hne : a ≠ s1.heap.objs.size := Nat.ne_of_lt (Heap.lt_size hol)
  have hn : its.toArray.size ≤ sizeLine := by rw [List.size_toArray, ← rv.length]; exact hz
  have hsz : (s1.heap.push (revObj a ((its.toArray.size : Int) - 1))).objs.size = s1.heap.objs.size + 1 := Heap.size_push _ _
  refine VLR.call_list_rev (s := { s1 with heap := s1.heap.push (revObj a ((its.toArray.size : Int) - 1)) }) (I1.ok.hd hc) ⟨_, Heap.get?_push_size _ rfl, rfl, rfl⟩ (hl.push _) hne hn fun h' tk acc c hk hS hi => ?_
  have k1 : ∀ b o, s1.heap.get? b = some o → h'.get? b = some o := fun b o e => hk b o (Nat.ne_of_lt (Heap.lt_size e)) (k0 b o e)
  have hS' : h'.get? (s1.heap.objs.size + 1) = some { cls := .type "list", data := .seq acc.toList.toArray c } := by
    rw [Array.toArray_toList, ← hsz]
    exact hS
  have J : Inv X pins σ (upd H1 (s1.heap.objs.size + 1) (.lst xs.reverse)) { s1 with heap := h', toks := tk } :=
    I1.laid (t' := tk) k1 (Nat.le_succ _) (show ObjOk X.prog X.w _ _ _ (.lst xs.reverse) from ⟨by rw [List.length_reverse]; exact hz, acc.toList, c, vals_rev rv hi, hS'⟩)
  refine ⟨.ref (s1.heap.objs.size + 1), _, J, ?_, q _ (I1.hok.fresh (Nat.le_succ _))⟩
  show Value.ref (s1.heap.push (revObj a ((its.toArray.size : Int) - 1))).objs.size = _
  rw [hsz]
end
end L2

set_option Elab.async false
set_option linter.all false
set_option maxRecDepth 100000
set_option maxHeartbeats 2000000
namespace L2
open PySem PySem.Spec PyProof.Rows
/-- a def of the text: its function, its name in the module, how its arguments bind -/
structure Def (K : PySem.W.Frag) (mg : Str → Option Value) (x : Str) (st : Stmt) (ps : List Str) (f : Addr) (fd : FuncData) : Prop where
  fn : Fun K x x st f fd
  g : mg x = some (.ref f)
  b : Binds K fd ps []
theorem takesN0 {X : Cx} : L2N.Takes X (fun _ _ _ _ => False) := fun _ _ x => by
  obtain ⟨_, _, _, _, _, _, _, _, _, _, _, _, _, _, _, _, z⟩ := x
  exact z.elim
theorem Fun.okN {P : Program} {w : World} {K : PySem.W.Frag} {mg : Str → Option Value} {base : Heap} {x qual : Str} {st : Stmt} {f : Addr} {fd : FuncData} {N ps : List Str} {k : Nat} {sp : Sp} (F : Fun K x qual st f fd) (S : FnScope N ps (defScope st)) (len : ∀ vs H Q E, sp vs H Q E → vs.length = ps.length)
    (hbody : ∀ (cdv : Value) (A : Around) (outer : List Env) (s : Shared) (H : Hp) (vs : List V) (Q : VK) (E : XK), Room k (A.deeper (envOfC qual (defScope st) s.heap.objs.size f cdv)) → sp vs H Q E →
      ∃ t, PSs (cxOf (L2N.CX P w) P w K mg base N qual (defScope st) f cdv A outer s H E) (defBody st) t ∧ t { nx := fun _ H' => Q .non H', rt := Q } (start N vs) H) : FnOk P w K mg base (L2N.CX P w) (k + 1) f fd ps sp := by
  obtain ⟨oc, od, kV, doc, pm, an, cdv, ct, osl, rfl, lk, hcd⟩ := F.ex
  exact fn_of lk hcd S len fun A outer s H vs Q E hr hsp => hbody cdv A outer s H vs Q E hr hsp
/-- all but the list at st stands as it stood -/
def But (st : Addr) (H H' : Hp) : Prop := ∀ b o, b ≠ st → H b = some o → H' b = some o
theorem But.refl {st : Addr} {H : Hp} : But st H H := fun _ _ _ h => h
theorem But.trans {st : Addr} {H H1 H2 : Hp} (a : But st H H1) (b : But st H1 H2) : But st H H2 := fun c o n h => b c o n (a c o n h)
theorem But.set {st : Addr} {H : Hp} {o : HO} : But st H (upd H st o) := fun b u n e => by rw [upd_ne n]; exact e
theorem But.new {st p : Addr} {H : Hp} {o : HO} (h : H p = none) : But st H (upd H p o) := fun b u n e => by rw [upd_ne (ne_of_none e h)]; exact e
theorem But.of {st : Addr} {H H' : Hp} (h : Same H H') : But st H H' := fun b o _ e => h b o e
/-- the script's cells and the drawer's counters: a list of a list and ints -/
structure Store (H : Hp) (st : Addr) : Prop where
  ex : ∃ (cl : Addr) (ns : List Int) (a b c d e g : Int), H st = some (.lst [.ref cl, .int a, .int b, .int c, .int d, .int e, .int g]) ∧ H cl = some (.lst (ns.map V.int)) ∧ 0 ≤ a ∧ ns.length ≤ 63 ∧ cl ≠ st
theorem Store.some {H : Hp} {st : Addr} (S : Store H st) : ∃ o, H st = some o := by
  obtain ⟨_, _, _, _, _, _, _, _, h, _⟩ := S.ex
  exact ⟨_, h⟩
theorem Store.keep {H H' : Hp} {st : Addr} (S : Store H st) (h : Same H H') : Store H' st := by
  obtain ⟨cl, ns, a, b, c, d, e, g, h1, h2, h3⟩ := S.ex
  exact ⟨cl, ns, a, b, c, d, e, g, h _ _ h1, h _ _ h2, h3⟩
theorem But.free {st : Addr} {H H' : Hp} (a : But st H H') (S : Store H' st) {l : Addr} (h : H' l = Option.none) : H l = Option.none := by
  cases q : H l with
  | none => rfl
  | some o =>
    obtain ⟨u, hu⟩ := S.some
    have ne : l ≠ st := fun z => by rw [z, hu] at h; cases h
    rw [a l o ne q] at h
    cases h
theorem same_new {H : Hp} {p : Addr} {o : HO} (h : H p = none) : Same H (upd H p o) := fun b u e => by rw [upd_ne (ne_of_none e h)]; exact e
theorem of_dec {p : Prop} [Decidable p] (h : decide p = true) : p := of_decide_eq_true h
theorem of_ndec {p : Prop} [Decidable p] (h : ¬ decide p = true) : ¬ p := fun z => h (decide_eq_true z)
end L2
namespace L2
open PySem PySem.Spec PyProof.Rows
/-! ### sizes -/
theorem fm_lo {a m : Int} (h : 0 < m) : 0 ≤ a.fmod m := by
  rw [Int.fmod_eq_emod_of_nonneg _ (Int.le_of_lt h)]
  exact Int.emod_nonneg _ (by omega)
theorem fm_hi {a m : Int} (h : 0 < m) : a.fmod m < m := by
  rw [Int.fmod_eq_emod_of_nonneg _ (Int.le_of_lt h)]
  exact Int.emod_lt_of_pos _ h
theorem cm_fmod {a m b : Int} (h : 0 < m) (h2 : m ≤ 2 ^ 64) : CMul (a.fmod m) b := .inl ⟨by have := fm_lo (a := a) h; omega, by have := fm_hi (a := a) h; omega⟩
theorem cm_l {a b : Int} (h : -(2 ^ 64) < a) (h2 : a < 2 ^ 64) : CMul a b := .inl ⟨h, h2⟩
theorem cm_r {a b : Int} (h : -(2 ^ 64) < b) (h2 : b < 2 ^ 64) : CMul a b := .inr ⟨h, h2⟩
end L2
namespace L2
open PySem PySem.Spec PyProof.Rows
theorem Same.mut {H H' : Hp} {D : Addr} {o : HO} (e : Same H H') (h : H D = none) : Same H (upd H' D o) := fun b u z => by
  rw [upd_ne (ne_of_none z h)]
  exact e b u z
theorem take_one {α : Type} {l : List α} {i : Nat} {x : α} (h : l[i]? = some x) : l.take (i + 1) = l.take i ++ [x] := by
  rw [List.take_succ, h]
  rfl
end L2
namespace L2
open PySem PySem.Spec PyProof.Rows
/-- between a statement and the rest: a word Mid, from which the rest is shown once -/
def tMid (t u : TS) : TS := fun D σ H => ∃ R : St → Hp → Prop, t { D with nx := R } σ H ∧ ∀ σ' H', R σ' H' → u D σ' H'
theorem pss_mid {X : Cx} {st : Stmt} {more : List Stmt} {t u : TS} (a : PS X st t) (b : PSs X more u) : PSs X (st :: more) (tMid t u) := ⟨fun pins s σ H D I ⟨_, hm, hu⟩ =>
  wpAny_execs_cons (thn (a.run pins s σ H _ I hm) fun f s1 q => match f, q with
    | .next, ⟨σ', H', J, q⟩ => b.run pins s1 σ' H' D J (hu σ' H' q)
    | .ret _, q => q
    | .brk, q => q
    | .cont, q => q)⟩
/-- what the store holds at its places; reading and writing it -/
theorem upd2 {H : Hp} {a : Addr} {o u : HO} : upd (upd H a o) a u = upd H a u := upd_upd
end L2

set_option Elab.async false
set_option linter.all false
set_option maxRecDepth 100000
set_option maxHeartbeats 2000000
namespace K02
open PySem PySem.Spec PyProof.Rows L2
def top (i : Nat) : Stmt := PySem.Challenge.pw_holdingsshut_k02_primes_and_binomials.main.body.getD i (.Pass ⟨0, 0, 0, 0⟩)
abbrev s_is_whole : Stmt := top 17
abbrev N_is_whole : List Str := ["value"]
abbrev p_is_whole : List Str := ["value"]
theorem sc_is_whole : FnScope N_is_whole p_is_whole (defScope s_is_whole) := ⟨rfl, rfl, rfl, by decide +kernel, rfl, by decide +kernel, by decide +kernel⟩
abbrev s_lies_within : Stmt := top 18
abbrev N_lies_within : List Str := ["value", "low", "high"]
abbrev p_lies_within : List Str := ["value", "low", "high"]
theorem sc_lies_within : FnScope N_lies_within p_lies_within (defScope s_lies_within) := ⟨rfl, rfl, rfl, by decide +kernel, rfl, by decide +kernel, by decide +kernel⟩
abbrev s_is_prime : Stmt := top 19
abbrev N_is_prime : List Str := ["n", "divisor"]
abbrev p_is_prime : List Str := ["n"]
theorem sc_is_prime : FnScope N_is_prime p_is_prime (defScope s_is_prime) := ⟨rfl, rfl, rfl, by decide +kernel, rfl, by decide +kernel, by decide +kernel⟩
abbrev s_need_prime : Stmt := top 20
abbrev N_need_prime : List Str := ["p"]
abbrev p_need_prime : List Str := ["p"]
theorem sc_need_prime : FnScope N_need_prime p_need_prime (defScope s_need_prime) := ⟨rfl, rfl, rfl, by decide +kernel, rfl, by decide +kernel, by decide +kernel⟩
abbrev s_inverse : Stmt := top 21
abbrev N_inverse : List Str := ["p", "a", "product", "_"]
abbrev p_inverse : List Str := ["p", "a"]
theorem sc_inverse : FnScope N_inverse p_inverse (defScope s_inverse) := ⟨rfl, rfl, rfl, by decide +kernel, rfl, by decide +kernel, by decide +kernel⟩
abbrev s_choose : Stmt := top 22
abbrev N_choose : List Str := ["n", "k", "many", "taken"]
abbrev p_choose : List Str := ["n", "k"]
theorem sc_choose : FnScope N_choose p_choose (defScope s_choose) := ⟨rfl, rfl, rfl, by decide +kernel, rfl, by decide +kernel, by decide +kernel⟩
abbrev s_store : Stmt := top 24
abbrev N_store : List Str := ["script", "seed", "cell"]
abbrev p_store : List Str := ["script"]
theorem sc_store : FnScope N_store p_store (defScope s_store) := ⟨rfl, rfl, rfl, by decide +kernel, rfl, by decide +kernel, by decide +kernel⟩
abbrev s_mix : Stmt := top 25
abbrev N_mix : List Str := ["n", "k", "x"]
abbrev p_mix : List Str := ["n", "k"]
theorem sc_mix : FnScope N_mix p_mix (defScope s_mix) := ⟨rfl, rfl, rfl, by decide +kernel, rfl, by decide +kernel, by decide +kernel⟩
abbrev s_take : Stmt := top 26
abbrev N_take : List Str := ["store", "many", "cell", "digit"]
abbrev p_take : List Str := ["store", "many"]
theorem sc_take : FnScope N_take p_take (defScope s_take) := ⟨rfl, rfl, rfl, by decide +kernel, rfl, by decide +kernel, by decide +kernel⟩
abbrev s_wide : Stmt := top 27
abbrev N_wide : List Str := ["store", "many", "told", "k"]
abbrev p_wide : List Str := ["store", "many"]
theorem sc_wide : FnScope N_wide p_wide (defScope s_wide) := ⟨rfl, rfl, rfl, by decide +kernel, rfl, by decide +kernel, by decide +kernel⟩
abbrev s_edge : Stmt := top 28
abbrev N_edge : List Str := ["store", "many", "way"]
abbrev p_edge : List Str := ["store", "many"]
theorem sc_edge : FnScope N_edge p_edge (defScope s_edge) := ⟨rfl, rfl, rfl, by decide +kernel, rfl, by decide +kernel, by decide +kernel⟩
abbrev s_pick : Stmt := top 29
abbrev N_pick : List Str := ["store", "items"]
abbrev p_pick : List Str := ["store", "items"]
theorem sc_pick : FnScope N_pick p_pick (defScope s_pick) := ⟨rfl, rfl, rfl, by decide +kernel, rfl, by decide +kernel, by decide +kernel⟩
abbrev s_int : Stmt := top 30
abbrev N_int : List Str := ["store", "way"]
abbrev p_int : List Str := ["store"]
theorem sc_int : FnScope N_int p_int (defScope s_int) := ⟨rfl, rfl, rfl, by decide +kernel, rfl, by decide +kernel, by decide +kernel⟩
abbrev s_primes : Stmt := top 31
abbrev N_primes : List Str := []
abbrev p_primes : List Str := []
theorem sc_primes : FnScope N_primes p_primes (defScope s_primes) := ⟨rfl, rfl, rfl, by decide +kernel, rfl, by decide +kernel, by decide +kernel⟩
abbrev s_prime : Stmt := top 32
abbrev N_prime : List Str := ["store", "many"]
abbrev p_prime : List Str := ["store"]
theorem sc_prime : FnScope N_prime p_prime (defScope s_prime) := ⟨rfl, rfl, rfl, by decide +kernel, rfl, by decide +kernel, by decide +kernel⟩
abbrev s_isint : Stmt := top 33
abbrev N_isint : List Str := ["thing"]
abbrev p_isint : List Str := ["thing"]
theorem sc_isint : FnScope N_isint p_isint (defScope s_isint) := ⟨rfl, rfl, rfl, by decide +kernel, rfl, by decide +kernel, by decide +kernel⟩
abbrev s_same : Stmt := top 34
abbrev N_same : List Str := ["one", "two", "key", "listed", "paired", "k"]
abbrev p_same : List Str := ["one", "two"]
theorem sc_same : FnScope N_same p_same (defScope s_same) := ⟨rfl, rfl, rfl, by decide +kernel, rfl, by decide +kernel, by decide +kernel⟩
abbrev s_noprime : Stmt := top 35
abbrev N_noprime : List Str := ["store", "told"]
abbrev p_noprime : List Str := ["store"]
theorem sc_noprime : FnScope N_noprime p_noprime (defScope s_noprime) := ⟨rfl, rfl, rfl, by decide +kernel, rfl, by decide +kernel, by decide +kernel⟩
abbrev s_kinds : Stmt := top 36
abbrev N_kinds : List Str := ["e", "rows", "row"]
abbrev p_kinds : List Str := ["e"]
theorem sc_kinds : FnScope N_kinds p_kinds (defScope s_kinds) := ⟨rfl, rfl, rfl, by decide +kernel, rfl, by decide +kernel, by decide +kernel⟩
abbrev s_clean : Stmt := top 37
abbrev N_clean : List Str := ["e", "base", "word"]
abbrev p_clean : List Str := ["e", "base", "word"]
theorem sc_clean : FnScope N_clean p_clean (defScope s_clean) := ⟨rfl, rfl, rfl, by decide +kernel, rfl, by decide +kernel, by decide +kernel⟩
abbrev s_undivided : Stmt := top 38
abbrev N_undivided : List Str := ["n", "k"]
abbrev p_undivided : List Str := ["n"]
theorem sc_undivided : FnScope N_undivided p_undivided (defScope s_undivided) := ⟨rfl, rfl, rfl, by decide +kernel, rfl, by decide +kernel, by decide +kernel⟩
abbrev s_candidate : Stmt := top 39
abbrev N_candidate : List Str := ["store", "way", "one"]
abbrev p_candidate : List Str := ["store"]
theorem sc_candidate : FnScope N_candidate p_candidate (defScope s_candidate) := ⟨rfl, rfl, rfl, by decide +kernel, rfl, by decide +kernel, by decide +kernel⟩
abbrev s_binomial : Stmt := top 40
abbrev N_binomial : List Str := ["n", "k", "total", "j"]
abbrev p_binomial : List Str := ["n", "k"]
theorem sc_binomial : FnScope N_binomial p_binomial (defScope s_binomial) := ⟨rfl, rfl, rfl, by decide +kernel, rfl, by decide +kernel, by decide +kernel⟩
abbrev s_refusal : Stmt := top 41
abbrev N_refusal : List Str := ["e"]
abbrev p_refusal : List Str := ["e"]
theorem sc_refusal : FnScope N_refusal p_refusal (defScope s_refusal) := ⟨rfl, rfl, rfl, by decide +kernel, rfl, by decide +kernel, by decide +kernel⟩
abbrev s_needed : Stmt := top 42
abbrev N_needed : List Str := ["thing", "e"]
abbrev p_needed : List Str := ["thing"]
theorem sc_needed : FnScope N_needed p_needed (defScope s_needed) := ⟨rfl, rfl, rfl, by decide +kernel, rfl, by decide +kernel, by decide +kernel⟩
abbrev s_inverted : Stmt := top 43
abbrev N_inverted : List Str := ["p", "a", "e"]
abbrev p_inverted : List Str := ["p", "a"]
theorem sc_inverted : FnScope N_inverted p_inverted (defScope s_inverted) := ⟨rfl, rfl, rfl, by decide +kernel, rfl, by decide +kernel, by decide +kernel⟩
abbrev s_primesright : Stmt := top 44
abbrev N_primesright : List Str := ["store", "thing", "k", "due", "odd", "p"]
abbrev p_primesright : List Str := ["store"]
theorem sc_primesright : FnScope N_primesright p_primesright (defScope s_primesright) := ⟨rfl, rfl, rfl, by decide +kernel, rfl, by decide +kernel, by decide +kernel⟩
abbrev s_inverseright : Stmt := top 45
abbrev N_inverseright : List Str := ["p", "a", "told", "c"]
abbrev p_inverseright : List Str := ["p", "a"]
theorem sc_inverseright : FnScope N_inverseright p_inverseright (defScope s_inverseright) := ⟨rfl, rfl, rfl, by decide +kernel, rfl, by decide +kernel, by decide +kernel⟩
abbrev s_chooseright : Stmt := top 46
abbrev N_chooseright : List Str := ["n", "k", "due", "above"]
abbrev p_chooseright : List Str := ["n", "k"]
theorem sc_chooseright : FnScope N_chooseright p_chooseright (defScope s_chooseright) := ⟨rfl, rfl, rfl, by decide +kernel, rfl, by decide +kernel, by decide +kernel⟩
abbrev s_law : Stmt := top 47
abbrev N_law : List Str := ["script", "store", "p", "asked", "k", "n", "a", "odd", "j"]
abbrev p_law : List Str := ["script"]
theorem sc_law : FnScope N_law p_law (defScope s_law) := ⟨rfl, rfl, rfl, by decide +kernel, rfl, by decide +kernel, by decide +kernel⟩
/-- what the top has written: built-in names are free, each class stands where it stands -/
structure Txt (P : Program) (K : PySem.W.Frag) (mg : Str → Option Value) (C_VaultError C_TooMany C_NumberError C_BadPrime C_NoInverse C_NoNumber C_BadTable C_BadCells C_TextError C_ShapeError C_PlanError C_CourseError C_KnowError C_PaperError fV fI_BadPrime fI_NoInverse : Addr) : Prop where
  b_int : mg "int" = none
  b_bool : mg "bool" = none
  b_isinstance : mg "isinstance" = none
  b_range : mg "range" = none
  b_min : mg "min" = none
  b_max : mg "max" = none
  b_abs : mg "abs" = none
  b_len : mg "len" = none
  b_list : mg "list" = none
  b_reversed : mg "reversed" = none
  b_str : mg "str" = none
  b_dict : mg "dict" = none
  b_tuple : mg "tuple" = none
  b_ValueError : mg "ValueError" = none
  g_VaultError : mg "VaultError" = some (.ref C_VaultError)
  g_TooMany : mg "TooMany" = some (.ref C_TooMany)
  g_NumberError : mg "NumberError" = some (.ref C_NumberError)
  g_BadPrime : mg "BadPrime" = some (.ref C_BadPrime)
  g_NoInverse : mg "NoInverse" = some (.ref C_NoInverse)
  g_NoNumber : mg "NoNumber" = some (.ref C_NoNumber)
  g_BadTable : mg "BadTable" = some (.ref C_BadTable)
  g_BadCells : mg "BadCells" = some (.ref C_BadCells)
  g_TextError : mg "TextError" = some (.ref C_TextError)
  g_ShapeError : mg "ShapeError" = some (.ref C_ShapeError)
  g_PlanError : mg "PlanError" = some (.ref C_PlanError)
  g_CourseError : mg "CourseError" = some (.ref C_CourseError)
  g_KnowError : mg "KnowError" = some (.ref C_KnowError)
  g_PaperError : mg "PaperError" = some (.ref C_PaperError)
  g_GREATEST_PRIME : ∃ t, mg "GREATEST_PRIME" = some (.int 97 t)

  lf_BadPrime : PySem.VX.Leaf P K mg C_BadPrime fV fI_BadPrime "BadPrime" ["value"]
  ix_BadPrime : PySem.W.exmOne K (.ref C_BadPrime) (.ref C_VaultError) = some true
  k_BadPrime_VaultError : PySem.W.kitOne K (.ref C_BadPrime) (.ref C_VaultError) = some true
  k_BadPrime_TooMany : PySem.W.kitOne K (.ref C_BadPrime) (.ref C_TooMany) = some false
  k_BadPrime_NumberError : PySem.W.kitOne K (.ref C_BadPrime) (.ref C_NumberError) = some true
  k_BadPrime_BadPrime : PySem.W.kitOne K (.ref C_BadPrime) (.ref C_BadPrime) = some true
  k_BadPrime_NoInverse : PySem.W.kitOne K (.ref C_BadPrime) (.ref C_NoInverse) = some false
  k_BadPrime_NoNumber : PySem.W.kitOne K (.ref C_BadPrime) (.ref C_NoNumber) = some false
  k_BadPrime_BadTable : PySem.W.kitOne K (.ref C_BadPrime) (.ref C_BadTable) = some false
  k_BadPrime_BadCells : PySem.W.kitOne K (.ref C_BadPrime) (.ref C_BadCells) = some false
  k_BadPrime_TextError : PySem.W.kitOne K (.ref C_BadPrime) (.ref C_TextError) = some false
  k_BadPrime_ShapeError : PySem.W.kitOne K (.ref C_BadPrime) (.ref C_ShapeError) = some false
  k_BadPrime_PlanError : PySem.W.kitOne K (.ref C_BadPrime) (.ref C_PlanError) = some false
  k_BadPrime_CourseError : PySem.W.kitOne K (.ref C_BadPrime) (.ref C_CourseError) = some false
  k_BadPrime_KnowError : PySem.W.kitOne K (.ref C_BadPrime) (.ref C_KnowError) = some false
  k_BadPrime_PaperError : PySem.W.kitOne K (.ref C_BadPrime) (.ref C_PaperError) = some false
  k_BadPrime_ValueError : PySem.W.kitOne K (.ref C_BadPrime) (.type "ValueError") = some true
  lf_NoInverse : PySem.VX.Leaf P K mg C_NoInverse fV fI_NoInverse "NoInverse" ["value"]
  ix_NoInverse : PySem.W.exmOne K (.ref C_NoInverse) (.ref C_VaultError) = some true
  k_NoInverse_VaultError : PySem.W.kitOne K (.ref C_NoInverse) (.ref C_VaultError) = some true
  k_NoInverse_TooMany : PySem.W.kitOne K (.ref C_NoInverse) (.ref C_TooMany) = some false
  k_NoInverse_NumberError : PySem.W.kitOne K (.ref C_NoInverse) (.ref C_NumberError) = some true
  k_NoInverse_BadPrime : PySem.W.kitOne K (.ref C_NoInverse) (.ref C_BadPrime) = some false
  k_NoInverse_NoInverse : PySem.W.kitOne K (.ref C_NoInverse) (.ref C_NoInverse) = some true
  k_NoInverse_NoNumber : PySem.W.kitOne K (.ref C_NoInverse) (.ref C_NoNumber) = some false
  k_NoInverse_BadTable : PySem.W.kitOne K (.ref C_NoInverse) (.ref C_BadTable) = some false
  k_NoInverse_BadCells : PySem.W.kitOne K (.ref C_NoInverse) (.ref C_BadCells) = some false
  k_NoInverse_TextError : PySem.W.kitOne K (.ref C_NoInverse) (.ref C_TextError) = some false
  k_NoInverse_ShapeError : PySem.W.kitOne K (.ref C_NoInverse) (.ref C_ShapeError) = some false
  k_NoInverse_PlanError : PySem.W.kitOne K (.ref C_NoInverse) (.ref C_PlanError) = some false
  k_NoInverse_CourseError : PySem.W.kitOne K (.ref C_NoInverse) (.ref C_CourseError) = some false
  k_NoInverse_KnowError : PySem.W.kitOne K (.ref C_NoInverse) (.ref C_KnowError) = some false
  k_NoInverse_PaperError : PySem.W.kitOne K (.ref C_NoInverse) (.ref C_PaperError) = some false
  k_NoInverse_ValueError : PySem.W.kitOne K (.ref C_NoInverse) (.type "ValueError") = some true
end K02

set_option Elab.async false
set_option linter.all false
set_option maxRecDepth 100000
set_option maxHeartbeats 4000000
set_option pp.deepTerms false
set_option pp.deepTerms.threshold 12
namespace K02
open PySem PySem.Spec PyProof.Rows L2
local macro_rules | `(tactic| walk_at "ty") => `(tactic| first | exact .base (.int _) | exact .base (.bl _) | exact .base (.str _) | exact .base .non | assumption | exact .base (.tup (by assumption)) | exact .base (.lst (by assumption)))
local macro_rules | `(tactic| walk_at "cm") => `(tactic| first | exact cm_r (by decide) (by decide) | exact cm_l (by decide) (by decide) | exact cm_fmod (by decide) (by decide) | exact cm_r (by omega) (by omega) | exact cm_l (by omega) (by omega))
local macro_rules | `(tactic| walk_at "dv") => `(tactic| first | exact ⟨by decide, by decide⟩ | exact ⟨by omega, by omega⟩)
local macro_rules | `(tactic| walk_at "r1") => `(tactic| first
  | refine ⟨_, rfl, ?_⟩ | refine ⟨_, _, rfl, rfl, ?_⟩ | refine Or.inl ⟨_, rfl, ?_⟩ | refine Or.inr ⟨_, rfl, ?_⟩
  | refine And.intro (a := CMul _ _) (by walk_at "cm") ?_ | refine And.intro (a := CDivN _ _) (by walk_at "dv") ?_ | refine And.intro (a := _ ≠ (0 : Int)) (by first | decide | omega) ?_ | refine And.intro (a := scal _ _ = true) rfl ?_ | refine ⟨_, _, _, _, rfl, rfl, SqL.of (by first | exact upd_same | assumption), rfl, ?_⟩ | refine ⟨_, _, _, _, rfl, rfl, (by first | exact upd_same | assumption), rfl, ?_⟩ | refine ⟨_, _, rfl, ?_⟩ | refine And.intro (a := (_ : V) = V.non) rfl ?_ | refine And.intro (a := CPow _ _) ⟨by decide, by decide, by decide⟩ ?_ | refine And.intro (a := (_ : List V) = []) rfl ?_ | refine ⟨_, _, rfl, SqT.of (by first | exact upd_same | assumption), rfl, ?_⟩
  | refine ⟨_, _, _, _, true, rfl, ClsV.ty _, (by walk_at "ty"), kit_ty (by decide +kernel), ?_⟩ | refine ⟨_, _, _, _, false, rfl, ClsV.ty _, (by walk_at "ty"), kit_ty (by decide +kernel), ?_⟩)
local macro_rules | `(tactic| walk_at "rd") => `(tactic| repeat walk_at "r1")
local macro_rules | `(tactic| walk_at "yes") => `(tactic| (change (if true = true then _ else _); rw [if_pos rfl]))
local macro_rules | `(tactic| walk_at "no") => `(tactic| (change (if false = true then _ else _); rw [if_neg Bool.false_ne_true]))
local macro_rules | `(tactic| walk_at "nw") => `(tactic| refine And.intro (a := _ ≤ sizeLine) (sz_le (Nat.le_of_ble_eq_true rfl)) ?_)

section
variable {P : Program} {w : World} {K : PySem.W.Frag} {mg : Str → Option Value} {base : Heap}
variable {C_VaultError C_TooMany C_NumberError C_BadPrime C_NoInverse C_NoNumber C_BadTable C_BadCells C_TextError C_ShapeError C_PlanError C_CourseError C_KnowError C_PaperError fV fI_BadPrime fI_NoInverse : Addr}
variable (T : Txt P K mg C_VaultError C_TooMany C_NumberError C_BadPrime C_NoInverse C_NoNumber C_BadTable C_BadCells C_TextError C_ShapeError C_PlanError C_CourseError C_KnowError C_PaperError fV fI_BadPrime fI_NoInverse)
include T
def spMix : Sp := fun vs H Q _ => ∃ n k : Int, vs = [.int n, .int k] ∧ ∀ r, Q (.int r) H
theorem ok_mix {f : Addr} {fd : FuncData} (F : Fun K "_law_mix" "_law_mix" s_mix f fd) : FnOk P w K mg base CX0 1 f fd p_mix spMix := by
  refine F.ok sc_mix (fun vs H Q E h => ?_) (fun cdv A outer s H vs Q E hr h => ?_)
  · obtain ⟨n, k, rfl, _⟩ := h
    rfl
  · obtain ⟨n, k, rfl, q⟩ := h
    refine ⟨_, (pss_cons (ps_set (i := 2) sc_mix.nd rfl (Or.inl rfl) (by exact (pe_op op_modN (pe_op op_add (pe_op op_add (pe_op op_mul (pe_callTy call_int1 (by rfl) T.b_int (by first | exact PySem.boot_int | decide +kernel) (pa_cons (pv 0) pa_nil)) pe_int) (pe_op op_mul (pe_callTy call_int1 (by rfl) T.b_int (by first | exact PySem.boot_int | decide +kernel) (pa_cons (pv 1) pa_nil)) pe_int)) pe_int) pe_int)))
      (pss_cons (ps_set (i := 2) sc_mix.nd rfl (Or.inl rfl) (by exact (pe_op op_modN (pe_op op_add (pe_op op_add (pe_op op_mul (pv 2) (pv 2)) (pe_op op_mul (pe_callTy call_int1 (by rfl) T.b_int (by first | exact PySem.boot_int | decide +kernel) (pa_cons (pv 1) pa_nil)) pe_int)) pe_int) pe_int)))
      (pss_cons (ps_set (i := 2) sc_mix.nd rfl (Or.inl rfl) (by exact (pe_op op_modN (pe_op op_add (pe_op op_add (pe_op op_mul (pv 2) (pv 2)) (pe_op op_mul (pe_op op_modN (pe_callTy call_int1 (by rfl) T.b_int (by first | exact PySem.boot_int | decide +kernel) (pa_cons (pv 0) pa_nil)) pe_int) pe_int)) (pe_op op_fdivN (pv 2) pe_int)) pe_int)))
      (pss_one (ps_ret (by exact (pe_op op_fdivN (pv 2) pe_int))))))), ?_⟩
    walk_at "rd"
    exact q _
omit T in
theorem cut63 (ns : List Int) : cutV (ns.map V.int) none (some 63) = (ns.take 63).map V.int := by
  unfold cutV
  rw [show (some (63 : Int)) = some ((63 : Nat) : Int) from rfl, HT.sIx_nat, HT.sIx_none, List.drop_zero, Nat.sub_zero, List.length_map, List.map_take]
  by_cases h : 63 ≤ ns.length
  · rw [Nat.min_eq_left h]
  · rw [Nat.min_eq_right (by omega), List.take_of_length_le (by rw [List.length_map]; omega), List.take_of_length_le (by rw [List.length_map]; omega)]
omit T in
theorem int_at {ns : List Int} {i : Nat} {y : V} (h : (ns.map V.int)[i]? = some y) : ∃ z, ns[i]? = some z ∧ y = V.int z := by
  rw [List.getElem?_map] at h
  cases e : ns[i]? with
  | none => rw [e] at h; cases h
  | some z => rw [e] at h; exact ⟨z, rfl, (Option.some.inj h).symm⟩
omit T in
theorem sz_le {n : Nat} (h : n ≤ 100000) : n ≤ sizeLine := Nat.le_trans h (by decide)
omit T in
theorem sz_lt {n : Nat} (h : n < 100000) : n < sizeLine := Nat.lt_of_lt_of_le h (by decide)
def spStore (K : PySem.W.Frag) : Sp := fun vs H Q _ => ∃ (a : Addr) (ns : List Int), vs = [.ref a] ∧ SqL K H a (ns.map V.int) ∧ ∀ st H', Store H' st → Same H H' → H st = none → Q (.ref st) H'
theorem ok_store {f : Addr} {fd : FuncData} (F : Fun K "_law_store" "_law_store" s_store f fd) : FnOk P w K mg base CX0 1 f fd p_store (spStore K) := by
  refine F.ok sc_store (fun vs H Q E h => ?_) (fun cdv A outer s H vs Q E hr h => ?_)
  · obtain ⟨a, ns, rfl, _⟩ := h
    rfl
  · obtain ⟨a, ns, rfl, hS, q⟩ := h
    refine ⟨_, (pss_cons (ps_set (i := 1) sc_store.nd rfl (Or.inl rfl) (by exact pe_int))
      (pss_cons (ps_for PassesOwn.never rfl (pi_list (pe_slice sl_list (pv 0) po_none (po_some pe_int))) (pg_name (i := 2) sc_store.nd rfl (Or.inl rfl)) (pss_one (ps_set (i := 1) sc_store.nd rfl (Or.inl rfl) (by exact (pe_op op_modN (pe_op op_add (pe_op op_add (pe_op op_add (pe_op op_mul (pv 1) pe_int) (pe_op op_mul (pe_callB call_abs (by rfl) T.b_abs (by first | exact PySem.boot_abs | decide +kernel) (pa_cons (pe_callTy call_int1 (by rfl) T.b_int (by first | exact PySem.boot_int | decide +kernel) (pa_cons (pv 2) pa_nil)) pa_nil)) pe_int)) (pe_callTy call_int1 (by rfl) T.b_int (by first | exact PySem.boot_int | decide +kernel) (pa_cons (pe_cmpR op_lt (pe_callTy call_int1 (by rfl) T.b_int (by first | exact PySem.boot_int | decide +kernel) (pa_cons (pv 2) pa_nil)) pe_int (nomark _)) pa_nil))) pe_int) pe_int)))))
      (pss_one (ps_ret (by exact (pe_lst (pa_cons (pe_lc (own := [("cell", 2)]) (g := gName 2) rfl sc_store.nd (pi_list (pe_slice sl_list (pv 0) po_none (po_some pe_int))) (blkOk_by (own := [("cell", 2)]) (N := N_store) (sc := defScope s_store) (by decide +kernel)) (fun _ _ _ _ _ => pg_name (i := 2) sc_store.nd rfl (Or.inl rfl)) (fun _ _ _ _ _ => pts_nil) (fun _ _ _ _ _ => (pe_callTy call_int1 (by rfl) T.b_int (by first | exact PySem.boot_int | decide +kernel) (pa_cons (pv 2) pa_nil)))) (pa_cons pe_int (pa_cons pe_int (pa_cons pe_int (pa_cons pe_int (pa_cons pe_int (pa_cons (pv 1) pa_nil))))))))))))), ?_⟩
    refine ⟨_, rfl, 63, rfl, a, _, rfl, hS, fun p hp => ?_⟩
    rw [cut63]
    refine ⟨p, rfl, ⟨_, SqL.of upd_same⟩, for_list (K := K) (a := p) (xs := (ns.take 63).map V.int) (fun i σ H' => ∃ (sd : Int) (v : Option V), σ = [some (.ref a), some (.int sd), v] ∧ H' = upd H p (.lst ((ns.take 63).map V.int)) ∧ -(2 ^ 40) < sd ∧ sd < 2 ^ 40) ⟨1009, none, rfl, rfl, by decide, by decide⟩ (fun i σ H' _ ⟨_, _, _, e, _⟩ => by rw [e]; exact SqL.of upd_same) ?_ ?_⟩
    · rintro i y σ H' hi ⟨sd, v, rfl, rfl, h1, h2⟩
      obtain ⟨z, _, rfl⟩ := int_at hi
      walk_at "rd"
      exact ⟨Int.lt_of_lt_of_le (by decide) (fm_lo (by decide)), Int.lt_of_lt_of_le (fm_hi (by decide)) (by decide)⟩
    · rintro σ H' ⟨sd, v, rfl, rfl, _⟩
      have s1 : Same H (upd H p (.lst ((ns.take 63).map V.int))) := same_new hp
      refine ⟨_, rfl, 63, rfl, a, _, rfl, s1.seq hS, fun p2 hp2 => ?_⟩
      rw [cut63]
      have s2 : Same H (upd (upd H p (.lst ((ns.take 63).map V.int))) p2 (.lst ((ns.take 63).map V.int))) := s1.trans (same_new hp2)
      generalize hH2 : upd (upd H p (.lst ((ns.take 63).map V.int))) p2 (.lst ((ns.take 63).map V.int)) = H2 at s2
      have e2 : H2 p2 = some (.lst ((ns.take 63).map V.int)) := by rw [← hH2]; exact upd_same
      refine ⟨p2, rfl, ⟨_, SqL.of e2⟩, fun D hD => lc_list (K := K) (a := p2) (xs := (ns.take 63).map V.int) (fun i H' => Same H2 H' ∧ H' D = some (.lst ((ns.take 63).map V.int |>.take i))) ⟨same_new hD, upd_same⟩ (fun i H' _ ⟨e, _⟩ => SqL.of (e _ _ e2)) ?_ ?_⟩
      · rintro i y H' hi ⟨e3, e4⟩
        obtain ⟨z, hz, rfl⟩ := int_at hi
        refine ⟨rfl, ?_⟩
        refine ⟨_, rfl, .inl ⟨z, rfl, _, e4, sz_lt ?_, e3.mut hD, ?_⟩⟩
        · rw [List.length_take, List.length_map, List.length_take]
          omega
        · rw [upd_same, take_one hi]
      · rintro H' ⟨e3, e4⟩
        rw [List.take_length] at e4
        refine ⟨_, rfl, sz_le (by show 7 ≤ 100000; decide), fun st hst => ?_⟩
        have hDst : D ≠ st := ne_of_none e4 hst
        have s3 : Same H (upd H' st (.lst [.ref D, .int 0, .int 0, .int 0, .int 0, .int 0, .int sd])) := (s2.trans e3).trans (same_new hst)
        exact q st _ ⟨D, ns.take 63, 0, 0, 0, 0, 0, sd, upd_same, by rw [upd_ne hDst]; exact e4, Int.le_refl 0, by rw [List.length_take]; omega, hDst⟩ s3 ((s2.trans e3).free hst)
/-- a number from 0 to below the greater of 1 and m; the drawer has moved on -/
def spTake : Sp := fun vs H Q _ => ∃ (st : Addr) (m : Int), vs = [.ref st, .int m] ∧ m < 1000000000 ∧ Store H st ∧ ∀ d H', 0 ≤ d → d < (if m > 1 then m else 1) → Store H' st → But st H H' → Q (.int d) H'
theorem ok_take {f : Addr} {fd : FuncData} (F : Fun K "_law_take" "_law_take" s_take f fd) {f_mix : Addr} {fd_mix : FuncData} (D_mix : Def K mg "_law_mix" s_mix p_mix f_mix fd_mix) (G_mix : FnOk P w K mg base CX0 1 f_mix fd_mix p_mix spMix) : FnOk P w K mg base CX0 2 f fd p_take spTake := by
  refine F.ok sc_take (fun vs H Q E h => ?_) (fun cdv A outer s H vs Q E hr h => ?_)
  · obtain ⟨st, m, rfl, _⟩ := h
    rfl
  · obtain ⟨st, m, rfl, hm, S, q⟩ := h
    obtain ⟨cl, ns, a, b, c, d, e, g, h1, h2, ha, hlen, hne⟩ := S.ex
    refine ⟨_, (pss_cons (ps_set (i := 1) sc_take.nd rfl (Or.inl rfl) (by exact (pe_callB (call_max2 rfl) (by rfl) T.b_max (by first | exact PySem.boot_max | decide +kernel) (pa_cons pe_int (pa_cons (pe_callTy call_int1 (by rfl) T.b_int (by first | exact PySem.boot_int | decide +kernel) (pa_cons (pv 1) pa_nil)) pa_nil)))))
      (pss_cons (ps_asg (by exact (pe_op op_add (pe_callTy call_int1 (by rfl) T.b_int (by first | exact PySem.boot_int | decide +kernel) (pa_cons (pe_ix ix_list (pv 0) pe_int (fun _ _ => rfl)) pa_nil)) pe_int)) (pg_sub (pv 0) pe_int set_list))
      (pss_mid (ps_if (PW.pt (pw_and (pt_cmpR op_eq (pe_callTy call_int1 (by rfl) T.b_int (by first | exact PySem.boot_int | decide +kernel) (pa_cons (pe_ix ix_list (pv 0) pe_int (fun _ _ => rfl)) pa_nil)) pe_int (nomark _)) (pw_and (pt_cmpR op_eq (pe_callTy call_int1 (by rfl) T.b_int (by first | exact PySem.boot_int | decide +kernel) (pa_cons (pe_ix ix_list (pv 0) pe_int (fun _ _ => rfl)) pa_nil)) pe_int (nomark _)) (pw_and1 (pt_cmpR op_lt (pe_callTy call_int1 (by rfl) T.b_int (by first | exact PySem.boot_int | decide +kernel) (pa_cons (pe_ix ix_list (pv 0) pe_int (fun _ _ => rfl)) pa_nil)) (pe_callB call_len_seq (by rfl) T.b_len (by first | exact PySem.boot_len | decide +kernel) (pa_cons (pe_ix ix_list (pv 0) pe_int (fun _ _ => rfl)) pa_nil)) (nomark _)))))) (pss_cons (ps_set (i := 2) sc_take.nd rfl (Or.inl rfl) (by exact (pe_callTy call_int1 (by rfl) T.b_int (by first | exact PySem.boot_int | decide +kernel) (pa_cons (pe_ix ix_list (pe_ix ix_list (pv 0) pe_int (fun _ _ => rfl)) (pe_ix ix_list (pv 0) pe_int (fun _ _ => rfl)) (fun _ _ => rfl)) pa_nil))))
          (pss_cons (ps_asg (by exact (pe_op op_add (pe_callTy call_int1 (by rfl) T.b_int (by first | exact PySem.boot_int | decide +kernel) (pa_cons (pe_ix ix_list (pv 0) pe_int (fun _ _ => rfl)) pa_nil)) pe_int)) (pg_sub (pv 0) pe_int set_list))
          (pss_one (ps_if (pt_cmpR op_ge (pe_callB call_abs (by rfl) T.b_abs (by first | exact PySem.boot_abs | decide +kernel) (pa_cons (pv 2) pa_nil)) (pe_op op_pow pe_int pe_int) (nomark _)) (pss_one (ps_asg (by exact (pe_callB call_abs (by rfl) T.b_abs (by first | exact PySem.boot_abs | decide +kernel) (pa_cons (pv 2) pa_nil))) (pg_sub (pv 0) pe_int set_list))) (pss_cons (ps_asg (by exact pe_int) (pg_sub (pv 0) pe_int set_list))
              (pss_one (ps_asg (by exact (pe_op op_add (pe_op op_mul (pe_callB call_abs (by rfl) T.b_abs (by first | exact PySem.boot_abs | decide +kernel) (pa_cons (pv 2) pa_nil)) pe_int) (pe_callTy call_int1 (by rfl) T.b_int (by first | exact PySem.boot_int | decide +kernel) (pa_cons (pe_cmpR op_lt (pv 2) pe_int (nomark _)) pa_nil)))) (pg_sub (pv 0) pe_int set_list)))))))) pss_nil)
      (pss_mid (ps_if (pt_cmpR op_gt (pe_callTy call_int1 (by rfl) T.b_int (by first | exact PySem.boot_int | decide +kernel) (pa_cons (pe_ix ix_list (pv 0) pe_int (fun _ _ => rfl)) pa_nil)) pe_int (nomark _)) (pss_cons (ps_set (i := 3) sc_take.nd rfl (Or.inl rfl) (by exact (pe_op op_modN (pe_callTy call_int1 (by rfl) T.b_int (by first | exact PySem.boot_int | decide +kernel) (pa_cons (pe_ix ix_list (pv 0) pe_int (fun _ _ => rfl)) pa_nil)) (pv 1))))
          (pss_cons (ps_asg (by exact (pe_op op_fdivN (pe_callTy call_int1 (by rfl) T.b_int (by first | exact PySem.boot_int | decide +kernel) (pa_cons (pe_ix ix_list (pv 0) pe_int (fun _ _ => rfl)) pa_nil)) (pv 1))) (pg_sub (pv 0) pe_int set_list))
          (pss_one (ps_ret (by exact (pv 3)))))) pss_nil)
      (pss_mid (ps_if (pt_cmpR op_gt (pe_callTy call_int1 (by rfl) T.b_int (by first | exact PySem.boot_int | decide +kernel) (pa_cons (pe_ix ix_list (pv 0) pe_int (fun _ _ => rfl)) pa_nil)) pe_int (nomark _)) (pss_cons (ps_asg (by exact (pe_op op_sub (pe_callTy call_int1 (by rfl) T.b_int (by first | exact PySem.boot_int | decide +kernel) (pa_cons (pe_ix ix_list (pv 0) pe_int (fun _ _ => rfl)) pa_nil)) pe_int)) (pg_sub (pv 0) pe_int set_list))
          (pss_one (ps_ret (by exact (pe_op op_modN (pe_call G_mix (hr.mono (by decide)) rfl D_mix.g D_mix.fn.kp D_mix.b .nil pass0 (pa_cons (pe_callTy call_int1 (by rfl) T.b_int (by first | exact PySem.boot_int | decide +kernel) (pa_cons (pe_ix ix_list (pv 0) pe_int (fun _ _ => rfl)) pa_nil)) (pa_cons (pe_callTy call_int1 (by rfl) T.b_int (by first | exact PySem.boot_int | decide +kernel) (pa_cons (pe_ix ix_list (pv 0) pe_int (fun _ _ => rfl)) pa_nil)) pa_nil))) (pv 1)))))) pss_nil)
      (pss_one (ps_ret (by exact (pe_op op_modN (pe_call G_mix (hr.mono (by decide)) rfl D_mix.g D_mix.fn.kp D_mix.b .nil pass0 (pa_cons (pe_callTy call_int1 (by rfl) T.b_int (by first | exact PySem.boot_int | decide +kernel) (pa_cons (pe_ix ix_list (pv 0) pe_int (fun _ _ => rfl)) pa_nil)) (pa_cons (pe_callTy call_int1 (by rfl) T.b_int (by first | exact PySem.boot_int | decide +kernel) (pa_cons (pe_ix ix_list (pv 0) pe_int (fun _ _ => rfl)) pa_nil)) pa_nil))) (pv 1)))))))))), ?_⟩
    walk_at "rd"
    generalize hM : (if m > 1 then m else 1) = M at q
    have hM0 : 0 < M := by rw [← hM]; split <;> omega
    have hM1 : M < 1000000000 := by rw [← hM]; split <;> omega
    -- every write to the store keeps it one
    have put : ∀ (a b c d e g : Int), 0 ≤ a → Store (upd H st (.lst [.ref cl, .int a, .int b, .int c, .int d, .int e, .int g])) st ∧ But st H (upd H st (.lst [.ref cl, .int a, .int b, .int c, .int d, .int e, .int g])) :=
      fun a b c d e g ha => ⟨⟨cl, ns, a, b, c, d, e, g, upd_same, by rw [upd_ne hne]; exact h2, ha, hlen, hne⟩, .set⟩
    refine ⟨fun σ H' => ∃ (v : Option V) (a b c d e g : Int), σ = [some (.ref st), some (.int M), v, none] ∧ H' = upd H st (.lst [.ref cl, .int a, .int b, .int c, .int d, .int e, .int g]) ∧ 0 ≤ a, ?_, ?_⟩
    · have fin : ∀ {σ : L2.St} {H' : Hp} (v : Option V) (a b c d e g : Int), 0 ≤ a → σ = [some (.ref st), some (.int M), v, none] → H' = upd H st (.lst [.ref cl, .int a, .int b, .int c, .int d, .int e, .int g]) →
          ∃ (v : Option V) (a b c d e g : Int), σ = [some (.ref st), some (.int M), v, none] ∧ H' = upd H st (.lst [.ref cl, .int a, .int b, .int c, .int d, .int e, .int g]) ∧ 0 ≤ a := fun v a b c d e g h1 h2 h3 => ⟨v, a, b, c, d, e, g, h2, h3, h1⟩
      have hcl : ∀ o, (upd H st o) cl = some (.lst (ns.map V.int)) := fun o => by rw [upd_ne hne]; exact h2
      walk_at "rd"
      refine ite2 (fun hc => ?_) (fun hc => fin none _ _ _ _ _ _ ha rfl rfl)
      walk_at "rd"
      refine ite2 (fun hc => ?_) (fun hc => fin none _ _ _ _ _ _ ha rfl rfl)
      walk_at "rd"
      refine ⟨_, _, rfl, .inl (SqL.of (hcl _)), ?_⟩
      walk_at "rd"
      refine ite2 (fun hc => ?_) (fun hc => fin none _ _ _ _ _ _ ha rfl rfl)
      have hlt : a < ns.length := by
        have z := of_decide_eq_true hc
        rw [List.length_map] at z
        exact z
      obtain ⟨j, rfl⟩ : ∃ j : Nat, a = (j : Int) := ⟨a.toNat, by omega⟩
      have hj : j < ns.length := by omega
      walk_at "rd"
      refine ⟨_, _, _, _, rfl, rfl, SqL.of (hcl _), atI_nat (by rw [List.getElem?_map, List.getElem?_eq_getElem hj]; rfl), ?_⟩
      walk_at "rd"
      refine ite2 (fun hc => ?_) (fun hc => ?_)
      · walk_at "rd"
        rw [upd2, upd2]
        exact fin (some (.int ns[j])) (j + 1) _ _ _ _ _ (by omega) rfl rfl
      · walk_at "rd"
        rw [upd2, upd2, upd2]
        exact fin (some (.int ns[j])) (j + 1) _ _ _ _ _ (by omega) rfl rfl
    · rintro σ' H' ⟨v, a', b', c', d', e', g', rfl, rfl, ha'⟩
      refine ⟨fun σ H' => ∃ (v : Option V) (a b c d e g : Int), σ = [some (.ref st), some (.int M), v, none] ∧ H' = upd H st (.lst [.ref cl, .int a, .int b, .int c, .int d, .int e, .int g]) ∧ 0 ≤ a, ?_, ?_⟩
      · walk_at "rd"
        refine ite2 (fun hc => ?_) (fun hc => ⟨v, a', b', c', d', e', g', rfl, rfl, ha'⟩)
        walk_at "rd"
        show Q (.int (b'.fmod M)) _
        rw [upd2]
        obtain ⟨p1, p2⟩ := put a' (b'.fdiv M) c' d' e' g' ha'
        exact q _ _ (fm_lo hM0) (fm_hi hM0) p1 p2
      · rintro σ' H' ⟨v, a', b', c', d', e', g', rfl, rfl, ha'⟩
        refine ⟨fun σ H' => ∃ (v : Option V) (a b c d e g : Int), σ = [some (.ref st), some (.int M), v, none] ∧ H' = upd H st (.lst [.ref cl, .int a, .int b, .int c, .int d, .int e, .int g]) ∧ 0 ≤ a, ?_, ?_⟩
        · walk_at "rd"
          refine ite2 (fun hc => ?_) (fun hc => ⟨v, a', b', c', d', e', g', rfl, rfl, ha'⟩)
          walk_at "rd"
          intro r
          walk_at "rd"
          show Q (.int (r.fmod M)) _
          rw [upd2]
          obtain ⟨p1, p2⟩ := put a' b' (c' - 1) d' e' g' ha'
          exact q _ _ (fm_lo hM0) (fm_hi hM0) p1 p2
        · rintro σ' H' ⟨v, a', b', c', d', e', g', rfl, rfl, ha'⟩
          walk_at "rd"
          intro r
          walk_at "rd"
          obtain ⟨p1, p2⟩ := put a' b' c' d' e' g' ha'
          exact q _ _ (fm_lo hM0) (fm_hi hM0) p1 p2

omit T in
theorem pickM (m : Int) : 0 < (if m > 1 then m else 1) := by split <;> omega
theorem ok_edge {f : Addr} {fd : FuncData} (F : Fun K "_law_edge" "_law_edge" s_edge f fd) {f_take : Addr} {fd_take : FuncData} (D_take : Def K mg "_law_take" s_take p_take f_take fd_take) (G_take : FnOk P w K mg base CX0 2 f_take fd_take p_take spTake) : FnOk P w K mg base CX0 3 f fd p_edge spTake := by
  refine F.ok sc_edge (fun vs H Q E h => ?_) (fun cdv A outer s H vs Q E hr h => ?_)
  · obtain ⟨st, m, rfl, _⟩ := h
    rfl
  · obtain ⟨st, m, rfl, hm, S, q⟩ := h
    refine ⟨_, (pss_cons (ps_set (i := 2) sc_edge.nd rfl (Or.inl rfl) (by exact (pe_call G_take (hr.mono (by decide)) rfl D_take.g D_take.fn.kp D_take.b .nil pass0 (pa_cons (pv 0) (pa_cons pe_int pa_nil)))))
      (pss_cons (ps_if (pt_cmpR op_eq (pv 2) pe_int (nomark _)) (pss_one (ps_ret (by exact pe_int))) pss_nil)
      (pss_cons (ps_if (pt_cmpR op_eq (pv 2) pe_int (nomark _)) (pss_one (ps_ret (by exact (pe_op op_sub (pe_callB (call_max2 rfl) (by rfl) T.b_max (by first | exact PySem.boot_max | decide +kernel) (pa_cons pe_int (pa_cons (pe_callTy call_int1 (by rfl) T.b_int (by first | exact PySem.boot_int | decide +kernel) (pa_cons (pv 1) pa_nil)) pa_nil))) pe_int)))) pss_nil)
      (pss_one (ps_ret (by exact (pe_call G_take (hr.mono (by decide)) rfl D_take.g D_take.fn.kp D_take.b .nil pass0 (pa_cons (pv 0) (pa_cons (pv 1) pa_nil))))))))), ?_⟩
    walk_at "rd"
    refine ⟨by decide, S, fun d H1 d0 d1 S1 b1 => ?_⟩
    walk_at "rd"
    have pm := pickM m
    refine ite2 (fun hc => ?_) (fun hc => ?_)
    · exact q 0 H1 (Int.le_refl 0) pm S1 b1
    walk_at "rd"
    refine ite2 (fun hc => ?_) (fun hc => ?_)
    · walk_at "rd"
      exact q _ H1 (by show 0 ≤ (if m > 1 then m else 1) - 1; omega) (by show (if m > 1 then m else 1) - 1 < _; omega) S1 b1
    · walk_at "rd"
      exact ⟨hm, S1, fun d H2 d0 d1 S2 b2 => q d H2 d0 d1 S2 (b1.trans b2)⟩
/-- one of the items -/
def spPick : Sp := fun vs H Q _ => ∃ (st l : Addr) (xs : List V), vs = [.ref st, .ref l] ∧ H l = some (.lst xs) ∧ l ≠ st ∧ 0 < xs.length ∧ xs.length ≤ 1000 ∧ Store H st ∧ ∀ v H', v ∈ xs → Store H' st → But st H H' → Q v H'
theorem ok_pick {f : Addr} {fd : FuncData} (F : Fun K "_law_pick" "_law_pick" s_pick f fd) {f_take : Addr} {fd_take : FuncData} (D_take : Def K mg "_law_take" s_take p_take f_take fd_take) (G_take : FnOk P w K mg base CX0 2 f_take fd_take p_take spTake) : FnOk P w K mg base CX0 3 f fd p_pick spPick := by
  refine F.ok sc_pick (fun vs H Q E h => ?_) (fun cdv A outer s H vs Q E hr h => ?_)
  · obtain ⟨st, l, xs, rfl, _⟩ := h
    rfl
  · obtain ⟨st, l, xs, rfl, hl, hne, h0, h1, S, q⟩ := h
    refine ⟨_, (pss_one (ps_ret (by exact (pe_ix ix_list (pv 1) (pe_call G_take (hr.mono (by decide)) rfl D_take.g D_take.fn.kp D_take.b .nil pass0 (pa_cons (pv 0) (pa_cons (pe_callB call_len_seq (by rfl) T.b_len (by first | exact PySem.boot_len | decide +kernel) (pa_cons (pv 1) pa_nil)) pa_nil))) (fun _ _ => rfl))))), ?_⟩
    walk_at "rd"
    refine ⟨_, _, rfl, .inl (SqL.of hl), ?_⟩
    walk_at "rd"
    refine ⟨by omega, S, fun d H1 d0 d1 S1 b1 => ?_⟩
    have hd : d < xs.length := by
      revert d1
      split <;> omega
    obtain ⟨j, rfl⟩ : ∃ j : Nat, d = (j : Int) := ⟨d.toNat, by omega⟩
    have hj : j < xs.length := by omega
    refine ⟨_, _, _, _, rfl, rfl, SqL.of (b1 _ _ hne hl), atI_nat (List.getElem?_eq_getElem hj), ?_⟩
    exact q _ H1 (List.getElem_mem hj) S1 b1
end
end K02

/-! binomial numbers, rounds and least steps: plain mathematics -/
namespace M11
def bin : Nat → Nat → Nat
  | _, 0 => 1
  | 0, _ + 1 => 0
  | n + 1, k + 1 => bin n k + bin n (k + 1)
theorem bin_0 (n : Nat) : bin n 0 = 1 := by cases n <;> rfl
theorem bin_ss (n k : Nat) : bin (n + 1) (k + 1) = bin n k + bin n (k + 1) := rfl
theorem bin_lt : ∀ {n k : Nat}, n < k → bin n k = 0
  | 0, 0, h => absurd h (Nat.lt_irrefl _)
  | 0, k + 1, _ => rfl
  | n + 1, 0, h => absurd h (Nat.not_lt_zero _)
  | n + 1, k + 1, h => by rw [bin_ss, bin_lt (by omega), bin_lt (by omega)]
theorem bin_self : ∀ n : Nat, bin n n = 1
  | 0 => rfl
  | n + 1 => by rw [bin_ss, bin_self n, bin_lt (Nat.lt_succ_self n)]
theorem bin_mul : ∀ n k : Nat, bin n (k + 1) * (k + 1) = bin n k * (n - k)
  | 0, 0 => rfl
  | 0, k + 1 => by rw [bin_lt (by omega), bin_lt (by omega)]; simp
  | n + 1, 0 => by
    have h := bin_mul n 0
    rw [bin_0] at h
    rw [bin_ss, bin_0, bin_0]
    omega
  | n + 1, k + 1 => by
    have h1 := bin_mul n k
    have h2 := bin_mul n (k + 1)
    rw [bin_ss, bin_ss]
    by_cases hk : k + 1 ≤ n
    · have e1 : n + 1 - (k + 1) = (n - (k + 1)) + 1 := by omega
      have e2 : n - k = (n - (k + 1)) + 1 := by omega
      rw [e2] at h1
      rw [e1]
      generalize n - (k + 1) = d at h1 h2 ⊢
      generalize bin n (k + 1) = x at h1 h2 ⊢
      generalize bin n (k + 1 + 1) = y at h1 h2 ⊢
      generalize bin n k = z at h1 h2 ⊢
      have a1 : (x + y) * (k + 1 + 1) = x * (k + 1) + x + y * (k + 1 + 1) := by
        rw [Nat.add_mul, Nat.mul_succ x]
      have a2 : (z + x) * (d + 1) = z * (d + 1) + (x * d + x) := by
        rw [Nat.add_mul, Nat.mul_succ x]
      rw [a1, a2]
      omega
    · have e1 : n + 1 - (k + 1) = 0 := by omega
      rw [e1, Nat.mul_zero, bin_lt (show n < k + 1 by omega), bin_lt (show n < k + 1 + 1 by omega)]
      simp
theorem bin_symm : ∀ a b : Nat, bin (a + b) a = bin (a + b) b
  | 0, b => by rw [bin_0, Nat.zero_add, bin_self]
  | a + 1, 0 => by rw [Nat.add_zero, bin_0, bin_self]
  | a + 1, b + 1 => by
    have h1 := bin_symm a (b + 1)
    have h2 := bin_symm (a + 1) b
    have e : a + 1 + (b + 1) = (a + (b + 1)) + 1 := by omega
    have e2 : a + 1 + b = a + (b + 1) := by omega
    rw [e2] at h2
    rw [e, bin_ss, bin_ss, h1, h2]
    omega
theorem bin_min {n k : Nat} (h : k ≤ n) : bin n (min k (n - k)) = bin n k := by
  by_cases c : k ≤ n - k
  · rw [Nat.min_eq_left c]
  · rw [Nat.min_eq_right (by omega)]
    have e := bin_symm (n - k) k
    rw [Nat.sub_add_cancel h] at e
    exact e
theorem bin_step (n t : Nat) : bin n t * (n - t) / (t + 1) = bin n (t + 1) := by
  rw [← bin_mul]
  exact Nat.mul_div_cancel _ (Nat.succ_pos t)
/-- B c q: the worlds of q rounds -/
def B (c q : Nat) : Nat := bin (c + q) c
theorem B_0 (c : Nat) : B c 0 = 1 := bin_self c
theorem B_pascal (c q : Nat) : B (c + 1) (q + 1) = B c (q + 1) + B (c + 1) q := by
  unfold B
  have e1 : c + 1 + (q + 1) = (c + (q + 1)) + 1 := by omega
  have e2 : c + 1 + q = c + (q + 1) := by omega
  rw [e1, bin_ss, e2]
theorem B_pos (c : Nat) : ∀ q, 1 ≤ B c q := by
  intro q
  induction c generalizing q with
  | zero => unfold B; rw [bin_0]; exact Nat.le_refl 1
  | succ c ih =>
    induction q with
    | zero => rw [B_0]; exact Nat.le_refl 1
    | succ q iq => rw [B_pascal]; omega
theorem B_lt (c q : Nat) : B (c + 1) q < B (c + 1) (q + 1) := by
  rw [B_pascal]
  have := B_pos c (q + 1)
  omega
theorem B_mono_q (c : Nat) {q r : Nat} (h : q ≤ r) : B c q ≤ B c r := by
  cases c with
  | zero =>
    unfold B
    rw [bin_0, bin_0]
    exact Nat.le_refl 1
  | succ c =>
    induction r with
    | zero =>
      have : q = 0 := by omega
      rw [this]
      exact Nat.le_refl _
    | succ r ih =>
      by_cases e : q = r + 1
      · rw [e]
        exact Nat.le_refl _
      · exact Nat.le_trans (ih (by omega)) (Nat.le_of_lt (B_lt c r))
theorem B_mono_c (c q : Nat) : B c q ≤ B (c + 1) q := by
  cases q with
  | zero => rw [B_0, B_0]; exact Nat.le_refl 1
  | succ q => rw [B_pascal]; omega
theorem B_ge (c : Nat) : ∀ q, q + 1 ≤ B (c + 1) q := by
  intro q
  induction q with
  | zero => rw [B_0]; exact Nat.le_refl 1
  | succ q ih =>
    have := B_lt c q
    omega
theorem B_step (c q : Nat) : B c q * (c + q + 1) / (q + 1) = B c (q + 1) := by
  have e1 : B c q = bin (c + q) q := by unfold B; exact bin_symm c q
  have e2 : B c (q + 1) = bin (c + (q + 1)) (q + 1) := by unfold B; exact bin_symm c (q + 1)
  have key : ∀ n k : Nat, bin (n + 1) (k + 1) * (k + 1) = bin n k * (n + 1) := by
    intro n k
    rw [bin_ss, Nat.add_mul, bin_mul]
    by_cases h : k ≤ n
    · rw [← Nat.mul_add]
      congr 1
      omega
    · rw [bin_lt (show n < k by omega)]
      simp
  rw [e1, e2, show c + (q + 1) = (c + q) + 1 from rfl, ← key]
  exact Nat.mul_div_cancel _ (Nat.succ_pos q)
/-- the rounds -/
def IsR (n c r : Nat) : Prop := (∀ q, q < r → B c q ≤ n) ∧ n < B c r
theorem IsR.uniq {n c r s : Nat} (a : IsR n c r) (b : IsR n c s) : r = s := by
  rcases Nat.lt_trichotomy r s with h | h | h
  · exact absurd (b.1 r h) (Nat.not_le.mpr a.2)
  · exact h
  · exact absurd (a.1 s h) (Nat.not_le.mpr b.2)
theorem IsR.ex (n c : Nat) : ∃ r, IsR n (c + 1) r := by
  have key : ∀ N, (∀ q, q < N → B (c + 1) q ≤ n) ∨ ∃ r, IsR n (c + 1) r := by
    intro N
    induction N with
    | zero => exact .inl fun q h => absurd h (Nat.not_lt_zero _)
    | succ N ih =>
      rcases ih with h | h
      · by_cases e : B (c + 1) N ≤ n
        · exact .inl fun q hq => (Nat.lt_succ_iff_lt_or_eq.mp hq).elim (h q) fun z => z ▸ e
        · exact .inr ⟨N, h, by omega⟩
      · exact .inr h
  rcases key (n + 1) with h | h
  · have h1 := h n (Nat.lt_succ_self n)
    have h2 := B_ge c n
    omega
  · exact h
/-- r*(n + 1) less the sum of the first r of B c -/
def S (n c r : Nat) : Int := (r : Int) * ((n : Int) + 1) - (bin (c + r) (c + 1) : Nat)
theorem S_0 (n c : Nat) : S n c 0 = 0 := by
  unfold S
  rw [Nat.add_zero, bin_lt (Nat.lt_succ_self c)]
  simp
theorem S_succ (n c r : Nat) : S n c (r + 1) = S n c r + ((n : Int) + 1 - (B c r : Nat)) := by
  unfold S B
  rw [show c + (r + 1) = (c + r) + 1 from rfl, bin_ss]
  have e : ((r + 1 : Nat) : Int) * ((n : Int) + 1) = (r : Int) * ((n : Int) + 1) + ((n : Int) + 1) := by
    rw [Int.natCast_add, Int.add_mul]
    simp
  rw [e, Int.natCast_add]
  omega
/-- S grows while B c q <= n + 1, then falls -/
theorem S_up {n c r s : Nat} (h : r ≤ s) (hb : ∀ q, r ≤ q → q < s → B c q ≤ n + 1) : S n c r ≤ S n c s := by
  induction s with
  | zero =>
    have : r = 0 := by omega
    rw [this]
    exact Int.le_refl _
  | succ s ih =>
    by_cases e : r = s + 1
    · rw [e]
      exact Int.le_refl _
    · have h1 := ih (by omega) fun q a b => hb q a (by omega)
      have h2 := hb s (by omega) (Nat.lt_succ_self s)
      rw [S_succ]
      omega
theorem S_down {n c r s : Nat} (h : r ≤ s) (hb : ∀ q, r ≤ q → q < s → n + 1 ≤ B c q) : S n c s ≤ S n c r := by
  induction s with
  | zero =>
    have : r = 0 := by omega
    rw [this]
    exact Int.le_refl _
  | succ s ih =>
    by_cases e : r = s + 1
    · rw [e]
      exact Int.le_refl _
    · have h1 := ih (by omega) fun q a b => hb q a (by omega)
      have h2 := hb s (by omega) (Nat.lt_succ_self s)
      rw [S_succ]
      omega
/-- r is a top of S if its neighbours say so -/
theorem S_top {n c r : Nat} (h1 : ∀ q, q < r → B c q ≤ n + 1) (h2 : n + 1 ≤ B c r) (s : Nat) : S n c s ≤ S n c r := by
  by_cases h : s ≤ r
  · exact S_up h fun q _ b => h1 q b
  · exact S_down (by omega) fun q a _ => Nat.le_trans h2 (B_mono_q c a)
theorem IsR.top {n c r : Nat} (h : IsR n c r) (s : Nat) : S n c s ≤ S n c r := S_top (fun q hq => by have := h.1 q hq; omega) h.2 s
theorem S_eq {n c r s : Nat} (h : IsR n c r) (h1 : ∀ q, q < s → B c q ≤ n + 1) (h2 : n + 1 ≤ B c s) : S n c s = S n c r := Int.le_antisymm (h.top s) (S_top h1 h2 r)
/-- the least steps -/
def IsT (n c : Nat) (t : Int) : Prop := ∃ r, IsR n c r ∧ t = S n c r
theorem IsT.uniq {n c : Nat} {s t : Int} (a : IsT n c s) (b : IsT n c t) : s = t := by
  obtain ⟨r, h1, rfl⟩ := a
  obtain ⟨q, h2, rfl⟩ := b
  rw [h1.uniq h2]
theorem IsT.ex (n c : Nat) : ∃ t, IsT n (c + 1) t := by
  obtain ⟨r, h⟩ := IsR.ex n c
  exact ⟨_, r, h, rfl⟩
open Classical in
noncomputable def T (n c : Nat) : Int := if h : ∃ t, IsT n c t then Classical.choose h else 0
theorem T_is (n c : Nat) : IsT n (c + 1) (T n (c + 1)) := by
  unfold T
  rw [dif_pos (IsT.ex n c)]
  exact Classical.choose_spec (IsT.ex n c)
theorem IsT.eq {n c : Nat} {t : Int} (h : IsT n (c + 1) t) : t = T n (c + 1) := h.uniq (T_is n c)
theorem T_0 (c : Nat) : T 0 (c + 1) = 0 := by
  have h : IsT 0 (c + 1) 0 := ⟨0, ⟨fun q h => absurd h (Nat.not_lt_zero _), by rw [B_0]; exact Nat.zero_lt_one⟩, (S_0 _ _).symm⟩
  exact h.eq.symm
theorem T_1 (n : Nat) : T (n + 1) 1 = (n + 1 : Int) + T n 1 := by
  have hb : ∀ q, B 1 q = q + 1 := by
    intro q
    induction q with
    | zero => exact B_0 1
    | succ q ih =>
      rw [B_pascal, ih]
      unfold B
      rw [bin_0]
      omega
  have isr : ∀ m, IsR m 1 m := fun m => ⟨fun q h => by rw [hb]; omega, by rw [hb]; omega⟩
  have e1 : T (n + 1) 1 = S (n + 1) 1 (n + 1) := (IsT.eq (c := 0) ⟨_, isr (n + 1), rfl⟩).symm
  have e2 : T n 1 = S n 1 n := (IsT.eq (c := 0) ⟨_, isr n, rfl⟩).symm
  rw [e1, e2, S_succ, hb]
  unfold S
  have e : ((n : Nat) : Int) * ((n + 1 : Nat) + 1 : Int) = (n : Int) * ((n : Int) + 1) + n := by
    rw [Int.natCast_add, Int.mul_add, Int.mul_add, Int.mul_add]
    omega
  have e3 : ((n + 1 : Nat) : Int) = (n : Int) + 1 := by omega
  rw [e]
  omega
theorem B_R1 {n c r : Nat} (h : IsR n (c + 1) r) (hn : 1 ≤ n) : 1 ≤ r := by
  rcases Nat.eq_zero_or_pos r with e | e
  · have := h.2
    rw [e, B_0] at this
    omega
  · exact e
theorem IsR.le {n c r : Nat} (h : IsR n (c + 1) r) : r ≤ n := by
  rcases Nat.lt_or_ge n r with a | a
  · have h1 := h.1 n a
    have h2 := B_ge c n
    omega
  · exact a
/-- no stop has a lesser sum -/
theorem T_le {n c m : Nat} (h1 : 1 ≤ m) (h2 : m ≤ n) : T n (c + 2) ≤ (m : Int) + T (n - m) (c + 1) + T (m - 1) (c + 2) := by
  obtain ⟨r, hr, e⟩ := T_is n (c + 1)
  obtain ⟨r1, hr1, e1⟩ := T_is (n - m) c
  obtain ⟨r2, hr2, e2⟩ := T_is (m - 1) (c + 1)
  have hp := B_R1 hr (by omega)
  obtain ⟨k, rfl⟩ : ∃ k, r = k + 1 := ⟨r - 1, by omega⟩
  have a1 := hr1.top (k + 1)
  have a2 := hr2.top k
  rw [← e1] at a1
  rw [← e2] at a2
  have a2' : S (m - 1) (c + 2) k ≤ T (m - 1) (c + 2) := a2
  clear a2
  have key : S n (c + 2) (k + 1) = (m : Int) + S (n - m) (c + 1) (k + 1) + S (m - 1) (c + 2) k := by
    unfold S
    have ep : bin (c + 2 + (k + 1)) (c + 2 + 1) = bin (c + 1 + (k + 1)) (c + 1 + 1) + bin (c + 2 + k) (c + 2 + 1) := by
      rw [show c + 2 + (k + 1) = (c + 2 + k) + 1 from rfl, bin_ss, show c + 1 + (k + 1) = c + 2 + k by omega]
    rw [ep]
    have en : ((n - m : Nat) : Int) = (n : Int) - m := by omega
    have em : ((m - 1 : Nat) : Int) + 1 = (m : Int) := by omega
    rw [en, em]
    have d1 : ((k + 1 : Nat) : Int) * ((n : Int) - m + 1) = ((k + 1 : Nat) : Int) * ((n : Int) + 1) - ((k + 1 : Nat) : Int) * m := by
      rw [← Int.mul_sub]
      congr 1
      omega
    have d2 : ((k + 1 : Nat) : Int) * (m : Int) = (k : Int) * m + m := by
      rw [Int.natCast_add, Int.add_mul]
      simp
    rw [d1, d2]
    omega
  rw [e, key]
  omega
/-- some stop has the least sum -/
theorem T_at {n c : Nat} (hn : 1 ≤ n) : ∃ m, 1 ≤ m ∧ m ≤ n ∧ T n (c + 2) = (m : Int) + T (n - m) (c + 1) + T (m - 1) (c + 2) := by
  obtain ⟨r, hr, e⟩ := T_is n (c + 1)
  have hp := B_R1 hr hn
  obtain ⟨k, rfl⟩ : ∃ k, r = k + 1 := ⟨r - 1, by omega⟩
  have u1 := hr.1 k (Nat.lt_succ_self k)
  have u2 := hr.2
  have p1 := B_pascal (c + 1) k
  have p2 := B_mono_c (c + 1) k
  have p3 := B_pos (c + 1) (k + 1)
  have p4 := B_mono_q (c + 1) (Nat.le_succ k)
  have p5 := B_pos (c + 2) k
  have u1' : B (c + 2) k ≤ n := u1
  have u2' : n < B (c + 2) (k + 1) := u2
  -- the last of B (c + 2) ahead of k
  obtain ⟨z, hz, z1, z2⟩ : ∃ z, (∀ q, q < k → B (c + 2) q ≤ z) ∧ z ≤ B (c + 2) k ∧ z + B (c + 1) k ≤ n + 1 := by
    cases k with
    | zero => exact ⟨0, fun q h => absurd h (Nat.not_lt_zero _), Nat.zero_le _, by rw [B_0]; omega⟩
    | succ k =>
      refine ⟨B (c + 2) k, fun q h => B_mono_q _ (by omega), Nat.le_of_lt (B_lt (c + 1) k), ?_⟩
      have p6 := B_pascal (c + 1) k
      have u1'' : B (c + 1 + 1) (k + 1) ≤ n := u1'
      rw [p6] at u1''
      have e9 : B (c + 2) k = B (c + 1 + 1) k := rfl
      omega
  have p1' : B (c + 2) (k + 1) = B (c + 1) (k + 1) + B (c + 2) k := p1
  have p2' : B (c + 1) k ≤ B (c + 2) k := p2
  obtain ⟨m, m1, m2, m3, m4, m5, m6⟩ : ∃ m, 1 ≤ m ∧ m ≤ n ∧ z ≤ m ∧ m ≤ B (c + 2) k ∧ n + 1 ≤ m + B (c + 1) (k + 1) ∧ m + B (c + 1) k ≤ n + 1 := by
    have p4' : B (c + 1) k ≤ B (c + 1) (k + 1) := p4
    have p5' : 1 ≤ B (c + 2) k := p5
    clear p1 p2 p4 p5 u1 u2
    generalize B (c + 1) (k + 1) = x1 at *
    generalize B (c + 2) (k + 1) = x2 at *
    generalize B (c + 1) k = x3 at *
    generalize B (c + 2) k = x4 at *
    by_cases q1 : 1 ≤ z
    · by_cases q2 : n + 1 - x1 ≤ z
      · exact ⟨z, by omega, by omega, by omega, by omega, by omega, by omega⟩
      · exact ⟨n + 1 - x1, by omega, by omega, by omega, by omega, by omega, by omega⟩
    · by_cases q2 : n + 1 - x1 ≤ 1
      · exact ⟨1, by omega, by omega, by omega, by omega, by omega, by omega⟩
      · exact ⟨n + 1 - x1, by omega, by omega, by omega, by omega, by omega, by omega⟩
  refine ⟨m, m1, m2, Int.le_antisymm (T_le m1 m2) ?_⟩
  obtain ⟨r1, hr1, e1⟩ := T_is (n - m) c
  obtain ⟨r2, hr2, e2⟩ := T_is (m - 1) (c + 1)
  have a1 : S (n - m) (c + 1) (k + 1) = S (n - m) (c + 1) r1 := by
    refine S_eq hr1 (fun q hq => ?_) ?_
    · have := B_mono_q (c + 1) (show q ≤ k by omega)
      omega
    · omega
  have a2 : S (m - 1) (c + 2) k = S (m - 1) (c + 2) r2 := by
    refine S_eq hr2 (fun q hq => ?_) ?_
    · have := hz q hq
      omega
    · omega
  have key : S n (c + 2) (k + 1) = (m : Int) + S (n - m) (c + 1) (k + 1) + S (m - 1) (c + 2) k := by
    unfold S
    have ep : bin (c + 2 + (k + 1)) (c + 2 + 1) = bin (c + 1 + (k + 1)) (c + 1 + 1) + bin (c + 2 + k) (c + 2 + 1) := by
      rw [show c + 2 + (k + 1) = (c + 2 + k) + 1 from rfl, bin_ss, show c + 1 + (k + 1) = c + 2 + k by omega]
    rw [ep]
    have en : ((n - m : Nat) : Int) = (n : Int) - m := by omega
    have em : ((m - 1 : Nat) : Int) + 1 = (m : Int) := by omega
    rw [en, em]
    have d1 : ((k + 1 : Nat) : Int) * ((n : Int) - m + 1) = ((k + 1 : Nat) : Int) * ((n : Int) + 1) - ((k + 1 : Nat) : Int) * m := by
      rw [← Int.mul_sub]
      congr 1
      omega
    have d2 : ((k + 1 : Nat) : Int) * (m : Int) = (k : Int) * m + m := by
      rw [Int.natCast_add, Int.add_mul]
      simp
    rw [d1, d2]
    omega
  rw [e, key, a1, a2, e1, e2]
  exact Int.le_refl _

/-- the sum that a stop gives, if it is one -/
noncomputable def sm (n c m : Nat) : Option Int := if c = 0 then (if m < n then none else some ((m : Int) + T (m - 1) 1)) else some ((m : Int) + T (n - m) c + T (m - 1) (c + 1))
structure IsStop (n c m : Nat) : Prop where
  lo : 1 ≤ m
  hi : m ≤ n
  at_ : sm n c m = some (T n (c + 1))
  first : ∀ j, 1 ≤ j → j < m → sm n c j ≠ some (T n (c + 1))
theorem sm_le {n c m : Nat} {l : Int} (h1 : 1 ≤ m) (h2 : m ≤ n) (e : sm n c m = some l) : T n (c + 1) ≤ l := by
  unfold sm at e
  by_cases hc : c = 0
  · rw [if_pos hc] at e
    by_cases hm : m < n
    · rw [if_pos hm] at e
      cases e
    · rw [if_neg hm] at e
      injection e with e
      obtain ⟨k, rfl⟩ : ∃ k, n = k + 1 := ⟨n - 1, by omega⟩
      have : m = k + 1 := by omega
      subst this
      subst hc
      have t1 := T_1 k
      rw [Nat.add_sub_cancel] at e
      have e2 : ((k + 1 : Nat) : Int) = (k : Int) + 1 := rfl
      rw [← e, e2]
      show T (k + 1) 1 ≤ _
      rw [t1]
      exact Int.le_refl _
  · rw [if_neg hc] at e
    injection e with e
    obtain ⟨d, rfl⟩ : ∃ d, c = d + 1 := ⟨c - 1, by omega⟩
    rw [← e]
    exact T_le h1 h2
theorem sm_ex {n c : Nat} (hn : 1 ≤ n) : ∃ m, 1 ≤ m ∧ m ≤ n ∧ sm n c m = some (T n (c + 1)) := by
  by_cases hc : c = 0
  · refine ⟨n, hn, Nat.le_refl n, ?_⟩
    unfold sm
    rw [if_pos hc, if_neg (Nat.lt_irrefl n)]
    obtain ⟨k, rfl⟩ : ∃ k, n = k + 1 := ⟨n - 1, by omega⟩
    subst hc
    have t1 := T_1 k
    rw [Nat.add_sub_cancel]
    show _ = some (T (k + 1) 1)
    rw [t1]
    rfl
  · obtain ⟨d, rfl⟩ : ∃ d, c = d + 1 := ⟨c - 1, by omega⟩
    obtain ⟨m, h1, h2, e⟩ := T_at (n := n) (c := d) hn
    refine ⟨m, h1, h2, ?_⟩
    unfold sm
    rw [if_neg hc]
    exact congrArg some e.symm
theorem stop_1 {n : Nat} (hn : 1 ≤ n) : IsStop n 0 n := by
  obtain ⟨m, h1, h2, e⟩ := sm_ex (c := 0) hn
  have hm : m = n := by
    unfold sm at e
    rw [if_pos rfl] at e
    by_cases q : m < n
    · rw [if_pos q] at e
      cases e
    · omega
  subst hm
  refine ⟨h1, h2, e, fun j h1 h2 z => ?_⟩
  unfold sm at z
  rw [if_pos rfl, if_pos h2] at z
  cases z
/-- while none of the first i is the stop, i < n -/
theorem stop_more {n c i : Nat} (hn : 1 ≤ n) (h : ∀ j, 1 ≤ j → j ≤ i → sm n c j ≠ some (T n (c + 1))) : i < n := by
  obtain ⟨m, h1, h2, e⟩ := sm_ex (c := c) hn
  rcases Nat.lt_or_ge i m with a | a
  · omega
  · exact absurd e (h m h1 a)
/-- the least so far -/
inductive Best (n c i : Nat) : Option (Nat × Int) → Prop
  | no (h : ∀ j, 1 ≤ j → j ≤ i → sm n c j = none) : Best n c i none
  | yes (m : Nat) (l : Int) (h1 : 1 ≤ m) (h2 : m ≤ i) (e : sm n c m = some l) (le : ∀ j k, 1 ≤ j → j ≤ i → sm n c j = some k → l ≤ k) (lt : ∀ j k, 1 ≤ j → j < m → sm n c j = some k → l < k) : Best n c i (some (m, l))
theorem Best.zero (n c : Nat) : Best n c 0 none := .no fun j a b => absurd (Nat.le_trans a b) (Nat.not_succ_le_zero 0)
theorem Best.skip {n c i : Nat} {o : Option (Nat × Int)} (b : Best n c i o) (e : sm n c (i + 1) = none) : Best n c (i + 1) o := by
  cases b with
  | no h => exact .no fun j a b => (Nat.lt_or_ge i j).elim (fun z => by rw [show j = i + 1 by omega]; exact e) (h j a)
  | yes m l h1 h2 e0 le lt => exact .yes m l h1 (by omega) e0 (fun j k a b q => (Nat.lt_or_ge i j).elim (fun z => by rw [show j = i + 1 by omega, e] at q; cases q) fun z => le j k a z q) lt
theorem Best.keep {n c i m : Nat} {l k0 : Int} (b : Best n c i (some (m, l))) (e : sm n c (i + 1) = some k0) (h : l ≤ k0) : Best n c (i + 1) (some (m, l)) := by
  cases b with
  | yes _ _ h1 h2 e0 le lt => exact .yes m l h1 (by omega) e0 (fun j k a b q => (Nat.lt_or_ge i j).elim (fun z => by rw [show j = i + 1 by omega, e] at q; injection q with q; omega) fun z => le j k a z q) lt
theorem Best.first {n c i : Nat} {k0 : Int} (b : Best n c i none) (e : sm n c (i + 1) = some k0) : Best n c (i + 1) (some (i + 1, k0)) := by
  cases b with
  | no h => exact .yes (i + 1) k0 (by omega) (Nat.le_refl _) e (fun j k a b q => (Nat.lt_or_ge i j).elim (fun z => by rw [show j = i + 1 by omega, e] at q; injection q with q; omega) fun z => by rw [h j a z] at q; cases q) (fun j k a b q => by rw [h j a (by omega)] at q; cases q)
theorem Best.less {n c i m : Nat} {l k0 : Int} (b : Best n c i (some (m, l))) (e : sm n c (i + 1) = some k0) (h : k0 < l) : Best n c (i + 1) (some (i + 1, k0)) := by
  cases b with
  | yes _ _ h1 h2 e0 le lt => exact .yes (i + 1) k0 (by omega) (Nat.le_refl _) e (fun j k a b q => (Nat.lt_or_ge i j).elim (fun z => by rw [show j = i + 1 by omega, e] at q; injection q with q; omega) fun z => by have := le j k a z q; omega) (fun j k a b q => by have := le j k a (by omega) q; omega)
theorem Best.end_ {n c : Nat} {o : Option (Nat × Int)} (hn : 1 ≤ n) (b : Best n c n o) : ∃ m, o = some (m, T n (c + 1)) ∧ IsStop n c m := by
  obtain ⟨m0, a1, a2, a3⟩ := sm_ex (c := c) hn
  cases b with
  | no h => rw [h m0 a1 a2] at a3; cases a3
  | yes m l h1 h2 e0 le lt =>
    have q1 := sm_le h1 h2 e0
    have q2 := le m0 _ a1 a2 a3
    have q3 : l = T n (c + 1) := by omega
    subst q3
    exact ⟨m, rfl, h1, h2, e0, fun j b1 b2 z => by have := lt j _ b1 b2 z; omega⟩
theorem IsStop.uniq {n c a b : Nat} (x : IsStop n c a) (y : IsStop n c b) : a = b := by
  rcases Nat.lt_trichotomy a b with h | h | h
  · exact absurd x.at_ (y.first a x.lo h)
  · exact h
  · exact absurd y.at_ (x.first b y.lo h)
theorem T_tri (n : Nat) : 2 * T n 1 = (n : Int) * ((n : Int) + 1) := by
  induction n with
  | zero =>
    rw [show T 0 1 = 0 from T_0 0]
    rfl
  | succ n ih =>
    rw [T_1, Int.mul_add, ih]
    have e : ((n + 1 : Nat) : Int) = (n : Int) + 1 := rfl
    rw [e, Int.add_mul, Int.mul_add (n : Int) ((n : Int) + 1) 1, Int.mul_one]
    omega
theorem T11 : T 1 1 = 1 := by
  have := T_tri 1
  have e : ((1 : Nat) : Int) * (((1 : Nat) : Int) + 1) = 2 := rfl
  omega
theorem T120 : T 120 1 = 7260 := by
  have := T_tri 120
  have e : ((120 : Nat) : Int) * (((120 : Nat) : Int) + 1) = 14520 := rfl
  omega
theorem R0 (c : Nat) : IsR 0 (c + 1) 0 := ⟨fun q h => absurd h (Nat.not_lt_zero _), by rw [B_0]; exact Nat.zero_lt_one⟩
theorem R1 : IsR 1 120 1 := ⟨fun q h => by rw [show q = 0 by omega, B_0]; exact Nat.le_refl 1, B_ge 119 1⟩
end M11

/-! primes to 97, powers, binomial numbers at any integer: plain mathematics -/
namespace M02
def primesN : List Nat := [2, 3, 5, 7, 11, 13, 17, 19, 23, 29, 31, 37, 41, 43, 47, 53, 59, 61, 67, 71, 73, 79, 83, 89, 97]
def primes : List Int := primesN.map fun n : Nat => (n : Int)
def Free (n : Int) (k : Nat) : Prop := ∀ d : Nat, 2 ≤ d → d < k → n % (d : Int) ≠ 0
def IsP (n : Int) : Prop := 2 ≤ n ∧ ∀ d : Nat, 2 ≤ d → (d : Int) * d ≤ n → n % (d : Int) ≠ 0
theorem Free.two (n : Int) : Free n 2 := fun d h1 h2 => absurd h1 (Nat.not_le.mpr h2)
theorem Free.succ {n : Int} {k : Nat} (f : Free n k) (h : n % (k : Int) ≠ 0) : Free n (k + 1) := fun d h1 h2 => (Nat.lt_succ_iff_lt_or_eq.mp h2).elim (f d h1) fun e => by rw [e]; exact h
theorem sq_lt {d k : Nat} (h : d * d < k * k) : d < k := (Nat.lt_or_ge d k).elim id fun z => absurd (Nat.mul_le_mul z z) (Nat.not_le.mpr h)
theorem Free.isP {n : Int} {k : Nat} (f : Free n k) (h2 : 2 ≤ n) (h : n < (k : Int) * k) : IsP n := ⟨h2, fun d h1 hd => f d h1 (sq_lt (by
  have h3 : (d : Int) * d < (k : Int) * k := by omega
  rw [← Int.natCast_mul, ← Int.natCast_mul] at h3
  omega))⟩
theorem not_isP {n : Int} {k : Nat} (h2 : 2 ≤ k) (h : (k : Int) * k ≤ n) (e : n % (k : Int) = 0) : ¬ IsP n := fun z => z.2 k h2 h e
def sp (m : Nat) : Bool := (List.range 10).all fun d => decide (d < 2) || (decide (m < d * d) || decide (m % d ≠ 0))
theorem sp_iff (m : Nat) : sp m = true ↔ ∀ d : Nat, d < 10 → 2 ≤ d → d * d ≤ m → m % d ≠ 0 := by
  unfold sp
  rw [List.all_eq_true]
  constructor
  · intro h d h1 h2 h3
    have := h d (List.mem_range.mpr h1)
    simp only [Bool.or_eq_true, decide_eq_true_eq] at this
    omega
  · intro h d h1
    simp only [Bool.or_eq_true, decide_eq_true_eq]
    by_cases a : d < 2
    · exact .inl a
    · by_cases b : m < d * d
      · exact .inr (.inl b)
      · exact .inr (.inr (h d (List.mem_range.mp h1) (by omega) (by omega)))
theorem sp_all : ∀ m ∈ List.range 98, 2 ≤ m → sp m = primesN.contains m := by decide +kernel
theorem small_primes (m : Nat) (h : m < 98) (h2 : 2 ≤ m) : (∀ d : Nat, d < 10 → 2 ≤ d → d * d ≤ m → m % d ≠ 0) ↔ m ∈ primesN := by
  rw [← sp_iff, sp_all m (List.mem_range.mpr h) h2, List.contains_iff_mem]
theorem mem_primes {n : Int} : n ∈ primes ↔ ∃ m : Nat, m ∈ primesN ∧ (m : Int) = n := by
  unfold primes
  rw [List.mem_map]
theorem primesN_hi : ∀ m ∈ primesN, 2 ≤ m ∧ m < 98 := by decide +kernel
theorem primes_lo {n : Int} (h : n ∈ primes) : 2 ≤ n ∧ n ≤ 97 := by
  obtain ⟨m, hm, rfl⟩ := mem_primes.mp h
  have := primesN_hi m hm
  omega
theorem isP_iff {n : Int} (h2 : 2 ≤ n) (h : n ≤ 97) : IsP n ↔ n ∈ primes := by
  obtain ⟨m, rfl⟩ : ∃ m : Nat, n = (m : Int) := ⟨n.toNat, by omega⟩
  have s := small_primes m (by omega) (by omega)
  have c : IsP (m : Int) ↔ ∀ d : Nat, d < 10 → 2 ≤ d → d * d ≤ m → m % d ≠ 0 := by
    constructor
    · intro z d _ h1 hd e
      refine z.2 d h1 (by rw [← Int.natCast_mul]; omega) ?_
      rw [← Int.natCast_emod, e]
      rfl
    · intro z
      refine ⟨h2, fun d h1 hd e => ?_⟩
      have hd2 : d * d ≤ m := by
        rw [← Int.natCast_mul] at hd
        omega
      have hd10 : d < 10 := sq_lt (by omega)
      refine z d hd10 h1 hd2 ?_
      rw [← Int.natCast_emod] at e
      omega
  rw [c, s, mem_primes]
  constructor
  · intro z
    exact ⟨m, z, rfl⟩
  · rintro ⟨k, hk, e⟩
    have : k = m := by omega
    rw [← this]
    exact hk
theorem mul_primesN : ∀ p ∈ primesN, ∀ q ∈ primesN, p * q ∉ primesN := by decide +kernel
theorem mul_primes {p q : Int} (hp : p ∈ primes) (hq : q ∈ primes) : p * q ∉ primes := by
  obtain ⟨a, ha, rfl⟩ := mem_primes.mp hp
  obtain ⟨b, hb, rfl⟩ := mem_primes.mp hq
  intro z
  obtain ⟨c, hc, e⟩ := mem_primes.mp z
  have : c = a * b := by
    rw [← Int.natCast_mul] at e
    omega
  rw [this] at hc
  exact mul_primesN a ha b hb hc
/-- r to the power i, by p -/
def pw (p r : Nat) : Nat → Nat
  | 0 => 1
  | i + 1 => pw p r i * r % p
theorem fermat : ∀ p ∈ primesN, ∀ r : Nat, r < p → r ≠ 0 → 1 ≤ pw p r (p - 2) ∧ pw p r (p - 2) < p ∧ pw p r (p - 2) * r % p = 1 := by decide +kernel
theorem pw_step {p : Nat} (hp : 0 < p) (a : Int) (i : Nat) : ((pw p (a % p).toNat i : Nat) : Int) * a % (p : Int) = ((pw p (a % p).toNat (i + 1) : Nat) : Int) := by
  have h0 : 0 ≤ a % (p : Int) := Int.emod_nonneg _ (by omega)
  have e : (((a % (p : Int)).toNat : Nat) : Int) = a % (p : Int) := by omega
  show _ = ((pw p (a % p).toNat i * (a % p).toNat % p : Nat) : Int)
  rw [Int.natCast_emod, Int.natCast_mul, e, Int.mul_emod, Int.mul_emod ((pw p (a % p).toNat i : Nat) : Int) (a % (p : Int)), Int.emod_emod]
theorem inv_ok {p : Nat} (hp : p ∈ primesN) {a : Int} (ha : a % (p : Int) ≠ 0) : 1 ≤ pw p (a % p).toNat (p - 2) ∧ pw p (a % p).toNat (p - 2) < p ∧ ((pw p (a % p).toNat (p - 2) : Nat) : Int) * a % (p : Int) = 1 := by
  have h2 := primesN_hi p hp
  have h0 : 0 ≤ a % (p : Int) := Int.emod_nonneg _ (by omega)
  have h1 : a % (p : Int) < p := Int.emod_lt_of_pos _ (by omega)
  obtain ⟨f1, f2, f3⟩ := fermat p hp (a % p).toNat (by omega) (by omega)
  refine ⟨f1, f2, ?_⟩
  rw [pw_step (by omega)]
  show ((pw p (a % p).toNat (p - 2) * (a % p).toNat % p : Nat) : Int) = 1
  rw [f3]
  rfl
/-- the binomial number at any integer -/
def binI (n k : Int) : Int := if k < 0 then 0 else (M11.bin n.toNat k.toNat : Nat)
theorem binI_pascal {n k : Int} (hn : 1 ≤ n) : binI (n - 1) (k - 1) + binI (n - 1) k = binI n k := by
  unfold binI
  obtain ⟨m, rfl⟩ : ∃ m : Nat, n = ((m + 1 : Nat) : Int) := ⟨(n - 1).toNat, by omega⟩
  by_cases h : k < 0
  · rw [if_pos h, if_pos (by omega), if_pos h]
    rfl
  · rw [if_neg h, if_neg h]
    have e1 : ((m + 1 : Nat) : Int).toNat = m + 1 := by omega
    have e2 : (((m + 1 : Nat) : Int) - 1).toNat = m := by omega
    rw [e1, e2]
    by_cases h0 : k = 0
    · subst h0
      rw [if_pos (by omega)]
      show (0 : Int) + (M11.bin m 0 : Nat) = (M11.bin (m + 1) 0 : Nat)
      rw [M11.bin_0, M11.bin_0]
      rfl
    · rw [if_neg (by omega)]
      obtain ⟨j, rfl⟩ : ∃ j : Nat, k = ((j + 1 : Nat) : Int) := ⟨(k - 1).toNat, by omega⟩
      have e3 : ((j + 1 : Nat) : Int).toNat = j + 1 := by omega
      have e4 : (((j + 1 : Nat) : Int) - 1).toNat = j := by omega
      rw [e3, e4, M11.bin_ss]
      omega
theorem binI_zero (k : Int) : binI 0 k = if k = 0 then 1 else 0 := by
  unfold binI
  by_cases h : k < 0
  · rw [if_pos h, if_neg (by omega)]
  · rw [if_neg h]
    by_cases h0 : k = 0
    · subst h0
      rfl
    · rw [if_neg h0, M11.bin_lt (by show 0 < k.toNat; omega)]
      rfl
theorem pw_lt {p r : Nat} (h0 : 0 < p) (h : p < 98) : ∀ i, pw p r i < 98
  | 0 => by show 1 < 98; decide
  | i + 1 => Nat.lt_trans (Nat.mod_lt _ h0) h
end M02

set_option Elab.async false
set_option linter.all false
set_option maxRecDepth 100000
set_option maxHeartbeats 4000000
set_option pp.deepTerms false
set_option pp.deepTerms.threshold 12
namespace K02
open PySem PySem.Spec PyProof.Rows L2
local macro_rules | `(tactic| walk_at "ty") => `(tactic| first | exact .base (.int _) | exact .base (.bl _) | exact .base (.str _) | exact .base .non | assumption | exact .base (.tup (by assumption)) | exact .base (.lst (by assumption)))
local macro_rules | `(tactic| walk_at "cm") => `(tactic| first | exact cm_r (by decide) (by decide) | exact cm_l (by decide) (by decide) | exact cm_fmod (by decide) (by decide) | exact cm_r (by omega) (by omega) | exact cm_l (by omega) (by omega))
local macro_rules | `(tactic| walk_at "dv") => `(tactic| first | exact ⟨by decide, by decide⟩ | exact ⟨by omega, by omega⟩)
local macro_rules | `(tactic| walk_at "r1") => `(tactic| first
  | refine ⟨_, rfl, ?_⟩ | refine ⟨_, _, rfl, rfl, ?_⟩ | refine Or.inl ⟨_, rfl, ?_⟩ | refine Or.inr ⟨_, rfl, ?_⟩
  | refine And.intro (a := CMul _ _) (by walk_at "cm") ?_ | refine And.intro (a := CDivN _ _) (by walk_at "dv") ?_ | refine And.intro (a := _ ≠ (0 : Int)) (by first | decide | omega) ?_ | refine And.intro (a := scal _ _ = true) rfl ?_ | refine ⟨_, _, _, _, rfl, rfl, SqL.of (by first | exact upd_same | assumption), rfl, ?_⟩ | refine ⟨_, _, _, _, rfl, rfl, (by first | exact upd_same | assumption), rfl, ?_⟩ | refine ⟨_, _, rfl, ?_⟩ | refine And.intro (a := (_ : V) = V.non) rfl ?_ | refine And.intro (a := CPow _ _) ⟨by decide, by decide, by decide⟩ ?_ | refine And.intro (a := (_ : List V) = []) rfl ?_ | refine ⟨_, _, rfl, SqT.of (by first | exact upd_same | assumption), rfl, ?_⟩
  | refine ⟨_, _, _, _, true, rfl, ClsV.ty _, (by walk_at "ty"), kit_ty (by decide +kernel), ?_⟩ | refine ⟨_, _, _, _, false, rfl, ClsV.ty _, (by walk_at "ty"), kit_ty (by decide +kernel), ?_⟩)
local macro_rules | `(tactic| walk_at "rd") => `(tactic| repeat walk_at "r1")
local macro_rules | `(tactic| walk_at "yes") => `(tactic| (change (if true = true then _ else _); rw [if_pos rfl]))
local macro_rules | `(tactic| walk_at "no") => `(tactic| (change (if false = true then _ else _); rw [if_neg Bool.false_ne_true]))
local macro_rules | `(tactic| walk_at "nw") => `(tactic| refine And.intro (a := _ ≤ sizeLine) (sz_le (Nat.le_of_ble_eq_true rfl)) ?_)

section
variable {P : Program} {w : World} {K : PySem.W.Frag} {mg : Str → Option Value} {base : Heap}
variable {C_VaultError C_TooMany C_NumberError C_BadPrime C_NoInverse C_NoNumber C_BadTable C_BadCells C_TextError C_ShapeError C_PlanError C_CourseError C_KnowError C_PaperError fV fI_BadPrime fI_NoInverse : Addr}
variable (T : Txt P K mg C_VaultError C_TooMany C_NumberError C_BadPrime C_NoInverse C_NoNumber C_BadTable C_BadCells C_TextError C_ShapeError C_PlanError C_CourseError C_KnowError C_PaperError fV fI_BadPrime fI_NoInverse)
include T
omit T in
theorem sq_ge {d : Nat} (h : 2 ≤ d) : (d : Int) ≤ (d : Int) * d := by
  rw [← Int.natCast_mul]
  have := Nat.le_mul_self d
  omega
omit T in
theorem isi_ty {K : PySem.W.Frag} {H : Hp} {x : V} {n m : String} {b : Bool} {Q : VK} (h : TyX K H x (.type n)) (e : kitB n m = some b) (q : Q (.bl b) H) : rIsi K [x, .ty m] H Q := ⟨x, .ty m, _, _, b, rfl, .ty m, h, kit_ty e, q⟩
/-- no int: a bool, None, a string, a tuple or a list -/
inductive NotInt (H : Hp) : V → String → Prop
  | bl (b : Bool) : NotInt H (.bl b) "bool"
  | non : NotInt H .non "NoneType"
  | str (s : Str) : NotInt H (.str s) "str"
  | tup (a : Addr) (xs : List V) (h : H a = some (.tup xs)) : NotInt H (.ref a) "tuple"
  | lst (a : Addr) (xs : List V) (h : H a = some (.lst xs)) : NotInt H (.ref a) "list"
omit T in
theorem NotInt.ty {K : PySem.W.Frag} {H : Hp} {x : V} {n : String} (h : NotInt H x n) : TyX K H x (.type n) := by
  cases h with
  | bl b => exact .base (.bl b)
  | non => exact .base .non
  | str s => exact .base (.str s)
  | tup a xs h => exact .base (.tup h)
  | lst a xs h => exact .base (.lst h)
def spWhole : Sp := fun vs H Q _ => ∃ v : V, vs = [v] ∧ ((∃ i, v = .int i ∧ Q (.bl true) H) ∨ (∃ n, NotInt H v n ∧ Q (.bl false) H))
theorem ok_is_whole {f : Addr} {fd : FuncData} (F : Fun K "is_whole" "is_whole" s_is_whole f fd) : FnOk P w K mg base CX0 1 f fd p_is_whole spWhole := by
  refine F.ok sc_is_whole (fun vs H Q E h => ?_) (fun cdv A outer s H vs Q E hr h => ?_)
  · obtain ⟨a, rfl, _⟩ := h
    rfl
  · obtain ⟨v, rfl, q⟩ := h
    refine ⟨_, (pss_one (ps_ret (by exact (pe_and (pe_callB call_isi (by rfl) T.b_isinstance (by first | exact PySem.boot_isinstance | decide +kernel) (pa_cons (pv 0) (pa_cons (pe_bltn (v := .ty "int") (by rfl) T.b_int (by first | exact PySem.boot_int | decide +kernel) rfl) pa_nil))) (pe_one (pe_not (pe_callB call_isi (by rfl) T.b_isinstance (by first | exact PySem.boot_isinstance | decide +kernel) (pa_cons (pv 0) (pa_cons (pe_bltn (v := .ty "bool") (by rfl) T.b_bool (by first | exact PySem.boot_bool | decide +kernel) rfl) pa_nil))))))))), ?_⟩
    walk_at "rd"
    rcases q with ⟨i, rfl, q⟩ | ⟨n, h, q⟩
    · walk_at "rd"
      exact q
    · cases h <;> (walk_at "rd"; exact q)
theorem ok_isint {f : Addr} {fd : FuncData} (F : Fun K "_law_isint" "_law_isint" s_isint f fd) : FnOk P w K mg base CX0 1 f fd p_isint spWhole := by
  refine F.ok sc_isint (fun vs H Q E h => ?_) (fun cdv A outer s H vs Q E hr h => ?_)
  · obtain ⟨a, rfl, _⟩ := h
    rfl
  · obtain ⟨v, rfl, q⟩ := h
    refine ⟨_, (pss_one (ps_ret (by exact (pe_and (pe_callB call_isi (by rfl) T.b_isinstance (by first | exact PySem.boot_isinstance | decide +kernel) (pa_cons (pv 0) (pa_cons (pe_bltn (v := .ty "int") (by rfl) T.b_int (by first | exact PySem.boot_int | decide +kernel) rfl) pa_nil))) (pe_one (pe_not (pe_callB call_isi (by rfl) T.b_isinstance (by first | exact PySem.boot_isinstance | decide +kernel) (pa_cons (pv 0) (pa_cons (pe_bltn (v := .ty "bool") (by rfl) T.b_bool (by first | exact PySem.boot_bool | decide +kernel) rfl) pa_nil))))))))), ?_⟩
    walk_at "rd"
    rcases q with ⟨i, rfl, q⟩ | ⟨n, h, q⟩
    · walk_at "rd"
      exact q
    · cases h <;> (walk_at "rd"; exact q)
def spWithin : Sp := fun vs H Q _ => ∃ (v : V) (a b : Int), vs = [v, .int a, .int b] ∧ ((∃ i, v = .int i ∧ ∀ c : Bool, (c = true ↔ a ≤ i ∧ i ≤ b) → Q (.bl c) H) ∨ (∃ n, NotInt H v n ∧ Q (.bl false) H))
theorem ok_lies_within {f : Addr} {fd : FuncData} (F : Fun K "lies_within" "lies_within" s_lies_within f fd) {f_is_whole : Addr} {fd_is_whole : FuncData} (D_is_whole : Def K mg "is_whole" s_is_whole p_is_whole f_is_whole fd_is_whole) (G_is_whole : FnOk P w K mg base CX0 1 f_is_whole fd_is_whole p_is_whole spWhole) : FnOk P w K mg base CX0 2 f fd p_lies_within spWithin := by
  refine F.ok sc_lies_within (fun vs H Q E h => ?_) (fun cdv A outer s H vs Q E hr h => ?_)
  · obtain ⟨v, a, b, rfl, _⟩ := h
    rfl
  · obtain ⟨v, a, b, rfl, q⟩ := h
    refine ⟨_, (pss_one (ps_ret (by exact (pe_and (pe_call G_is_whole (hr.mono (by decide)) rfl D_is_whole.g D_is_whole.fn.kp D_is_whole.b .nil pass0 (pa_cons (pv 0) pa_nil)) (pe_one (pe_chain op_le op_le (pv 1) (pv 0) (pv 2))))))), ?_⟩
    walk_at "rd"
    rcases q with ⟨i, rfl, q⟩ | ⟨n, h, q⟩
    · refine .inl ⟨i, rfl, ?_⟩
      walk_at "rd"
      refine ite2 (fun hc => ?_) (fun hc => ?_)
      · have h1 := of_decide_eq_true hc
        walk_at "rd"
        refine q _ ⟨fun z => ⟨h1, of_decide_eq_true z⟩, fun z => decide_eq_true z.2⟩
      · have h1 := of_ndec hc
        exact q false ⟨fun z => (nomatch z), fun z => absurd z.1 h1⟩
    · refine .inr ⟨n, h, ?_⟩
      walk_at "rd"
      exact q
def spIsP : Sp := fun vs H Q _ => ∃ n : Int, vs = [.int n] ∧ n ≤ 20000 ∧ ∀ b : Bool, (b = true ↔ M02.IsP n) → Q (.bl b) H
theorem ok_is_prime {f : Addr} {fd : FuncData} (F : Fun K "is_prime" "is_prime" s_is_prime f fd) : FnOk P w K mg base CX0 1 f fd p_is_prime spIsP := by
  refine F.ok sc_is_prime (fun vs H Q E h => ?_) (fun cdv A outer s H vs Q E hr h => ?_)
  · obtain ⟨n, rfl, _⟩ := h
    rfl
  · obtain ⟨n, rfl, hn, q⟩ := h
    refine ⟨_, (pss_cons (ps_if (pt_cmpR op_lt (pv 0) pe_int (nomark _)) (pss_one (ps_ret (by exact pe_bl))) pss_nil)
      (pss_cons (ps_set (i := 1) sc_is_prime.nd rfl (Or.inl rfl) (by exact pe_int))
      (pss_cons (ps_while PassesOwn.never (pt_cmpR op_le (pe_op op_mul (pv 1) (pv 1)) (pv 0) (nomark _)) (pss_cons (ps_if (pt_cmpR op_eq (pe_op op_modN (pv 0) (pv 1)) pe_int (nomark _)) (pss_one (ps_ret (by exact pe_bl))) pss_nil)
          (pss_one (ps_aug (i := 1) sc_is_prime.nd rfl (Or.inl rfl) pe_int ip_add))))
      (pss_one (ps_ret (by exact pe_bl)))))), ?_⟩
    walk_at "rd"
    refine ite2 (fun hc => ?_) (fun hc => ?_)
    · have h2 := of_decide_eq_true hc
      walk_at "rd"
      exact q false ⟨fun z => (nomatch z), fun z => absurd z.1 (by omega)⟩
    have h2 : 2 ≤ n := by
      have := of_ndec hc
      omega
    walk_at "rd"
    refine ⟨fun m σ H' => ∃ d : Nat, m = n.toNat + 2 - d ∧ 2 ≤ d ∧ (d : Int) ≤ n + 1 ∧ M02.Free n d ∧ σ = [some (.int n), some (.int d)] ∧ H' = H, ⟨_, 2, rfl, Nat.le_refl 2, by omega, .two n, rfl, rfl⟩, ?_⟩
    rintro m σ H' ⟨d, rfl, d2, dn, hf, rfl, rfl⟩
    walk_at "rd"
    refine ite2 (fun hc => ?_) (fun hc => ?_)
    · have hle := of_decide_eq_true hc
      have hdn := Int.le_trans (sq_ge d2) hle
      refine ⟨fun σ' H'' => ∃ m', m' < n.toNat + 2 - d ∧ ∃ d : Nat, m' = n.toNat + 2 - d ∧ 2 ≤ d ∧ (d : Int) ≤ n + 1 ∧ M02.Free n d ∧ σ' = [some (.int n), some (.int d)] ∧ H'' = H', fun _ _ h => h, ?_⟩
      walk_at "rd"
      have em : n.fmod (d : Int) = n % (d : Int) := Int.fmod_eq_emod_of_nonneg _ (by omega)
      refine ite2 (fun hc => ?_) (fun hc => ?_)
      · have h0 := V.int.inj (of_decide_eq_true hc)
        walk_at "rd"
        exact q false ⟨fun z => (nomatch z), fun z => absurd z (M02.not_isP d2 hle (by rw [← em]; exact h0))⟩
      · have h0 : n % (d : Int) ≠ 0 := fun z => of_ndec hc (congrArg V.int (em.trans z))
        walk_at "rd"
        exact ⟨_, by omega, d + 1, rfl, by omega, by omega, hf.succ h0, rfl, rfl⟩
    · have hgt := of_ndec hc
      walk_at "rd"
      exact q true ⟨fun _ => hf.isP h2 (by omega), fun _ => rfl⟩
def spUndiv : Sp := fun vs H Q _ => ∃ n : Int, vs = [.int n] ∧ n ≤ 10000 ∧ ∀ b : Bool, (b = true ↔ M02.IsP n) → Q (.bl b) H
theorem ok_undivided {f : Addr} {fd : FuncData} (F : Fun K "_law_undivided" "_law_undivided" s_undivided f fd) : FnOk P w K mg base CX0 1 f fd p_undivided spUndiv := by
  refine F.ok sc_undivided (fun vs H Q E h => ?_) (fun cdv A outer s H vs Q E hr h => ?_)
  · obtain ⟨n, rfl, _⟩ := h
    rfl
  · obtain ⟨n, rfl, hn, q⟩ := h
    refine ⟨_, (pss_cons (ps_for PassesOwn.never rfl (pi_range2 (by rfl) T.b_range (pa_cons pe_int (pa_cons pe_int pa_nil))) (pg_name (i := 1) sc_undivided.nd rfl (Or.inl rfl)) (pss_cons (ps_if (pt_cmpR op_gt (pe_op op_mul (pv 1) (pv 1)) (pv 0) (nomark _)) (pss_one ps_break) pss_nil)
          (pss_one (ps_if (pt_cmpR op_eq (pe_op op_modN (pe_callTy call_int1 (by rfl) T.b_int (by first | exact PySem.boot_int | decide +kernel) (pa_cons (pv 0) pa_nil)) (pv 1)) pe_int (nomark _)) (pss_one (ps_ret (by exact pe_bl))) pss_nil))))
      (pss_one (ps_ret (by exact (pe_cmpR op_ge (pv 0) pe_int (nomark _)))))), ?_⟩
    walk_at "rd"
    refine ⟨⟨by decide, by decide, by decide, by decide⟩, ?_⟩
    refine for_range (fun i σ H' => ∃ v : Option V, σ = [some (.int n), v] ∧ H' = H ∧ M02.Free n (i + 2)) ⟨none, rfl, rfl, .two n⟩ ?_ ?_
    · rintro i σ H' hi ⟨v, rfl, rfl, hf⟩
      have hi2 : i < 99 := hi
      have ei : (2 : Int) + (i : Int) = ((i + 2 : Nat) : Int) := by omega
      walk_at "rd"
      refine ite2 (fun hc => ?_) (fun hc => ?_)
      · have hgt := of_decide_eq_true hc
        rw [ei] at hgt
        walk_at "rd"
        refine q _ ⟨fun z => hf.isP (of_decide_eq_true z) hgt, fun z => decide_eq_true z.1⟩
      · have hle := of_ndec hc
        rw [ei] at hle
        have em : n.fmod ((i + 2 : Nat) : Int) = n % ((i + 2 : Nat) : Int) := Int.fmod_eq_emod_of_nonneg _ (by omega)
        walk_at "rd"
        refine ite2 (fun hc => ?_) (fun hc => ?_)
        · have h0 := V.int.inj (of_decide_eq_true hc)
          rw [ei, em] at h0
          walk_at "rd"
          exact q false ⟨fun z => (nomatch z), fun z => absurd z (M02.not_isP (by omega) (by omega) h0)⟩
        · have h0 : n % ((i + 2 : Nat) : Int) ≠ 0 := fun z => of_ndec hc (congrArg V.int (by rw [ei, em, z]))
          exact ⟨_, rfl, rfl, hf.succ h0⟩
    · rintro σ H' ⟨v, rfl, rfl, hf⟩
      walk_at "rd"
      refine q _ ⟨fun z => M02.Free.isP (k := 101) hf (of_decide_eq_true z) (by omega), fun z => decide_eq_true z.1⟩
omit T in
theorem minsub {n k : Nat} (hk : k ≤ n) : (if (n : Int) - k < k then (n : Int) - k else (k : Int)) = ((min k (n - k) : Nat) : Int) := by
  by_cases h : n - k < k
  · rw [if_pos (by omega), Nat.min_eq_right (by omega)]
    omega
  · rw [if_neg (by omega), Nat.min_eq_left (by omega)]
omit T in
theorem fdiv_nat (a b : Nat) : ((a : Int).fdiv (b : Int)) = ((a / b : Nat) : Int) := by
  rw [Int.fdiv_eq_ediv_of_nonneg _ (by omega)]
  rfl
omit T in
theorem binN {n j : Nat} (h : j ≤ n) : (((M11.bin n j : Nat) : Int) * ((n : Int) - j)).fdiv ((j : Int) + 1) = ((M11.bin n (j + 1) : Nat) : Int) := by
  have e : ((M11.bin n j : Nat) : Int) * ((n : Int) - j) = ((M11.bin n j * (n - j) : Nat) : Int) := by
    rw [Int.natCast_mul, Int.ofNat_sub h]
  rw [e, show (j : Int) + 1 = ((j + 1 : Nat) : Int) from rfl, fdiv_nat, M11.bin_step]
def spCh : Sp := fun vs H Q _ => ∃ n k : Int, vs = [.int n, .int k] ∧ (0 ≤ n ∧ n ≤ 1000) ∧ Q (.int (M02.binI n k)) H
theorem ok_choose {f : Addr} {fd : FuncData} (F : Fun K "choose" "choose" s_choose f fd) : FnOk P w K mg base CX0 1 f fd p_choose spCh := by
  refine F.ok sc_choose (fun vs H Q E h => ?_) (fun cdv A outer s H vs Q E hr h => ?_)
  · obtain ⟨n, k, rfl, _⟩ := h
    rfl
  · obtain ⟨n, k, rfl, ⟨hn0, hn⟩, q⟩ := h
    refine ⟨_, (pss_cons (ps_if (PW.pt (pw_or (pt_cmpR op_lt (pv 1) pe_int (nomark _)) (pw_or1 (pt_cmpR op_gt (pv 1) (pv 0) (nomark _))))) (pss_one (ps_ret (by exact pe_int))) pss_nil)
      (pss_cons (ps_set (i := 2) sc_choose.nd rfl (Or.inl rfl) (by exact pe_int))
      (pss_cons (ps_for PassesOwn.never rfl (pi_range1 (by rfl) T.b_range (pa_cons (pe_callB (call_min2 rfl) (by rfl) T.b_min (by first | exact PySem.boot_min | decide +kernel) (pa_cons (pv 1) (pa_cons (pe_op op_sub (pv 0) (pv 1)) pa_nil))) pa_nil)) (pg_name (i := 3) sc_choose.nd rfl (Or.inl rfl)) (pss_one (ps_set (i := 2) sc_choose.nd rfl (Or.inl rfl) (by exact (pe_op op_fdivN (pe_op op_mul (pv 2) (pe_op op_sub (pv 0) (pv 3))) (pe_op op_add (pv 3) pe_int))))))
      (pss_one (ps_ret (by exact (pv 2))))))), ?_⟩
    unfold M02.binI at q
    walk_at "rd"
    refine ite2 (fun hc => ?_) (fun hc => ?_)
    · have h0 := of_decide_eq_true hc
      walk_at "rd"
      rw [if_pos h0] at q
      exact q
    have h0 := of_ndec hc
    rw [if_neg h0] at q
    obtain ⟨n, rfl⟩ : ∃ m : Nat, n = (m : Int) := ⟨n.toNat, by omega⟩
    obtain ⟨k, rfl⟩ : ∃ m : Nat, k = (m : Int) := ⟨k.toNat, by omega⟩
    have q : Q (.int (M11.bin n k : Nat)) H := q
    walk_at "rd"
    refine ite2 (fun hc => ?_) (fun hc => ?_)
    · have := of_decide_eq_true hc
      walk_at "rd"
      rw [M11.bin_lt (by omega)] at q
      exact q
    have hk : k ≤ n := by
      have := of_ndec hc
      omega
    walk_at "rd"
    rw [minsub hk]
    have hm : min k (n - k) ≤ n := Nat.le_trans (Nat.min_le_left _ _) hk
    refine ⟨by omega, by omega, ?_⟩
    refine for_range (fun i σ H' => ∃ v : Option V, σ = [some (.int n), some (.int k), some (.int (M11.bin n i : Nat)), v] ∧ H' = H) ⟨none, by rw [M11.bin_0]; rfl, rfl⟩ ?_ ?_
    · rintro i σ H' hi ⟨v, rfl, rfl⟩
      have hi2 : i < min k (n - k) := hi
      walk_at "rd"
      refine ⟨some (.int (0 + i)), ?_, rfl⟩
      rw [show (0 : Int) + (i : Int) = i from Int.zero_add _]
      show [_, _, some (V.int ((((M11.bin n i : Nat) : Int) * ((n : Int) - (i : Int))).fdiv ((i : Int) + 1))), _] = _
      rw [binN (by omega)]
    · rintro σ H' ⟨v, rfl, rfl⟩
      walk_at "rd"
      show Q (.int ((M11.bin n (min k (n - k)) : Nat) : Int)) _
      rw [M11.bin_min hk]
      exact q
theorem ok_binomial {f : Addr} {fd : FuncData} (F : Fun K "_law_binomial" "_law_binomial" s_binomial f fd) : FnOk P w K mg base CX0 1 f fd p_binomial spCh := by
  refine F.ok sc_binomial (fun vs H Q E h => ?_) (fun cdv A outer s H vs Q E hr h => ?_)
  · obtain ⟨n, k, rfl, _⟩ := h
    rfl
  · obtain ⟨n, k, rfl, ⟨hn0, hn⟩, q⟩ := h
    refine ⟨_, (pss_cons (ps_if (PW.pt (pw_or (pt_cmpR op_lt (pv 1) pe_int (nomark _)) (pw_or1 (pt_cmpR op_gt (pv 1) (pv 0) (nomark _))))) (pss_one (ps_ret (by exact pe_int))) pss_nil)
      (pss_cons (ps_set (i := 2) sc_binomial.nd rfl (Or.inl rfl) (by exact pe_int))
      (pss_cons (ps_for PassesOwn.never rfl (pi_range1 (by rfl) T.b_range (pa_cons (pe_callB (call_min2 rfl) (by rfl) T.b_min (by first | exact PySem.boot_min | decide +kernel) (pa_cons (pv 1) (pa_cons (pe_op op_sub (pv 0) (pv 1)) pa_nil))) pa_nil)) (pg_name (i := 3) sc_binomial.nd rfl (Or.inl rfl)) (pss_one (ps_set (i := 2) sc_binomial.nd rfl (Or.inl rfl) (by exact (pe_op op_fdivN (pe_op op_mul (pv 2) (pe_op op_sub (pv 0) (pv 3))) (pe_op op_add (pv 3) pe_int))))))
      (pss_one (ps_ret (by exact (pv 2))))))), ?_⟩
    unfold M02.binI at q
    walk_at "rd"
    refine ite2 (fun hc => ?_) (fun hc => ?_)
    · have h0 := of_decide_eq_true hc
      walk_at "rd"
      rw [if_pos h0] at q
      exact q
    have h0 := of_ndec hc
    rw [if_neg h0] at q
    obtain ⟨n, rfl⟩ : ∃ m : Nat, n = (m : Int) := ⟨n.toNat, by omega⟩
    obtain ⟨k, rfl⟩ : ∃ m : Nat, k = (m : Int) := ⟨k.toNat, by omega⟩
    have q : Q (.int (M11.bin n k : Nat)) H := q
    walk_at "rd"
    refine ite2 (fun hc => ?_) (fun hc => ?_)
    · have := of_decide_eq_true hc
      walk_at "rd"
      rw [M11.bin_lt (by omega)] at q
      exact q
    have hk : k ≤ n := by
      have := of_ndec hc
      omega
    walk_at "rd"
    rw [minsub hk]
    have hm : min k (n - k) ≤ n := Nat.le_trans (Nat.min_le_left _ _) hk
    refine ⟨by omega, by omega, ?_⟩
    refine for_range (fun i σ H' => ∃ v : Option V, σ = [some (.int n), some (.int k), some (.int (M11.bin n i : Nat)), v] ∧ H' = H) ⟨none, by rw [M11.bin_0]; rfl, rfl⟩ ?_ ?_
    · rintro i σ H' hi ⟨v, rfl, rfl⟩
      have hi2 : i < min k (n - k) := hi
      walk_at "rd"
      refine ⟨some (.int (0 + i)), ?_, rfl⟩
      rw [show (0 : Int) + (i : Int) = i from Int.zero_add _]
      show [_, _, some (V.int ((((M11.bin n i : Nat) : Int) * ((n : Int) - (i : Int))).fdiv ((i : Int) + 1))), _] = _
      rw [binN (by omega)]
    · rintro σ H' ⟨v, rfl, rfl⟩
      walk_at "rd"
      show Q (.int ((M11.bin n (min k (n - k)) : Nat) : Int)) _
      rw [M11.bin_min hk]
      exact q
/-- a number from 0 to below the greater of 1 and m, of any size -/
def spWide : Sp := fun vs H Q _ => ∃ (st : Addr) (m : Int), vs = [.ref st, .int m] ∧ Store H st ∧ ∀ d H', 0 ≤ d → Store H' st → But st H H' → Q (.int d) H'
theorem ok_wide {f : Addr} {fd : FuncData} (F : Fun K "_law_wide" "_law_wide" s_wide f fd) {f_take : Addr} {fd_take : FuncData} (D_take : Def K mg "_law_take" s_take p_take f_take fd_take) (G_take : FnOk P w K mg base CX0 2 f_take fd_take p_take spTake) : FnOk P w K mg base CX0 3 f fd p_wide spWide := by
  refine F.ok sc_wide (fun vs H Q E h => ?_) (fun cdv A outer s H vs Q E hr h => ?_)
  · obtain ⟨st, m, rfl, _⟩ := h
    rfl
  · obtain ⟨st, m, rfl, S, q⟩ := h
    refine ⟨_, (pss_cons (ps_set (i := 2) sc_wide.nd rfl (Or.inl rfl) (by exact pe_int))
      (pss_cons (ps_for PassesOwn.never rfl (pi_range1 (by rfl) T.b_range (pa_cons pe_int pa_nil)) (pg_name (i := 3) sc_wide.nd rfl (Or.inl rfl)) (pss_one (ps_set (i := 2) sc_wide.nd rfl (Or.inl rfl) (by exact (pe_op op_add (pe_op op_mul (pv 2) pe_int) (pe_call G_take (hr.mono (by decide)) rfl D_take.g D_take.fn.kp D_take.b .nil pass0 (pa_cons (pv 0) (pa_cons pe_int pa_nil))))))))
      (pss_one (ps_ret (by exact (pe_op op_modN (pe_callTy call_int1 (by rfl) T.b_int (by first | exact PySem.boot_int | decide +kernel) (pa_cons (pv 2) pa_nil)) (pe_callB (call_max2 rfl) (by rfl) T.b_max (by first | exact PySem.boot_max | decide +kernel) (pa_cons pe_int (pa_cons (pe_callTy call_int1 (by rfl) T.b_int (by first | exact PySem.boot_int | decide +kernel) (pa_cons (pv 1) pa_nil)) pa_nil))))))))), ?_⟩
    walk_at "rd"
    refine ⟨by decide, by decide, ?_⟩
    refine for_range (fun i σ H' => ∃ (t : Int) (v : Option V), σ = [some (.ref st), some (.int m), some (.int t), v] ∧ Store H' st ∧ But st H H') ⟨0, none, rfl, S, .refl⟩ ?_ ?_
    · rintro i σ H1 hi ⟨t, v, rfl, S1, b1⟩
      walk_at "rd"
      refine ⟨by decide, S1, fun d H2 d0 d1 S2 b2 => ?_⟩
      walk_at "rd"
      exact ⟨S2, b1.trans b2⟩
    · rintro σ H1 ⟨t, v, rfl, S1, b1⟩
      walk_at "rd"
      have hm : 0 < (if m > 1 then m else 1) := by split <;> omega
      exact q _ H1 (fm_lo hm) S1 b1
def spInt : Sp := fun vs H Q _ => ∃ st : Addr, vs = [.ref st] ∧ Store H st ∧ ∀ d H', Store H' st → But st H H' → Q (.int d) H'
theorem ok_int {f : Addr} {fd : FuncData} (F : Fun K "_law_int" "_law_int" s_int f fd) {f_take : Addr} {fd_take : FuncData} (D_take : Def K mg "_law_take" s_take p_take f_take fd_take) (G_take : FnOk P w K mg base CX0 2 f_take fd_take p_take spTake) {f_wide : Addr} {fd_wide : FuncData} (D_wide : Def K mg "_law_wide" s_wide p_wide f_wide fd_wide) (G_wide : FnOk P w K mg base CX0 3 f_wide fd_wide p_wide spWide) : FnOk P w K mg base CX0 4 f fd p_int spInt := by
  refine F.ok sc_int (fun vs H Q E h => ?_) (fun cdv A outer s H vs Q E hr h => ?_)
  · obtain ⟨st, rfl, _⟩ := h
    rfl
  · obtain ⟨st, rfl, S, q⟩ := h
    refine ⟨_, (pss_cons (ps_set (i := 1) sc_int.nd rfl (Or.inl rfl) (by exact (pe_call G_take (hr.mono (by decide)) rfl D_take.g D_take.fn.kp D_take.b .nil pass0 (pa_cons (pv 0) (pa_cons pe_int pa_nil)))))
      (pss_cons (ps_if (pt_cmpR op_eq (pv 1) pe_int (nomark _)) (pss_one (ps_ret (by exact (pe_call G_wide (hr.mono (by decide)) rfl D_wide.g D_wide.fn.kp D_wide.b .nil pass0 (pa_cons (pv 0) (pa_cons (pe_op op_pow pe_int pe_int) pa_nil)))))) pss_nil)
      (pss_cons (ps_if (pt_cmpR op_eq (pv 1) pe_int (nomark _)) (pss_one (ps_ret (by exact (pe_op op_sub pe_int (pe_call G_wide (hr.mono (by decide)) rfl D_wide.g D_wide.fn.kp D_wide.b .nil pass0 (pa_cons (pv 0) (pa_cons (pe_op op_pow pe_int pe_int) pa_nil))))))) pss_nil)
      (pss_cons (ps_if (pt_cmpR op_eq (pv 1) pe_int (nomark _)) (pss_one (ps_ret (by exact (pe_op op_sub (pe_call G_take (hr.mono (by decide)) rfl D_take.g D_take.fn.kp D_take.b .nil pass0 (pa_cons (pv 0) (pa_cons pe_int pa_nil))) pe_int)))) pss_nil)
      (pss_one (ps_ret (by exact (pe_op op_sub (pe_call G_take (hr.mono (by decide)) rfl D_take.g D_take.fn.kp D_take.b .nil pass0 (pa_cons (pv 0) (pa_cons pe_int pa_nil))) pe_int)))))))), ?_⟩
    walk_at "rd"
    refine ⟨by decide, S, fun d H1 d0 d1 S1 b1 => ?_⟩
    walk_at "rd"
    refine ite2 (fun hc => ?_) (fun hc => ?_)
    · walk_at "rd"
      refine ⟨S1, fun d H2 d0 S2 b2 => ?_⟩
      exact q _ H2 S2 (b1.trans b2)
    walk_at "rd"
    refine ite2 (fun hc => ?_) (fun hc => ?_)
    · walk_at "rd"
      refine ⟨S1, fun d H2 d0 S2 b2 => ?_⟩
      walk_at "rd"
      exact q _ H2 S2 (b1.trans b2)
    walk_at "rd"
    refine ite2 (fun hc => ?_) (fun hc => ?_)
    · walk_at "rd"
      refine ⟨by decide, S1, fun d H2 d0 d1 S2 b2 => ?_⟩
      walk_at "rd"
      exact q _ H2 S2 (b1.trans b2)
    · walk_at "rd"
      refine ⟨by decide, S1, fun d H2 d0 d1 S2 b2 => ?_⟩
      walk_at "rd"
      exact q _ H2 S2 (b1.trans b2)
def spPrimes : Sp := fun vs H Q _ => vs = [] ∧ ∀ p, H p = none → Q (.ref p) (upd H p (.lst (M02.primes.map V.int)))
theorem ok_primes {f : Addr} {fd : FuncData} (F : Fun K "_law_primes" "_law_primes" s_primes f fd) : FnOk P w K mg base CX0 1 f fd p_primes spPrimes := by
  refine F.ok sc_primes (fun vs H Q E h => ?_) (fun cdv A outer s H vs Q E hr h => ?_)
  · obtain ⟨rfl, _⟩ := h
    rfl
  · obtain ⟨rfl, q⟩ := h
    refine ⟨_, (pss_one (ps_ret (by exact (pe_lst (pa_cons pe_int (pa_cons pe_int (pa_cons pe_int (pa_cons pe_int (pa_cons pe_int (pa_cons pe_int (pa_cons pe_int (pa_cons pe_int (pa_cons pe_int (pa_cons pe_int (pa_cons pe_int (pa_cons pe_int (pa_cons pe_int (pa_cons pe_int (pa_cons pe_int (pa_cons pe_int (pa_cons pe_int (pa_cons pe_int (pa_cons pe_int (pa_cons pe_int (pa_cons pe_int (pa_cons pe_int (pa_cons pe_int (pa_cons pe_int (pa_cons pe_int pa_nil))))))))))))))))))))))))))))), ?_⟩
    walk_at "rd"
    walk_at "nw"
    intro p hp
    exact q p hp
def spPrime : Sp := fun vs H Q _ => ∃ st : Addr, vs = [.ref st] ∧ Store H st ∧ ∀ d H', d ∈ M02.primes → Store H' st → But st H H' → Q (.int d) H'
theorem ok_prime {f : Addr} {fd : FuncData} (F : Fun K "_law_prime" "_law_prime" s_prime f fd) {f_take : Addr} {fd_take : FuncData} (D_take : Def K mg "_law_take" s_take p_take f_take fd_take) (G_take : FnOk P w K mg base CX0 2 f_take fd_take p_take spTake) {f_pick : Addr} {fd_pick : FuncData} (D_pick : Def K mg "_law_pick" s_pick p_pick f_pick fd_pick) (G_pick : FnOk P w K mg base CX0 3 f_pick fd_pick p_pick spPick) {f_primes : Addr} {fd_primes : FuncData} (D_primes : Def K mg "_law_primes" s_primes p_primes f_primes fd_primes) (G_primes : FnOk P w K mg base CX0 1 f_primes fd_primes p_primes spPrimes) : FnOk P w K mg base CX0 4 f fd p_prime spPrime := by
  refine F.ok sc_prime (fun vs H Q E h => ?_) (fun cdv A outer s H vs Q E hr h => ?_)
  · obtain ⟨st, rfl, _⟩ := h
    rfl
  · obtain ⟨st, rfl, S, q⟩ := h
    refine ⟨_, (pss_cons (ps_set (i := 1) sc_prime.nd rfl (Or.inl rfl) (by exact (pe_call G_pick (hr.mono (by decide)) rfl D_pick.g D_pick.fn.kp D_pick.b .nil pass0 (pa_cons (pv 0) (pa_cons (pe_lst (pa_cons pe_int (pa_cons pe_int (pa_cons pe_int pa_nil)))) pa_nil)))))
      (pss_one (ps_ret (by exact (pe_ix ix_list (pe_call0 G_primes (hr.mono (by decide)) rfl D_primes.g D_primes.fn.kp D_primes.b .nil pass0) (pe_call G_take (hr.mono (by decide)) rfl D_take.g D_take.fn.kp D_take.b .nil pass0 (pa_cons (pv 0) (pa_cons (pv 1) pa_nil))) (fun _ _ => rfl)))))), ?_⟩
    walk_at "rd"
    walk_at "nw"
    intro l hl
    obtain ⟨u, hu⟩ := S.some
    walk_at "rd"
    refine ⟨st, l, _, rfl, upd_same, (ne_of_none hu hl).symm, Nat.le_of_ble_eq_true rfl, Nat.le_of_ble_eq_true rfl, S.keep (same_new hl), fun v H1 hv S1 b1 => ?_⟩
    obtain ⟨m, rfl, hm⟩ : ∃ m : Int, v = .int m ∧ 1 < m ∧ m ≤ 25 := by
      simp only [List.mem_cons, List.mem_nil_iff, or_false] at hv
      rcases hv with rfl | rfl | rfl
      · exact ⟨2, rfl, by decide⟩
      · exact ⟨5, rfl, by decide⟩
      · exact ⟨25, rfl, by decide⟩
    walk_at "rd"
    intro l2 h2
    obtain ⟨u1, hu1⟩ := S1.some
    walk_at "rd"
    refine ⟨by omega, S1.keep (same_new h2), fun d H2 d0 d1 S2 b2 => ?_⟩
    rw [if_pos (by omega)] at d1
    obtain ⟨j, rfl⟩ : ∃ j : Nat, d = (j : Int) := ⟨d.toNat, by omega⟩
    have hl25 : M02.primes.length = 25 := rfl
    have hj : j < M02.primes.length := by omega
    refine ⟨l2, _, _, _, rfl, rfl, SqL.of (b2 _ _ (ne_of_none hu1 h2).symm upd_same), atI_nat (by rw [List.getElem?_map, List.getElem?_eq_getElem hj]; rfl), ?_⟩
    exact q _ H2 (List.getElem_mem hj) S2 (((But.of (same_new hl)).trans b1).trans ((But.of (same_new h2)).trans b2))
end
end K02

set_option Elab.async false
set_option linter.all false
set_option maxRecDepth 100000
set_option maxHeartbeats 4000000
set_option pp.deepTerms false
set_option pp.deepTerms.threshold 12
namespace K02
open PySem PySem.Spec PyProof.Rows L2
local macro_rules | `(tactic| walk_at "ty") => `(tactic| first | exact .base (.int _) | exact .base (.bl _) | exact .base (.str _) | exact .base .non | assumption | exact .base (.tup (by assumption)) | exact .base (.lst (by assumption)))
local macro_rules | `(tactic| walk_at "cm") => `(tactic| first | exact cm_r (by decide) (by decide) | exact cm_l (by decide) (by decide) | exact cm_fmod (by decide) (by decide) | exact cm_r (by omega) (by omega) | exact cm_l (by omega) (by omega))
local macro_rules | `(tactic| walk_at "dv") => `(tactic| first | exact ⟨by decide, by decide⟩ | exact ⟨by omega, by omega⟩)
local macro_rules | `(tactic| walk_at "r1") => `(tactic| first
  | refine ⟨_, rfl, ?_⟩ | refine ⟨_, _, rfl, rfl, ?_⟩ | refine Or.inl ⟨_, rfl, ?_⟩ | refine Or.inr ⟨_, rfl, ?_⟩
  | refine And.intro (a := CMul _ _) (by walk_at "cm") ?_ | refine And.intro (a := CDivN _ _) (by walk_at "dv") ?_ | refine And.intro (a := _ ≠ (0 : Int)) (by first | decide | omega) ?_ | refine And.intro (a := scal _ _ = true) rfl ?_ | refine ⟨_, _, _, _, rfl, rfl, SqL.of (by first | exact upd_same | assumption), rfl, ?_⟩ | refine ⟨_, _, _, _, rfl, rfl, (by first | exact upd_same | assumption), rfl, ?_⟩ | refine ⟨_, _, rfl, ?_⟩ | refine And.intro (a := (_ : V) = V.non) rfl ?_ | refine And.intro (a := CPow _ _) ⟨by decide, by decide, by decide⟩ ?_ | refine And.intro (a := (_ : List V) = []) rfl ?_ | refine ⟨_, _, rfl, SqT.of (by first | exact upd_same | assumption), rfl, ?_⟩
  | refine ⟨_, _, _, _, true, rfl, ClsV.ty _, (by walk_at "ty"), kit_ty (by decide +kernel), ?_⟩ | refine ⟨_, _, _, _, false, rfl, ClsV.ty _, (by walk_at "ty"), kit_ty (by decide +kernel), ?_⟩)
local macro_rules | `(tactic| walk_at "rd") => `(tactic| repeat walk_at "r1")
local macro_rules | `(tactic| walk_at "yes") => `(tactic| (change (if true = true then _ else _); rw [if_pos rfl]))
local macro_rules | `(tactic| walk_at "no") => `(tactic| (change (if false = true then _ else _); rw [if_neg Bool.false_ne_true]))
local macro_rules | `(tactic| walk_at "nw") => `(tactic| refine And.intro (a := _ ≤ sizeLine) (sz_le (Nat.le_of_ble_eq_true rfl)) ?_)

section
variable {P : Program} {w : World} {K : PySem.W.Frag} {mg : Str → Option Value} {base : Heap}
variable {C_VaultError C_TooMany C_NumberError C_BadPrime C_NoInverse C_NoNumber C_BadTable C_BadCells C_TextError C_ShapeError C_PlanError C_CourseError C_KnowError C_PaperError fV fI_BadPrime fI_NoInverse : Addr}
variable (T : Txt P K mg C_VaultError C_TooMany C_NumberError C_BadPrime C_NoInverse C_NoNumber C_BadTable C_BadCells C_TextError C_ShapeError C_PlanError C_CourseError C_KnowError C_PaperError fV fI_BadPrime fI_NoInverse)
include T
omit T in
theorem st_ne {st l : Addr} {H : Hp} (S : Store H st) (h : H l = none) : l ≠ st := by
  obtain ⟨u, hu⟩ := S.some
  exact (ne_of_none hu h).symm
/-- what is no prime to 97 -/
inductive NoP (st : Addr) (H : Hp) : V → Prop
  | int (i : Int) (h : i ∉ M02.primes) : NoP st H (.int i)
  | bl (b : Bool) : NoP st H (.bl b)
  | non : NoP st H .non
  | str (s : Str) : NoP st H (.str s)
  | tup (a : Addr) (n : a ≠ st) (h : H a = some (.tup [.int 7])) : NoP st H (.ref a)
  | tup0 (a : Addr) (n : a ≠ st) (h : H a = some (.tup [])) : NoP st H (.ref a)
  | lst (a : Addr) (n : a ≠ st) (h : H a = some (.lst [.int 7])) : NoP st H (.ref a)
omit T in
theorem NoP.keep {st : Addr} {H H' : Hp} {v : V} (b : NoP st H v) (h : But st H H') : NoP st H' v := by
  cases b with
  | int i q => exact .int i q
  | bl b => exact .bl b
  | non => exact .non
  | str s => exact .str s
  | tup a n e => exact .tup a n (h _ _ n e)
  | tup0 a n e => exact .tup0 a n (h _ _ n e)
  | lst a n e => exact .lst a n (h _ _ n e)
def NoV (H : Hp) (v : V) : Prop := (∃ i, v = .int i ∧ i ∉ M02.primes) ∨ (∃ n, NotInt H v n)
omit T in
theorem NoP.no {st : Addr} {H : Hp} {v : V} (b : NoP st H v) : NoV H v := by
  cases b with
  | int i q => exact .inl ⟨i, rfl, q⟩
  | bl b => exact .inr ⟨_, .bl b⟩
  | non => exact .inr ⟨_, .non⟩
  | str s => exact .inr ⟨_, .str s⟩
  | tup a n e => exact .inr ⟨_, .tup a _ e⟩
  | tup0 a n e => exact .inr ⟨_, .tup a _ e⟩
  | lst a n e => exact .inr ⟨_, .lst a _ e⟩
def spNoP : Sp := fun vs H Q _ => ∃ st : Addr, vs = [.ref st] ∧ Store H st ∧ ∀ v H', NoP st H' v → Store H' st → But st H H' → Q v H'
theorem ok_noprime {f : Addr} {fd : FuncData} (F : Fun K "_law_noprime" "_law_noprime" s_noprime f fd) {f_prime : Addr} {fd_prime : FuncData} (D_prime : Def K mg "_law_prime" s_prime p_prime f_prime fd_prime) (G_prime : FnOk P w K mg base CX0 4 f_prime fd_prime p_prime spPrime) {f_wide : Addr} {fd_wide : FuncData} (D_wide : Def K mg "_law_wide" s_wide p_wide f_wide fd_wide) (G_wide : FnOk P w K mg base CX0 3 f_wide fd_wide p_wide spWide) {f_pick : Addr} {fd_pick : FuncData} (D_pick : Def K mg "_law_pick" s_pick p_pick f_pick fd_pick) (G_pick : FnOk P w K mg base CX0 3 f_pick fd_pick p_pick spPick) : FnOk P w K mg base CX0 5 f fd p_noprime spNoP := by
  refine F.ok sc_noprime (fun vs H Q E h => ?_) (fun cdv A outer s H vs Q E hr h => ?_)
  · obtain ⟨st, rfl, _⟩ := h
    rfl
  · obtain ⟨st, rfl, S, q⟩ := h
    refine ⟨_, (pss_cons (ps_set (i := 1) sc_noprime.nd rfl (Or.inl rfl) (by exact (pe_lst (pa_cons pe_int (pa_cons pe_int (pa_cons (pe_op op_sub pe_int pe_int) (pa_cons (pe_op op_sub pe_int pe_int) (pa_cons (pe_op op_sub pe_int pe_int) (pa_cons pe_int (pa_cons pe_int (pa_cons pe_int (pa_cons pe_int (pa_cons pe_int (pa_cons pe_int (pa_cons pe_int (pa_cons pe_int (pa_cons pe_int (pa_cons pe_int (pa_cons pe_int (pa_cons pe_int (pa_cons pe_int (pa_cons pe_int (pa_cons (pe_op op_pow pe_int pe_int) pa_nil)))))))))))))))))))))))
      (pss_cons (ps_set (i := 1) sc_noprime.nd rfl (Or.inl rfl) (by exact (pe_op op_cat (pv 1) (pe_lst (pa_cons (pe_op op_mul (pe_call G_prime (hr.mono (by decide)) rfl D_prime.g D_prime.fn.kp D_prime.b .nil pass0 (pa_cons (pv 0) pa_nil)) (pe_call G_prime (hr.mono (by decide)) rfl D_prime.g D_prime.fn.kp D_prime.b .nil pass0 (pa_cons (pv 0) pa_nil))) (pa_cons (pe_op op_sub pe_int (pe_call G_wide (hr.mono (by decide)) rfl D_wide.g D_wide.fn.kp D_wide.b .nil pass0 (pa_cons (pv 0) (pa_cons (pe_op op_pow pe_int pe_int) pa_nil)))) pa_nil))))))
      (pss_one (ps_ret (by exact (pe_call G_pick (hr.mono (by decide)) rfl D_pick.g D_pick.fn.kp D_pick.b .nil pass0 (pa_cons (pv 0) (pa_cons (pe_op op_cat (pv 1) (pe_lst (pa_cons pe_non (pa_cons pe_bl (pa_cons pe_bl (pa_cons pe_str (pa_cons pe_str (pa_cons (pe_tup (pa_cons pe_int pa_nil)) (pa_cons (pe_lst (pa_cons pe_int pa_nil)) (pa_cons (pe_tup pa_nil) pa_nil)))))))))) pa_nil)))))))), ?_⟩
    walk_at "rd"
    walk_at "nw"
    intro l0 h0
    generalize hxs : ([V.int 0, _, _, _, _, _, _, _, _, _, _, _, _, _, _, _, _, _, _, _] : List V) = xs0 at *
    have hx0 : xs0.length = 20 := by rw [← hxs]; rfl
    have no0 : ∀ v ∈ xs0, ∃ i, v = .int i ∧ i ∉ M02.primes := by
      intro v hv
      rw [← hxs] at hv
      simp only [List.mem_cons, List.mem_nil_iff, or_false] at hv
      rcases hv with rfl | rfl | rfl | rfl | rfl | rfl | rfl | rfl | rfl | rfl | rfl | rfl | rfl | rfl | rfl | rfl | rfl | rfl | rfl | rfl <;> exact ⟨_, rfl, by decide +kernel⟩
    clear hxs
    have S0 := S.keep (same_new (o := .lst xs0) h0)
    have n0 := st_ne S h0
    walk_at "rd"
    refine ⟨S0, fun p H1 hp S1 b1 => ?_⟩
    walk_at "rd"
    refine ⟨S1, fun p' H2 hp' S2 b2 => ?_⟩
    walk_at "rd"
    have g1 := M02.primes_lo hp
    have g2 := M02.primes_lo hp'
    refine ⟨cm_l (by omega) (by omega), ?_⟩
    walk_at "rd"
    refine ⟨S2, fun wv H3 w0 S3 b3 => ?_⟩
    walk_at "rd"
    walk_at "nw"
    intro l1 h1
    have b03 : But st (upd H l0 (.lst xs0)) H3 := (b1.trans b2).trans b3
    generalize hg1 : upd H3 l1 _ = H4
    have s4 : Same H3 H4 := by rw [← hg1]; exact same_new h1
    have e1 : H4 l1 = some (.lst [.int (p * p'), .int (0 - wv)]) := by rw [← hg1]; exact upd_same
    clear hg1
    refine ⟨l0, l1, xs0, _, rfl, rfl, s4 _ _ (b03 _ _ n0 upd_same), e1, sz_le (by rw [hx0]; exact Nat.le_of_ble_eq_true rfl), fun l2 h2 => ?_⟩
    generalize hg2 : upd H4 l2 _ = H5
    have s5 : Same H4 H5 := by rw [← hg2]; exact same_new h2
    have e2 : H5 l2 = some (.lst (xs0 ++ [.int (p * p'), .int (0 - wv)])) := by rw [← hg2]; exact upd_same
    clear hg2
    walk_at "rd"
    walk_at "nw"
    intro t1 ht1
    generalize hg3 : upd H5 t1 _ = H6
    have s6 : Same H5 H6 := by rw [← hg3]; exact same_new ht1
    have et1 : H6 t1 = some (.tup [.int 7]) := by rw [← hg3]; exact upd_same
    clear hg3
    walk_at "rd"
    walk_at "nw"
    intro t2 ht2
    generalize hg4 : upd H6 t2 _ = H7
    have s7 : Same H6 H7 := by rw [← hg4]; exact same_new ht2
    have et2 : H7 t2 = some (.lst [.int 7]) := by rw [← hg4]; exact upd_same
    clear hg4
    walk_at "rd"
    walk_at "nw"
    intro t3 ht3
    generalize hg5 : upd H7 t3 _ = H8
    have s8 : Same H7 H8 := by rw [← hg5]; exact same_new ht3
    have et3 : H8 t3 = some (.tup []) := by rw [← hg5]; exact upd_same
    clear hg5
    walk_at "rd"
    walk_at "nw"
    intro l3 h3
    generalize hg6 : upd H8 l3 _ = H9
    have s9 : Same H8 H9 := by rw [← hg6]; exact same_new h3
    have e3 : H9 l3 = some (.lst [.non, .bl true, .bl false, .str "7", .str "", .ref t1, .ref t2, .ref t3]) := by rw [← hg6]; exact upd_same
    clear hg6
    have s59 : Same H5 H9 := ((s6.trans s7).trans s8).trans s9
    refine ⟨l2, l3, _, _, rfl, rfl, s59 _ _ e2, e3, sz_le (by rw [List.length_append, hx0]; exact Nat.le_of_ble_eq_true rfl), fun l4 h4 => ?_⟩
    walk_at "rd"
    have s34 := ((s4.trans s5).trans s59)
    have S9 := S3.keep s34
    have hlen : (xs0 ++ [V.int (p * p'), .int (0 - wv)] ++ [V.non, .bl true, .bl false, .str "7", .str "", .ref t1, .ref t2, .ref t3]).length = 30 := by
      rw [List.length_append, List.length_append, hx0]
      rfl
    refine ⟨st, l4, _, rfl, upd_same, st_ne S9 h4, by rw [hlen]; decide, by rw [hlen]; decide, S9.keep (same_new h4), fun v H10 hv S10 b10 => ?_⟩
    have b9 : But st H9 H10 := (But.of (same_new h4)).trans b10
    refine q v H10 ?_ S10 ((((But.of (same_new h0)).trans b03).trans (.of s34)).trans b9)
    have m1 : t1 ≠ st := st_ne (S3.keep (s4.trans s5)) ht1
    have m2 : t2 ≠ st := st_ne (S3.keep ((s4.trans s5).trans s6)) ht2
    have m3 : t3 ≠ st := st_ne (S3.keep (((s4.trans s5).trans s6).trans s7)) ht3
    rw [List.mem_append, List.mem_append] at hv
    rcases hv with (hv | hv) | hv
    · obtain ⟨i, rfl, hi⟩ := no0 v hv
      exact .int i hi
    · simp only [List.mem_cons, List.mem_nil_iff, or_false] at hv
      rcases hv with rfl | rfl
      · exact .int _ (M02.mul_primes hp hp')
      · exact .int _ fun z => by have := M02.primes_lo z; omega
    · simp only [List.mem_cons, List.mem_nil_iff, or_false] at hv
      rcases hv with rfl | rfl | rfl | rfl | rfl | rfl | rfl | rfl
      · exact .non
      · exact .bl _
      · exact .bl _
      · exact .str _
      · exact .str _
      · exact .tup _ m1 (b9 _ _ m1 (((s7.trans s8).trans s9) _ _ et1))
      · exact .lst _ m2 (b9 _ _ m2 ((s8.trans s9) _ _ et2))
      · exact .tup0 _ m3 (b9 _ _ m3 (s9 _ _ et3))
def spCand : Sp := fun vs H Q _ => ∃ st : Addr, vs = [.ref st] ∧ Store H st ∧ ∀ n H', n ≤ 10000 → Store H' st → But st H H' → Q (.int n) H'
theorem ok_candidate {f : Addr} {fd : FuncData} (F : Fun K "_law_candidate" "_law_candidate" s_candidate f fd) {f_take : Addr} {fd_take : FuncData} (D_take : Def K mg "_law_take" s_take p_take f_take fd_take) (G_take : FnOk P w K mg base CX0 2 f_take fd_take p_take spTake) {f_wide : Addr} {fd_wide : FuncData} (D_wide : Def K mg "_law_wide" s_wide p_wide f_wide fd_wide) (G_wide : FnOk P w K mg base CX0 3 f_wide fd_wide p_wide spWide) {f_prime : Addr} {fd_prime : FuncData} (D_prime : Def K mg "_law_prime" s_prime p_prime f_prime fd_prime) (G_prime : FnOk P w K mg base CX0 4 f_prime fd_prime p_prime spPrime) {f_pick : Addr} {fd_pick : FuncData} (D_pick : Def K mg "_law_pick" s_pick p_pick f_pick fd_pick) (G_pick : FnOk P w K mg base CX0 3 f_pick fd_pick p_pick spPick) : FnOk P w K mg base CX0 5 f fd p_candidate spCand := by
  refine F.ok sc_candidate (fun vs H Q E h => ?_) (fun cdv A outer s H vs Q E hr h => ?_)
  · obtain ⟨st, rfl, _⟩ := h
    rfl
  · obtain ⟨st, rfl, S, q⟩ := h
    refine ⟨_, (pss_cons (ps_set (i := 1) sc_candidate.nd rfl (Or.inl rfl) (by exact (pe_call G_take (hr.mono (by decide)) rfl D_take.g D_take.fn.kp D_take.b .nil pass0 (pa_cons (pv 0) (pa_cons pe_int pa_nil)))))
      (pss_cons (ps_if (pt_cmpR op_eq (pv 1) pe_int (nomark _)) (pss_one (ps_ret (by exact (pe_call G_take (hr.mono (by decide)) rfl D_take.g D_take.fn.kp D_take.b .nil pass0 (pa_cons (pv 0) (pa_cons pe_int pa_nil)))))) pss_nil)
      (pss_cons (ps_if (pt_cmpR op_eq (pv 1) pe_int (nomark _)) (pss_one (ps_ret (by exact (pe_op op_sub pe_int (pe_call G_wide (hr.mono (by decide)) rfl D_wide.g D_wide.fn.kp D_wide.b .nil pass0 (pa_cons (pv 0) (pa_cons (pe_op op_pow pe_int pe_int) pa_nil))))))) pss_nil)
      (pss_cons (ps_if (pt_cmpR op_eq (pv 1) pe_int (nomark _)) (pss_one (ps_ret (by exact (pe_op op_mul (pe_call G_prime (hr.mono (by decide)) rfl D_prime.g D_prime.fn.kp D_prime.b .nil pass0 (pa_cons (pv 0) pa_nil)) (pe_call G_prime (hr.mono (by decide)) rfl D_prime.g D_prime.fn.kp D_prime.b .nil pass0 (pa_cons (pv 0) pa_nil)))))) pss_nil)
      (pss_cons (ps_if (pt_cmpR op_eq (pv 1) pe_int (nomark _)) (pss_cons (ps_set (i := 2) sc_candidate.nd rfl (Or.inl rfl) (by exact (pe_call G_pick (hr.mono (by decide)) rfl D_pick.g D_pick.fn.kp D_pick.b .nil pass0 (pa_cons (pv 0) (pa_cons (pe_lst (pa_cons pe_int (pa_cons pe_int (pa_cons pe_int (pa_cons pe_int (pa_cons pe_int (pa_cons pe_int (pa_cons pe_int (pa_cons pe_int (pa_cons pe_int (pa_cons pe_int (pa_cons pe_int (pa_cons pe_int (pa_cons pe_int pa_nil)))))))))))))) pa_nil)))))
          (pss_one (ps_ret (by exact (pe_call G_pick (hr.mono (by decide)) rfl D_pick.g D_pick.fn.kp D_pick.b .nil pass0 (pa_cons (pv 0) (pa_cons (pe_lst (pa_cons (pv 2) (pa_cons (pe_op op_add (pv 2) pe_int) (pa_cons pe_int (pa_cons pe_int (pa_cons pe_int (pa_cons pe_int (pa_cons pe_int (pa_cons (pe_op op_sub pe_int pe_int) pa_nil))))))))) pa_nil))))))) pss_nil)
      (pss_one (ps_ret (by exact (pe_op op_sub (pe_call G_take (hr.mono (by decide)) rfl D_take.g D_take.fn.kp D_take.b .nil pass0 (pa_cons (pv 0) (pa_cons pe_int pa_nil))) pe_int))))))))), ?_⟩
    walk_at "rd"
    refine ⟨by decide, S, fun d H1 d0 d1 S1 b1 => ?_⟩
    walk_at "rd"
    refine ite2 (fun hc => ?_) (fun hc => ?_)
    · walk_at "rd"
      refine ⟨by decide, S1, fun d H2 d0 d1 S2 b2 => ?_⟩
      rw [if_pos (by decide)] at d1
      exact q _ H2 (by omega) S2 (b1.trans b2)
    walk_at "rd"
    refine ite2 (fun hc => ?_) (fun hc => ?_)
    · walk_at "rd"
      refine ⟨S1, fun d H2 d0 S2 b2 => ?_⟩
      walk_at "rd"
      exact q (0 - d) H2 (by omega) S2 (b1.trans b2)
    walk_at "rd"
    refine ite2 (fun hc => ?_) (fun hc => ?_)
    · walk_at "rd"
      refine ⟨S1, fun p H2 hp S2 b2 => ?_⟩
      walk_at "rd"
      refine ⟨S2, fun p' H3 hp' S3 b3 => ?_⟩
      have g1 := M02.primes_lo hp
      have g2 := M02.primes_lo hp'
      walk_at "rd"
      refine q (p * p') H3 ?_ S3 ((b1.trans b2).trans b3)
      have a1 : p * p' ≤ 97 * 97 := Int.mul_le_mul g1.2 g2.2 (by omega) (by omega)
      omega
    walk_at "rd"
    refine ite2 (fun hc => ?_) (fun hc => ?_)
    · walk_at "rd"
      walk_at "nw"
      intro l hl
      walk_at "rd"
      refine ⟨st, l, _, rfl, upd_same, st_ne S1 hl, Nat.le_of_ble_eq_true rfl, Nat.le_of_ble_eq_true rfl, S1.keep (same_new hl), fun v H2 hv S2 b2 => ?_⟩
      obtain ⟨m, rfl, hm⟩ : ∃ m : Int, v = .int m ∧ m ≤ 9998 := by
        simp only [List.mem_cons, List.mem_nil_iff, or_false] at hv
        rcases hv with rfl | rfl | rfl | rfl | rfl | rfl | rfl | rfl | rfl | rfl | rfl | rfl | rfl <;> exact ⟨_, rfl, by decide⟩
      walk_at "rd"
      walk_at "nw"
      intro l2 hl2
      walk_at "rd"
      refine ⟨st, l2, _, rfl, upd_same, st_ne S2 hl2, Nat.le_of_ble_eq_true rfl, Nat.le_of_ble_eq_true rfl, S2.keep (same_new hl2), fun v H3 hv S3 b3 => ?_⟩
      obtain ⟨m', rfl, hm'⟩ : ∃ m : Int, v = .int m ∧ m ≤ 10000 := by
        simp only [List.mem_cons, List.mem_nil_iff, or_false] at hv
        rcases hv with rfl | rfl | rfl | rfl | rfl | rfl | rfl | rfl <;> exact ⟨_, rfl, by omega⟩
      exact q _ H3 hm' S3 (((b1.trans (.of (same_new hl))).trans b2).trans ((But.of (same_new hl2)).trans b3))
    · walk_at "rd"
      refine ⟨by decide, S1, fun d H2 d0 d1 S2 b2 => ?_⟩
      rw [if_pos (by decide)] at d1
      walk_at "rd"
      exact q (d - 10) H2 (by omega) S2 (b1.trans b2)
def spNeedP (C : Addr) : Sp := fun vs H Q E => ∃ v : V, vs = [v] ∧ ((∃ i, v = .int i ∧ i ∈ M02.primes ∧ Q (.int i) H) ∨ NoV H v ∧ ∀ d, H d = none → E (.ref C) (some d) (upd H d (.xd (excD ["value"] "BadPrime" [v]))))
theorem ok_need_prime {f : Addr} {fd : FuncData} (F : Fun K "need_prime" "need_prime" s_need_prime f fd) {f_lies_within : Addr} {fd_lies_within : FuncData} (D_lies_within : Def K mg "lies_within" s_lies_within p_lies_within f_lies_within fd_lies_within) (G_lies_within : FnOk P w K mg base CX0 2 f_lies_within fd_lies_within p_lies_within spWithin) {f_is_prime : Addr} {fd_is_prime : FuncData} (D_is_prime : Def K mg "is_prime" s_is_prime p_is_prime f_is_prime fd_is_prime) (G_is_prime : FnOk P w K mg base CX0 1 f_is_prime fd_is_prime p_is_prime spIsP) : FnOk P w K mg base (L2N.CX P w) 3 f fd p_need_prime (spNeedP C_BadPrime) := by
  refine F.okN sc_need_prime (fun vs H Q E h => ?_) (fun cdv A outer s H vs Q E hr h => ?_)
  · obtain ⟨a, rfl, _⟩ := h
    rfl
  · obtain ⟨v, rfl, q⟩ := h
    have gp := T.g_GREATEST_PRIME
    obtain ⟨tgp, gp⟩ := gp
    refine ⟨_, (pss_cons (ps_if (PW.pt (pw_or (pt_not (pt_val (pe_call G_lies_within (hr.mono (by decide)) rfl D_lies_within.g D_lies_within.fn.kp D_lies_within.b .nil pass0 (pa_cons (pv 0) (pa_cons pe_int (pa_cons (pe_glob (v := .int 97) rfl gp ⟨_, rfl⟩) pa_nil)))))) (pw_or1 (pt_not (pt_val (pe_call G_is_prime (hr.mono (by decide)) rfl D_is_prime.g D_is_prime.fn.kp D_is_prime.b .nil pass0 (pa_cons (pv 0) pa_nil))))))) (pss_one (ps_raiseN rfl T.lf_BadPrime hr (L2N.takes_of rfl rfl rfl rfl) T.g_BadPrime (pa_cons (pv 0) pa_nil))) pss_nil)
      (pss_one (ps_ret (by exact (pv 0))))), ?_⟩
    walk_at "rd"
    rcases q with ⟨i, rfl, hi, q⟩ | ⟨⟨i, rfl, hi⟩ | ⟨n, h⟩, q⟩
    · have g := M02.primes_lo hi
      refine ⟨_, _, _, rfl, .inl ⟨i, rfl, fun c hc => ?_⟩⟩
      obtain rfl : c = true := hc.mpr (by omega)
      walk_at "rd"
      refine ⟨by omega, fun b hb => ?_⟩
      obtain rfl : b = true := hb.mpr ((M02.isP_iff g.1 g.2).mpr hi)
      walk_at "rd"
      exact q
    · refine ⟨_, _, _, rfl, .inl ⟨i, rfl, fun c hc => ?_⟩⟩
      cases c with
      | false =>
        walk_at "rd"
        exact ⟨rfl, fun d hd => q d hd⟩
      | true =>
        have g := hc.mp rfl
        walk_at "rd"
        refine ⟨by omega, fun b hb => ?_⟩
        cases b with
        | false =>
          walk_at "rd"
          exact ⟨rfl, fun d hd => q d hd⟩
        | true => exact absurd ((M02.isP_iff g.1 g.2).mp (hb.mp rfl)) hi
    · refine ⟨_, _, _, rfl, .inr ⟨n, h, ?_⟩⟩
      walk_at "rd"
      exact ⟨rfl, fun d hd => q d hd⟩
def spInv (CP CI : Addr) : Sp := fun vs H Q E => ∃ (v : V) (a : Int), vs = [v, .int a] ∧ ((∃ p : Nat, v = .int p ∧ p ∈ M02.primesN ∧ (a % (p : Int) ≠ 0 → ∀ c : Int, 1 ≤ c → c < p → c * a % (p : Int) = 1 → Q (.int c) H) ∧ (a % (p : Int) = 0 → ∀ d, H d = none → E (.ref CI) (some d) (upd H d (.xd (excD ["value"] "NoInverse" [.int a]))))) ∨ NoV H v ∧ ∀ d, H d = none → E (.ref CP) (some d) (upd H d (.xd (excD ["value"] "BadPrime" [v]))))
theorem ok_inverse {f : Addr} {fd : FuncData} (F : Fun K "inverse" "inverse" s_inverse f fd) {f_need_prime : Addr} {fd_need_prime : FuncData} (D_need_prime : Def K mg "need_prime" s_need_prime p_need_prime f_need_prime fd_need_prime) (G_need_prime : FnOk P w K mg base (L2N.CX P w) 3 f_need_prime fd_need_prime p_need_prime (spNeedP C_BadPrime)) : FnOk P w K mg base (L2N.CX P w) 4 f fd p_inverse (spInv C_BadPrime C_NoInverse) := by
  refine F.okN sc_inverse (fun vs H Q E h => ?_) (fun cdv A outer s H vs Q E hr h => ?_)
  · obtain ⟨a, b, rfl, _⟩ := h
    rfl
  · obtain ⟨v, a, rfl, q⟩ := h
    have passO := passes_of (X := cxOf (L2N.CX P w) P w K mg base N_inverse "inverse" (defScope s_inverse) f cdv A outer s H E) rfl
    have tk := L2N.takes_of (X := cxOf (L2N.CX P w) P w K mg base N_inverse "inverse" (defScope s_inverse) f cdv A outer s H E) rfl rfl rfl rfl
    refine ⟨_, (pss_cons (ps_expr (pe_callS G_need_prime (hr.mono (by decide)) rfl D_need_prime.g D_need_prime.fn.kp D_need_prime.b (fun σ => L2N.passAt tk σ) (pa_cons (pv 0) pa_nil)))
      (pss_cons (ps_if (pt_cmpR op_eq (pe_op op_modN (pv 1) (pv 0)) pe_int (nomark _)) (pss_one (ps_raiseN rfl T.lf_NoInverse hr (L2N.takes_of rfl rfl rfl rfl) T.g_NoInverse (pa_cons (pv 1) pa_nil))) pss_nil)
      (pss_cons (ps_set (i := 2) sc_inverse.nd rfl (Or.inl rfl) (by exact pe_int))
      (pss_cons (ps_for passO rfl (pi_range1 (by rfl) T.b_range (pa_cons (pe_op op_sub (pv 0) pe_int) pa_nil)) (pg_name (i := 3) sc_inverse.nd rfl (Or.inl rfl)) (pss_one (ps_set (i := 2) sc_inverse.nd rfl (Or.inl rfl) (by exact (pe_op op_modN (pe_op op_mul (pv 2) (pv 1)) (pv 0))))))
      (pss_one (ps_ret (by exact (pv 2)))))))), ?_⟩
    walk_at "rd"
    rcases q with ⟨p, rfl, hp, q1, q2⟩ | ⟨h, q⟩
    · refine .inl ⟨p, rfl, M02.mem_primes.mpr ⟨p, hp, rfl⟩, ?_⟩
      have g := M02.primesN_hi p hp
      have em : a.fmod (p : Int) = a % (p : Int) := Int.fmod_eq_emod_of_nonneg _ (by omega)
      walk_at "rd"
      refine ite2 (fun hc => ?_) (fun hc => ?_)
      · have h0 := V.int.inj (of_decide_eq_true hc)
        rw [em] at h0
        walk_at "rd"
        exact ⟨rfl, fun d hd => q2 h0 d hd⟩
      · have h0 : a % (p : Int) ≠ 0 := fun z => of_ndec hc (congrArg V.int (em.trans z))
        obtain ⟨i1, i2, i3⟩ := M02.inv_ok hp h0
        have q := q1 h0 _ (by omega) (by omega) i3
        walk_at "rd"
        refine ⟨by omega, by omega, ?_⟩
        have hsz : ((p : Int) - 2).toNat = p - 2 := by omega
        rw [hsz]
        refine for_range (fun i σ H' => ∃ v : Option V, σ = [some (.int p), some (.int a), some (.int (M02.pw p (a % p).toNat i : Nat)), v] ∧ H' = H) ⟨none, rfl, rfl⟩ ?_ ?_
        · rintro i σ H' hi ⟨v, rfl, rfl⟩
          walk_at "rd"
          have hlt := M02.pw_lt (p := p) (r := (a % p).toNat) (by omega) g.2 i
          refine ⟨cm_l (by omega) (by omega), ?_⟩
          walk_at "rd"
          have st := M02.pw_step (p := p) (by omega) a i
          have em2 : (((M02.pw p (a % p).toNat i : Nat) : Int) * a).fmod (p : Int) = ((M02.pw p (a % p).toNat (i + 1) : Nat) : Int) := (Int.fmod_eq_emod_of_nonneg _ (by omega)).trans st
          refine ⟨some (.int (0 + i)), ?_, rfl⟩
          show [_, _, some (V.int ((((M02.pw p (a % p).toNat i : Nat) : Int) * a).fmod (p : Int))), _] = _
          rw [em2]
        · rintro σ H' ⟨v, rfl, rfl⟩
          walk_at "rd"
          exact q
    · exact .inr ⟨h, q⟩
end
end K02

set_option Elab.async false
set_option linter.all false
set_option maxRecDepth 100000
set_option maxHeartbeats 2000000
namespace L2
open PySem PySem.Spec PyProof.Rows
theorem pss_cut {X : Cx} {st : Stmt} {more : List Stmt} {t : TS} (a : PS X st t) : PSs X (st :: more) (fun D σ H => t { D with nx := fun _ _ => False } σ H) := ⟨fun pins s σ H D I h =>
  wpAny_execs_cons (thn (a.run pins s σ H _ I h) fun f s1 q => match f, q with
    | .next, ⟨_, _, _, q⟩ => q.elim
    | .ret _, q => q
    | .brk, q => q
    | .cont, q => q)⟩
theorem hu64 {k : Nat} {A : Around} (r : L2H.RoomH k A) : A.units + 64 < cLine := by
  have := r.un
  omega
theorem roomH_as {k : Nat} {A B : Around} (r : L2H.RoomH k A) (h1 : B.depth = A.depth) (h2 : B.units = A.units) : L2H.RoomH k B := ⟨by rw [h1]; exact r.dp, by rw [h2]; exact r.un⟩
theorem hot_of {a : Addr} {oe : Obj} {cls : Value} {d : Option Addr} {A' : Around} (hz : L2N.Zn cls d oe) (hf : ∃ vs : Array Value, oe.data = .fields vs) (h : A'.handled = some (.ref a) := by rfl) : L2H.Hot1 A' (a, oe) := ⟨h, hf.elim fun vs e => ⟨vs, e, hz.2.2 vs e⟩⟩
section
open L2H
variable {X : Cx} {k : Nat} {f : Addr} {fd : FuncData} {ps : List Str} {sp : Addr × Obj → Sp} {x : Str} {q pos : Pos} {e : Expr} {es : List Expr} {t : TA}
/-- f(e, ..) within the suite, by a promise that does not name the exception's record -/
def tCallZ (sp' : Sp) (t : TA) : TE := fun σ H Q => t σ H fun vs H1 => sp' vs H1 Q E0
theorem pe_callZ {p : Addr × Obj} {sp' : Sp} (F : FnE X.prog X.w X.K X.mg X.base k f fd ps sp) (hc : ∀ vs H Q E, sp' vs H Q E → sp p vs H Q E) (hr : RoomH k X.A) (hot : Hot1 X.A p) (hp : p ∈ X.pn) (hg : Gl X x) (hm : X.mg x = some (.ref f)) (hk : PySem.W.keepIn X.K (.ref f) = true) (hb : Binds X.K fd ps [])
    (ha : PA X (e :: es) t) (hdb : (x == ("__debug__" : Str)) = false := by decide) (he : starEach (e :: es) X.env = (false, eval e X.env) :: starEach es X.env := by rfl) (hpl : (backTo pos (starEach es X.env)).any (·.1) = false := by rfl) :
    PE X (.Call (.Name x q) (e :: es) [] pos) (tCallZ sp' t) := by
  refine ⟨fun pins s σ H Q I h => ?_⟩
  refine wpAny_Call_Name_kw (ld_glob I hg hm ?_ hdb)
  refine PySem.W.callWith_K (h₀ := X.base) I.ok.mod.kin hk (thn (ha.run pos pins s σ H _ I h) fun us s1 ⟨vs, H1, J, r, hsp0⟩ => ⟨J.kIn, ?_⟩) he hpl
  have hsp := hc _ _ _ _ hsp0
  have hl : us.length = ps.length := by rw [← r.length]; exact F.len _ _ _ _ _ hsp
  have b := hb s1 us J.kIn (by rw [List.append_nil]; exact hl)
  rw [List.append_nil] at b
  have P1 := J.pin p (List.mem_append_left _ hp)
  have hpin : PinOk X.stack H1 s1 p := ⟨P1.1, P1.2.1, fun hm => (List.mem_cons.mp (J.stkSub p.1 hm)).elim P1.2.2.1 P1.2.2.2.1, P1.2.2.2.2⟩
  refine wpAny_call (codeAny_mono (F.run X.A X.stack s1 H1 ⟨us, []⟩ us vs Q E0 p hr hot hpin J.env0 b r hsp) fun r s' hq => ?_)
  cases r with
  | error e => exact False.elim hq
  | ok fl =>
    cases fl with
    | ret u => exact J.after hq
    | next => exact False.elim hq
    | brk => exact False.elim hq
    | cont => exact False.elim hq
end
end L2
namespace L2
open PySem PySem.Spec PyProof.Rows L2H
theorem pairedAt {α β : Type} {R : α → β → Prop} {xs : List α} {ys : List β} (h : Paired R xs ys) : ∀ {i : Nat} {x : α}, xs[i]? = some x → ∃ y, ys[i]? = some y ∧ R x y := by
  induction h with
  | nil => intro i x e; cases e
  | cons a k ih =>
    intro i x e
    cases i with
    | zero => cases e; exact ⟨_, rfl, a⟩
    | succ i => exact ih e
theorem FnE.or {P : Program} {w : World} {K : PySem.W.Frag} {mg : Str → Option Value} {base : Heap} {k : Nat} {f : Addr} {fd : FuncData} {ps : List Str} {sp1 sp2 : Addr × Obj → Sp} (a : FnE P w K mg base k f fd ps sp1) (b : FnE P w K mg base k f fd ps sp2) :
    FnE P w K mg base k f fd ps (fun p vs H Q E => sp1 p vs H Q E ∨ sp2 p vs H Q E) :=
  ⟨fun p vs H Q E h => h.elim (a.len p vs H Q E) (b.len p vs H Q E), fun A outer s H args us vs Q E p hr hot hpin e0 hb r hsp => hsp.elim (a.run A outer s H args us vs Q E p hr hot hpin e0 hb r) (b.run A outer s H args us vs Q E p hr hot hpin e0 hb r)⟩
theorem bnot_t {b : Bool} (h : (!b) = true) : b = false := by
  cases b
  · rfl
  · cases h
theorem bnot_f {b : Bool} (h : ¬ (!b) = true) : b = true := by
  cases b
  · exact absurd rfl h
  · rfl
end L2

set_option Elab.async false
set_option linter.all false
set_option maxRecDepth 100000
set_option maxHeartbeats 4000000
set_option pp.deepTerms false
set_option pp.deepTerms.threshold 12
namespace K02
open PySem PySem.Spec PyProof.Rows L2
local macro_rules | `(tactic| walk_at "ty") => `(tactic| first | exact .base (.int _) | exact .base (.bl _) | exact .base (.str _) | exact .base .non | assumption | exact .base (.tup (by assumption)) | exact .base (.lst (by assumption)))
local macro_rules | `(tactic| walk_at "cm") => `(tactic| first | exact cm_r (by decide) (by decide) | exact cm_l (by decide) (by decide) | exact cm_fmod (by decide) (by decide) | exact cm_r (by omega) (by omega) | exact cm_l (by omega) (by omega))
local macro_rules | `(tactic| walk_at "dv") => `(tactic| first | exact ⟨by decide, by decide⟩ | exact ⟨by omega, by omega⟩)
local macro_rules | `(tactic| walk_at "r1") => `(tactic| first
  | refine ⟨_, rfl, ?_⟩ | refine ⟨_, _, rfl, rfl, ?_⟩ | refine Or.inl ⟨_, rfl, ?_⟩ | refine Or.inr ⟨_, rfl, ?_⟩
  | refine And.intro (a := CMul _ _) (by walk_at "cm") ?_ | refine And.intro (a := CDivN _ _) (by walk_at "dv") ?_ | refine And.intro (a := _ ≠ (0 : Int)) (by first | decide | omega) ?_ | refine And.intro (a := scal _ _ = true) rfl ?_ | refine ⟨_, _, _, _, rfl, rfl, SqL.of (by first | exact upd_same | assumption), rfl, ?_⟩ | refine ⟨_, _, _, _, rfl, rfl, (by first | exact upd_same | assumption), rfl, ?_⟩ | refine ⟨_, _, rfl, ?_⟩ | refine And.intro (a := (_ : V) = V.non) rfl ?_ | refine And.intro (a := CPow _ _) ⟨by decide, by decide, by decide⟩ ?_ | refine And.intro (a := (_ : List V) = []) rfl ?_ | refine ⟨_, _, rfl, SqT.of (by first | exact upd_same | assumption), rfl, ?_⟩
  | refine ⟨_, _, _, _, true, rfl, ClsV.ty _, (by walk_at "ty"), kit_ty (by decide +kernel), ?_⟩ | refine ⟨_, _, _, _, false, rfl, ClsV.ty _, (by walk_at "ty"), kit_ty (by decide +kernel), ?_⟩)
local macro_rules | `(tactic| walk_at "rd") => `(tactic| repeat walk_at "r1")
local macro_rules | `(tactic| walk_at "yes") => `(tactic| (change (if true = true then _ else _); rw [if_pos rfl]))
local macro_rules | `(tactic| walk_at "no") => `(tactic| (change (if false = true then _ else _); rw [if_neg Bool.false_ne_true]))
local macro_rules | `(tactic| walk_at "nw") => `(tactic| refine And.intro (a := _ ≤ sizeLine) (sz_le (Nat.le_of_ble_eq_true rfl)) ?_)

section
variable {P : Program} {w : World} {K : PySem.W.Frag} {mg : Str → Option Value} {base : Heap}
variable {C_VaultError C_TooMany C_NumberError C_BadPrime C_NoInverse C_NoNumber C_BadTable C_BadCells C_TextError C_ShapeError C_PlanError C_CourseError C_KnowError C_PaperError fV fI_BadPrime fI_NoInverse : Addr}
variable (T : Txt P K mg C_VaultError C_TooMany C_NumberError C_BadPrime C_NoInverse C_NoNumber C_BadTable C_BadCells C_TextError C_ShapeError C_PlanError C_CourseError C_KnowError C_PaperError fV fI_BadPrime fI_NoInverse)
include T
def flatV : V → Bool
  | .int _ | .bl _ | .str _ | .non => true
  | _ => false
/-- the same data, not deeper than n -/
def SameD (H : Hp) : Nat → V → V → Prop
  | 0, _, _ => False
  | n + 1, x, y => (x = y ∧ flatV x = true) ∨ ∃ (a b : Addr) (xs ys : List V), x = .ref a ∧ y = .ref b ∧ (H a = some (.tup xs) ∧ H b = some (.tup ys) ∨ H a = some (.lst xs) ∧ H b = some (.lst ys)) ∧ xs.length = ys.length ∧ xs.length ≤ 1000 ∧ ∀ (i : Nat) (x y : V), xs[i]? = some x → ys[i]? = some y → SameD H n x y
def spSame : Nat → Sp
  | 0 => fun _ _ _ _ => False
  | n + 1 => fun vs H Q _ => ∃ x y : V, vs = [x, y] ∧ SameD H (n + 1) x y ∧ Q (.bl true) H
omit T in
theorem spSame_of {H : Hp} {n : Nat} {x y : V} {Q : VK} {E : XK} (h : SameD H n x y) (q : Q (.bl true) H) : spSame n [x, y] H Q E := by
  cases n with
  | zero => exact h.elim
  | succ m => exact ⟨x, y, rfl, h, q⟩
theorem ok_same {f : Addr} {fd : FuncData} (F : Fun K "_law_same" "_law_same" s_same f fd) (D_same : Def K mg "_law_same" s_same p_same f fd) : ∀ n, FnOk P w K mg base CX0 n f fd p_same (spSame n)
  | 0 => ⟨fun _ _ _ _ h => h.elim, fun _ _ _ _ _ _ _ _ _ _ _ _ _ h => h.elim⟩
  | n + 1 => by
    have G_same := ok_same F D_same n
    refine F.ok sc_same (fun vs H Q E h => ?_) (fun cdv A outer s H vs Q E hr h => ?_)
    · obtain ⟨a, b, rfl, _⟩ := h
      rfl
    · obtain ⟨x, y, rfl, hS, q⟩ := h
      refine ⟨_, (pss_cons (ps_if (PW.pt (pw_or (pt_cmpR op_isN (pv 0) pe_non (nomark _)) (pw_or1 (pt_cmpR op_isN (pv 1) pe_non (nomark _))))) (pss_one (ps_ret (by exact (pe_and (pe_cmpR op_isN (pv 0) pe_non (nomark _)) (pe_one (pe_cmpR op_isN (pv 1) pe_non (nomark _))))))) pss_nil)
      (pss_cons (ps_if (PW.pt (pw_or (pt_val (pe_callB call_isi (by rfl) T.b_isinstance (by first | exact PySem.boot_isinstance | decide +kernel) (pa_cons (pv 0) (pa_cons (pe_bltn (v := .ty "bool") (by rfl) T.b_bool (by first | exact PySem.boot_bool | decide +kernel) rfl) pa_nil)))) (pw_or1 (pt_val (pe_callB call_isi (by rfl) T.b_isinstance (by first | exact PySem.boot_isinstance | decide +kernel) (pa_cons (pv 1) (pa_cons (pe_bltn (v := .ty "bool") (by rfl) T.b_bool (by first | exact PySem.boot_bool | decide +kernel) rfl) pa_nil))))))) (pss_one (ps_ret (by exact (pe_and (pe_callB call_isi (by rfl) T.b_isinstance (by first | exact PySem.boot_isinstance | decide +kernel) (pa_cons (pv 0) (pa_cons (pe_bltn (v := .ty "bool") (by rfl) T.b_bool (by first | exact PySem.boot_bool | decide +kernel) rfl) pa_nil))) (pe_and (pe_callB call_isi (by rfl) T.b_isinstance (by first | exact PySem.boot_isinstance | decide +kernel) (pa_cons (pv 1) (pa_cons (pe_bltn (v := .ty "bool") (by rfl) T.b_bool (by first | exact PySem.boot_bool | decide +kernel) rfl) pa_nil))) (pe_one (pe_cmpR op_eq (pv 0) (pv 1) (nomark _)))))))) pss_nil)
      (pss_cons (ps_if (PW.pt (pw_or (pt_val (pe_callB call_isi (by rfl) T.b_isinstance (by first | exact PySem.boot_isinstance | decide +kernel) (pa_cons (pv 0) (pa_cons (pe_bltn (v := .ty "int") (by rfl) T.b_int (by first | exact PySem.boot_int | decide +kernel) rfl) pa_nil)))) (pw_or1 (pt_val (pe_callB call_isi (by rfl) T.b_isinstance (by first | exact PySem.boot_isinstance | decide +kernel) (pa_cons (pv 1) (pa_cons (pe_bltn (v := .ty "int") (by rfl) T.b_int (by first | exact PySem.boot_int | decide +kernel) rfl) pa_nil))))))) (pss_one (ps_ret (by exact (pe_and (pe_callB call_isi (by rfl) T.b_isinstance (by first | exact PySem.boot_isinstance | decide +kernel) (pa_cons (pv 0) (pa_cons (pe_bltn (v := .ty "int") (by rfl) T.b_int (by first | exact PySem.boot_int | decide +kernel) rfl) pa_nil))) (pe_and (pe_callB call_isi (by rfl) T.b_isinstance (by first | exact PySem.boot_isinstance | decide +kernel) (pa_cons (pv 1) (pa_cons (pe_bltn (v := .ty "int") (by rfl) T.b_int (by first | exact PySem.boot_int | decide +kernel) rfl) pa_nil))) (pe_one (pe_cmpR op_eq (pv 0) (pv 1) (nomark _)))))))) pss_nil)
      (pss_cons (ps_if (PW.pt (pw_or (pt_val (pe_callB call_isi (by rfl) T.b_isinstance (by first | exact PySem.boot_isinstance | decide +kernel) (pa_cons (pv 0) (pa_cons (pe_bltn (v := .ty "str") (by rfl) T.b_str (by first | exact PySem.boot_str | decide +kernel) rfl) pa_nil)))) (pw_or1 (pt_val (pe_callB call_isi (by rfl) T.b_isinstance (by first | exact PySem.boot_isinstance | decide +kernel) (pa_cons (pv 1) (pa_cons (pe_bltn (v := .ty "str") (by rfl) T.b_str (by first | exact PySem.boot_str | decide +kernel) rfl) pa_nil))))))) (pss_one (ps_ret (by exact (pe_and (pe_callB call_isi (by rfl) T.b_isinstance (by first | exact PySem.boot_isinstance | decide +kernel) (pa_cons (pv 0) (pa_cons (pe_bltn (v := .ty "str") (by rfl) T.b_str (by first | exact PySem.boot_str | decide +kernel) rfl) pa_nil))) (pe_and (pe_callB call_isi (by rfl) T.b_isinstance (by first | exact PySem.boot_isinstance | decide +kernel) (pa_cons (pv 1) (pa_cons (pe_bltn (v := .ty "str") (by rfl) T.b_str (by first | exact PySem.boot_str | decide +kernel) rfl) pa_nil))) (pe_one (pe_cmpR op_eq (pv 0) (pv 1) (nomark _)))))))) pss_nil)
      (pss_cons (ps_if (PW.pt (pw_or (pt_val (pe_callB call_isi (by rfl) T.b_isinstance (by first | exact PySem.boot_isinstance | decide +kernel) (pa_cons (pv 0) (pa_cons (pe_bltn (v := .ty "dict") (by rfl) T.b_dict (by first | exact PySem.boot_dict | decide +kernel) rfl) pa_nil)))) (pw_or1 (pt_val (pe_callB call_isi (by rfl) T.b_isinstance (by first | exact PySem.boot_isinstance | decide +kernel) (pa_cons (pv 1) (pa_cons (pe_bltn (v := .ty "dict") (by rfl) T.b_dict (by first | exact PySem.boot_dict | decide +kernel) rfl) pa_nil))))))) (pss_cons (ps_if (PW.pt (pw_or (pt_not (pt_val (pe_callB call_isi (by rfl) T.b_isinstance (by first | exact PySem.boot_isinstance | decide +kernel) (pa_cons (pv 0) (pa_cons (pe_bltn (v := .ty "dict") (by rfl) T.b_dict (by first | exact PySem.boot_dict | decide +kernel) rfl) pa_nil))))) (pw_or (pt_not (pt_val (pe_callB call_isi (by rfl) T.b_isinstance (by first | exact PySem.boot_isinstance | decide +kernel) (pa_cons (pv 1) (pa_cons (pe_bltn (v := .ty "dict") (by rfl) T.b_dict (by first | exact PySem.boot_dict | decide +kernel) rfl) pa_nil))))) (pw_or1 (pt_cmpR op_ne (pe_callB call_len_seq (by rfl) T.b_len (by first | exact PySem.boot_len | decide +kernel) (pa_cons (pv 0) pa_nil)) (pe_callB call_len_seq (by rfl) T.b_len (by first | exact PySem.boot_len | decide +kernel) (pa_cons (pv 1) pa_nil)) (nomark _)))))) (pss_one (ps_ret (by exact pe_bl))) pss_nil)
          (pss_cons (ps_for PassesOwn.never rfl (pi_list (pv 0)) (pg_name (i := 2) sc_same.nd rfl (Or.inl rfl)) (pss_one (ps_if (PW.pt (pw_or (pt_cmp (pc_dnotin (hu_of hr) (pv 2) (pv 1))) (pw_or1 (pt_not (pt_val (pe_call G_same hr rfl D_same.g D_same.fn.kp D_same.b .nil pass0 (pa_cons (pe_ix ix_list (pv 0) (pv 2) (fun _ _ => rfl)) (pa_cons (pe_ix ix_list (pv 1) (pv 2) (fun _ _ => rfl)) pa_nil)))))))) (pss_one (ps_ret (by exact pe_bl))) pss_nil)))
          (pss_one (ps_ret (by exact pe_bl))))) pss_nil)
      (pss_cons (ps_set (i := 3) sc_same.nd rfl (Or.inl rfl) (by exact (pe_and (pe_callB call_isi (by rfl) T.b_isinstance (by first | exact PySem.boot_isinstance | decide +kernel) (pa_cons (pv 0) (pa_cons (pe_bltn (v := .ty "list") (by rfl) T.b_list (by first | exact PySem.boot_list | decide +kernel) rfl) pa_nil))) (pe_one (pe_callB call_isi (by rfl) T.b_isinstance (by first | exact PySem.boot_isinstance | decide +kernel) (pa_cons (pv 1) (pa_cons (pe_bltn (v := .ty "list") (by rfl) T.b_list (by first | exact PySem.boot_list | decide +kernel) rfl) pa_nil)))))))
      (pss_cons (ps_set (i := 4) sc_same.nd rfl (Or.inl rfl) (by exact (pe_and (pe_callB call_isi (by rfl) T.b_isinstance (by first | exact PySem.boot_isinstance | decide +kernel) (pa_cons (pv 0) (pa_cons (pe_bltn (v := .ty "tuple") (by rfl) T.b_tuple (by first | exact PySem.boot_tuple | decide +kernel) rfl) pa_nil))) (pe_one (pe_callB call_isi (by rfl) T.b_isinstance (by first | exact PySem.boot_isinstance | decide +kernel) (pa_cons (pv 1) (pa_cons (pe_bltn (v := .ty "tuple") (by rfl) T.b_tuple (by first | exact PySem.boot_tuple | decide +kernel) rfl) pa_nil)))))))
      (pss_cons (ps_if (PW.pt (pw_or (PW.pt (pw_and (pt_not (pt_val (pv 3))) (pw_and1 (pt_not (pt_val (pv 4)))))) (pw_or1 (pt_cmpR op_ne (pe_callB call_len_seq (by rfl) T.b_len (by first | exact PySem.boot_len | decide +kernel) (pa_cons (pv 0) pa_nil)) (pe_callB call_len_seq (by rfl) T.b_len (by first | exact PySem.boot_len | decide +kernel) (pa_cons (pv 1) pa_nil)) (nomark _))))) (pss_one (ps_ret (by exact pe_bl))) pss_nil)
      (pss_cons (ps_for PassesOwn.never rfl (pi_range1 (by rfl) T.b_range (pa_cons (pe_callB call_len_seq (by rfl) T.b_len (by first | exact PySem.boot_len | decide +kernel) (pa_cons (pv 0) pa_nil)) pa_nil)) (pg_name (i := 5) sc_same.nd rfl (Or.inl rfl)) (pss_one (ps_if (pt_not (pt_val (pe_call G_same hr rfl D_same.g D_same.fn.kp D_same.b .nil pass0 (pa_cons (pe_ix ix_seq (pv 0) (pv 5) (fun _ _ => rfl)) (pa_cons (pe_ix ix_seq (pv 1) (pv 5) (fun _ _ => rfl)) pa_nil))))) (pss_one (ps_ret (by exact pe_bl))) pss_nil)))
      (pss_one (ps_ret (by exact pe_bl)))))))))))), ?_⟩
      rcases hS with ⟨rfl, hf⟩ | ⟨a, b, xs, ys, rfl, rfl, hab, hl, hz, hd⟩
      · cases x <;> try (exact absurd hf Bool.false_ne_true)
        all_goals walk_at "rd"
        all_goals first | exact q | (rw [decide_eq_true rfl]; exact q)
      · rcases hab with ⟨ha, hb⟩ | ⟨ha, hb⟩
        · walk_at "rd"
          refine ⟨a, xs, rfl, .inr (SqT.of ha), ?_⟩
          walk_at "rd"
          refine ⟨b, ys, rfl, .inr (SqT.of hb), ?_⟩
          walk_at "rd"
          refine ite2 (fun hc => absurd (congrArg (fun k : Nat => V.int k) hl) (of_decide_eq_false (bnot_t hc))) (fun hc => ?_)
          walk_at "rd"
          refine ⟨a, xs, rfl, .inr (SqT.of ha), ?_⟩
          walk_at "rd"
          refine ⟨by omega, by omega, ?_⟩
          have hsz : ((xs.length : Nat) : Int).toNat = xs.length := by omega
          rw [hsz]
          refine for_range (fun i σ H' => ∃ v : Option V, σ = [some (.ref a), some (.ref b), none, some (.bl false), some (.bl true), v] ∧ H' = H) ⟨none, rfl, rfl⟩ ?_ ?_
          · rintro i σ H' hi ⟨v, rfl, rfl⟩
            have hj : i < ys.length := by omega
            have e0 : (0 : Int) + (i : Int) = i := Int.zero_add _
            walk_at "rd"
            refine .inr (.inl ⟨a, xs, 0 + (i : Int), xs[i], rfl, rfl, SqT.of ha, by rw [e0]; exact atI_nat (List.getElem?_eq_getElem hi), ?_⟩)
            walk_at "rd"
            refine .inr (.inl ⟨b, ys, 0 + (i : Int), ys[i], rfl, rfl, SqT.of hb, by rw [e0]; exact atI_nat (List.getElem?_eq_getElem hj), ?_⟩)
            refine spSame_of (hd i _ _ (List.getElem?_eq_getElem hi) (List.getElem?_eq_getElem hj)) ?_
            walk_at "rd"
            rfl
          · rintro σ H' ⟨v, rfl, rfl⟩
            walk_at "rd"
            exact q
        · walk_at "rd"
          refine ⟨a, xs, rfl, .inl (SqL.of ha), ?_⟩
          walk_at "rd"
          refine ⟨b, ys, rfl, .inl (SqL.of hb), ?_⟩
          walk_at "rd"
          refine ite2 (fun hc => absurd (congrArg (fun k : Nat => V.int k) hl) (of_decide_eq_false (bnot_t hc))) (fun hc => ?_)
          walk_at "rd"
          refine ⟨a, xs, rfl, .inl (SqL.of ha), ?_⟩
          walk_at "rd"
          refine ⟨by omega, by omega, ?_⟩
          have hsz : ((xs.length : Nat) : Int).toNat = xs.length := by omega
          rw [hsz]
          refine for_range (fun i σ H' => ∃ v : Option V, σ = [some (.ref a), some (.ref b), none, some (.bl true), some (.bl false), v] ∧ H' = H) ⟨none, rfl, rfl⟩ ?_ ?_
          · rintro i σ H' hi ⟨v, rfl, rfl⟩
            have hj : i < ys.length := by omega
            have e0 : (0 : Int) + (i : Int) = i := Int.zero_add _
            walk_at "rd"
            refine (.inl ⟨a, xs, 0 + (i : Int), xs[i], rfl, rfl, SqL.of ha, by rw [e0]; exact atI_nat (List.getElem?_eq_getElem hi), ?_⟩)
            walk_at "rd"
            refine (.inl ⟨b, ys, 0 + (i : Int), ys[i], rfl, rfl, SqL.of hb, by rw [e0]; exact atI_nat (List.getElem?_eq_getElem hj), ?_⟩)
            refine spSame_of (hd i _ _ (List.getElem?_eq_getElem hi) (List.getElem?_eq_getElem hj)) ?_
            walk_at "rd"
            rfl
          · rintro σ H' ⟨v, rfl, rfl⟩
            walk_at "rd"
            exact q
omit T in
theorem SameD.flat {H : Hp} {n : Nat} {x : V} (h : flatV x = true) : SameD H (n + 1) x x := .inl ⟨rfl, h⟩
omit T in
theorem SameD.all {H : Hp} {n : Nat} {xs ys : List V} (h : Paired (SameD H n) xs ys) : ∀ (i : Nat) (x y : V), xs[i]? = some x → ys[i]? = some y → SameD H n x y := by
  induction h with
  | nil => intro i x y e; cases e
  | cons a k ih =>
    intro i x y e1 e2
    cases i with
    | zero => cases e1; cases e2; exact a
    | succ i => exact ih i x y e1 e2
omit T in
theorem SameD.tup {H : Hp} {n : Nat} {a b : Addr} {xs ys : List V} (ha : H a = some (.tup xs)) (hb : H b = some (.tup ys)) (hz : xs.length ≤ 1000) (h : Paired (SameD H n) xs ys) : SameD H (n + 1) (.ref a) (.ref b) :=
  .inr ⟨a, b, xs, ys, rfl, rfl, .inl ⟨ha, hb⟩, h.length, hz, SameD.all h⟩
omit T in
theorem SameD.lst {H : Hp} {n : Nat} {a b : Addr} {xs ys : List V} (ha : H a = some (.lst xs)) (hb : H b = some (.lst ys)) (hz : xs.length ≤ 1000) (h : Paired (SameD H n) xs ys) : SameD H (n + 1) (.ref a) (.ref b) :=
  .inr ⟨a, b, xs, ys, rfl, rfl, .inr ⟨ha, hb⟩, h.length, hz, SameD.all h⟩
omit T in
theorem NoP.same {st : Addr} {H : Hp} {v : V} (b : NoP st H v) (n : Nat) : SameD H (n + 2) v v := by
  cases b with
  | int i q => exact .flat rfl
  | bl b => exact .flat rfl
  | non => exact .flat rfl
  | str s => exact .flat rfl
  | tup a m e => exact .tup e e (by decide) (.cons (.flat rfl) .nil)
  | tup0 a m e => exact .tup e e (by decide) .nil
  | lst a m e => exact .lst e e (by decide) (.cons (.flat rfl) .nil)
def spChR : Sp := fun vs H Q _ => ∃ n k : Int, vs = [.int n, .int k] ∧ (0 ≤ n ∧ n ≤ 1000) ∧ ∀ H', Same H H' → Q (.bl true) H'
theorem ok_chooseright {f : Addr} {fd : FuncData} (F : Fun K "_law_chooseright" "_law_chooseright" s_chooseright f fd) {f_binomial : Addr} {fd_binomial : FuncData} (D_binomial : Def K mg "_law_binomial" s_binomial p_binomial f_binomial fd_binomial) (G_binomial : FnOk P w K mg base CX0 1 f_binomial fd_binomial p_binomial spCh) {f_choose : Addr} {fd_choose : FuncData} (D_choose : Def K mg "choose" s_choose p_choose f_choose fd_choose) (G_choose : FnOk P w K mg base CX0 1 f_choose fd_choose p_choose spCh) {f_same : Addr} {fd_same : FuncData} (D_same : Def K mg "_law_same" s_same p_same f_same fd_same) (G_same : FnOk P w K mg base CX0 6 f_same fd_same p_same (spSame 6)) : FnOk P w K mg base CX0 7 f fd p_chooseright spChR := by
  refine F.ok sc_chooseright (fun vs H Q E h => ?_) (fun cdv A outer s H vs Q E hr h => ?_)
  · obtain ⟨n, k, rfl, _⟩ := h
    rfl
  · obtain ⟨n, k, rfl, ⟨hn0, hn⟩, q⟩ := h
    refine ⟨_, (pss_cons (ps_set (i := 2) sc_chooseright.nd rfl (Or.inl rfl) (by exact (pe_call G_binomial (hr.mono (by decide)) rfl D_binomial.g D_binomial.fn.kp D_binomial.b .nil pass0 (pa_cons (pv 0) (pa_cons (pv 1) pa_nil)))))
      (pss_cons (ps_if (pt_not (pt_val (pe_call G_same (hr.mono (by decide)) rfl D_same.g D_same.fn.kp D_same.b .nil pass0 (pa_cons (pe_call G_choose (hr.mono (by decide)) rfl D_choose.g D_choose.fn.kp D_choose.b .nil pass0 (pa_cons (pv 0) (pa_cons (pv 1) pa_nil))) (pa_cons (pv 2) pa_nil))))) (pss_one (ps_ret (by exact pe_bl))) pss_nil)
      (pss_cons (ps_if (pt_cmpR op_eq (pv 0) pe_int (nomark _)) (pss_one (ps_ret (by exact (pe_cmpR op_eq (pv 2) (pe_callTy call_int1 (by rfl) T.b_int (by first | exact PySem.boot_int | decide +kernel) (pa_cons (pe_cmpR op_eq (pv 1) pe_int (nomark _)) pa_nil)) (nomark _))))) pss_nil)
      (pss_cons (ps_set (i := 3) sc_chooseright.nd rfl (Or.inl rfl) (by exact (pe_lst (pa_cons (pe_call G_choose (hr.mono (by decide)) rfl D_choose.g D_choose.fn.kp D_choose.b .nil pass0 (pa_cons (pe_op op_sub (pv 0) pe_int) (pa_cons (pe_op op_sub (pv 1) pe_int) pa_nil))) (pa_cons (pe_call G_choose (hr.mono (by decide)) rfl D_choose.g D_choose.fn.kp D_choose.b .nil pass0 (pa_cons (pe_op op_sub (pv 0) pe_int) (pa_cons (pv 1) pa_nil))) pa_nil)))))
      (pss_one (ps_ret (by exact (pe_and (pe_call G_same (hr.mono (by decide)) rfl D_same.g D_same.fn.kp D_same.b .nil pass0 (pa_cons (pv 3) (pa_cons (pe_lst (pa_cons (pe_call G_binomial (hr.mono (by decide)) rfl D_binomial.g D_binomial.fn.kp D_binomial.b .nil pass0 (pa_cons (pe_op op_sub (pv 0) pe_int) (pa_cons (pe_op op_sub (pv 1) pe_int) pa_nil))) (pa_cons (pe_call G_binomial (hr.mono (by decide)) rfl D_binomial.g D_binomial.fn.kp D_binomial.b .nil pass0 (pa_cons (pe_op op_sub (pv 0) pe_int) (pa_cons (pv 1) pa_nil))) pa_nil))) pa_nil))) (pe_one (pe_cmpR op_eq (pe_op op_add (pe_ix ix_list (pv 3) pe_int (fun _ _ => rfl)) (pe_ix ix_list (pv 3) pe_int (fun _ _ => rfl))) (pv 2) (nomark _))))))))))), ?_⟩
    walk_at "rd"
    refine ⟨⟨hn0, hn⟩, ?_⟩
    walk_at "rd"
    refine ⟨⟨hn0, hn⟩, ?_⟩
    walk_at "rd"
    refine ⟨.flat rfl, ?_⟩
    walk_at "rd"
    refine ite2 (fun hc => ?_) (fun hc => ?_)
    · have h0 := V.int.inj (of_decide_eq_true hc)
      walk_at "rd"
      have e : M02.binI n k = (if decide (V.int k = V.int 0) = true then 1 else 0) := by
        subst h0
        rw [M02.binI_zero]
        by_cases hk : k = 0
        · subst hk
          rfl
        · rw [if_neg hk, if_neg fun z => hk (V.int.inj (of_decide_eq_true z))]
      show Q (.bl (decide (V.int (M02.binI n k) = V.int (if decide (V.int k = V.int 0) = true then 1 else 0)))) H
      rw [decide_eq_true (congrArg V.int e)]
      exact q H fun _ _ e => e
    · have h0 : ¬ n = 0 := fun z => of_ndec hc (congrArg V.int z)
      walk_at "rd"
      refine ⟨by omega, ?_⟩
      walk_at "rd"
      refine ⟨by omega, ?_⟩
      walk_at "rd"
      walk_at "nw"
      intro l hl
      walk_at "rd"
      refine ⟨by omega, ?_⟩
      walk_at "rd"
      refine ⟨by omega, ?_⟩
      walk_at "rd"
      walk_at "nw"
      intro l2 h2
      walk_at "rd"
      have e1 := same_new h2 (o := .lst [.int (M02.binI (n - 1) (k - 1)), .int (M02.binI (n - 1) k)]) _ _ (upd_same (H := H) (a := l) (o := .lst [.int (M02.binI (n - 1) (k - 1)), .int (M02.binI (n - 1) k)]))
      refine ⟨.lst e1 upd_same (Nat.le_of_ble_eq_true rfl) (.cons (.flat rfl) (.cons (.flat rfl) .nil)), ?_⟩
      walk_at "rd"
      show Q (.bl (decide (V.int (M02.binI (n - 1) (k - 1) + M02.binI (n - 1) k) = V.int (M02.binI n k)))) _
      rw [decide_eq_true (congrArg V.int (M02.binI_pascal (by omega)))]
      exact q _ ((same_new hl).trans (same_new h2))
end
end K02

set_option Elab.async false
set_option linter.all false
set_option maxRecDepth 100000
set_option maxHeartbeats 4000000
set_option pp.deepTerms false
set_option pp.deepTerms.threshold 12
namespace K02
open PySem PySem.Spec PyProof.Rows L2
local macro_rules | `(tactic| walk_at "ty") => `(tactic| first | exact .base (.int _) | exact .base (.bl _) | exact .base (.str _) | exact .base .non | assumption | exact .base (.tup (by assumption)) | exact .base (.lst (by assumption)))
local macro_rules | `(tactic| walk_at "cm") => `(tactic| first | exact cm_r (by decide) (by decide) | exact cm_l (by decide) (by decide) | exact cm_fmod (by decide) (by decide) | exact cm_r (by omega) (by omega) | exact cm_l (by omega) (by omega))
local macro_rules | `(tactic| walk_at "dv") => `(tactic| first | exact ⟨by decide, by decide⟩ | exact ⟨by omega, by omega⟩)
local macro_rules | `(tactic| walk_at "r1") => `(tactic| first
  | refine ⟨_, rfl, ?_⟩ | refine ⟨_, _, rfl, rfl, ?_⟩ | refine Or.inl ⟨_, rfl, ?_⟩ | refine Or.inr ⟨_, rfl, ?_⟩
  | refine And.intro (a := CMul _ _) (by walk_at "cm") ?_ | refine And.intro (a := CDivN _ _) (by walk_at "dv") ?_ | refine And.intro (a := _ ≠ (0 : Int)) (by first | decide | omega) ?_ | refine And.intro (a := scal _ _ = true) rfl ?_ | refine ⟨_, _, _, _, rfl, rfl, SqL.of (by first | exact upd_same | assumption), rfl, ?_⟩ | refine ⟨_, _, _, _, rfl, rfl, (by first | exact upd_same | assumption), rfl, ?_⟩ | refine ⟨_, _, rfl, ?_⟩ | refine And.intro (a := (_ : V) = V.non) rfl ?_ | refine And.intro (a := CPow _ _) ⟨by decide, by decide, by decide⟩ ?_ | refine And.intro (a := (_ : List V) = []) rfl ?_ | refine ⟨_, _, rfl, SqT.of (by first | exact upd_same | assumption), rfl, ?_⟩
  | refine ⟨_, _, _, _, true, rfl, ClsV.ty _, (by walk_at "ty"), kit_ty (by decide +kernel), ?_⟩ | refine ⟨_, _, _, _, false, rfl, ClsV.ty _, (by walk_at "ty"), kit_ty (by decide +kernel), ?_⟩)
local macro_rules | `(tactic| walk_at "rd") => `(tactic| repeat walk_at "r1")
local macro_rules | `(tactic| walk_at "yes") => `(tactic| (change (if true = true then _ else _); rw [if_pos rfl]))
local macro_rules | `(tactic| walk_at "no") => `(tactic| (change (if false = true then _ else _); rw [if_neg Bool.false_ne_true]))
local macro_rules | `(tactic| walk_at "nw") => `(tactic| refine And.intro (a := _ ≤ sizeLine) (sz_le (Nat.le_of_ble_eq_true rfl)) ?_)

section
variable {P : Program} {w : World} {K : PySem.W.Frag} {mg : Str → Option Value} {base : Heap}
variable {C_VaultError C_TooMany C_NumberError C_BadPrime C_NoInverse C_NoNumber C_BadTable C_BadCells C_TextError C_ShapeError C_PlanError C_CourseError C_KnowError C_PaperError fV fI_BadPrime fI_NoInverse : Addr}
variable (T : Txt P K mg C_VaultError C_TooMany C_NumberError C_BadPrime C_NoInverse C_NoNumber C_BadTable C_BadCells C_TextError C_ShapeError C_PlanError C_CourseError C_KnowError C_PaperError fV fI_BadPrime fI_NoInverse)
include T
open L2H
def spSameE : Addr × Obj → Sp := fun _ vs H Q _ => ∃ z : Str, vs = [.str z, .str z] ∧ Q (.bl true) H
theorem okE_same {f : Addr} {fd : FuncData} (F : Fun K "_law_same" "_law_same" s_same f fd) : FnE P w K mg base 1 f fd p_same spSameE := by
  refine F.okE sc_same (fun p vs H Q E h => ?_) (fun cdv A outer s H vs Q E p hot hr h => ?_)
  · obtain ⟨z, rfl, _⟩ := h
    rfl
  · obtain ⟨z, rfl, q⟩ := h
    refine ⟨_, (pss_cons (ps_if (PW.pt (pw_or (pt_cmpR op_isN (pv 0) pe_non (nomark _)) (pw_or1 (pt_cmpR op_isN (pv 1) pe_non (nomark _))))) (pss_one (ps_ret (by exact (pe_and (pe_cmpR op_isN (pv 0) pe_non (nomark _)) (pe_one (pe_cmpR op_isN (pv 1) pe_non (nomark _))))))) pss_nil)
      (pss_cons (ps_if (PW.pt (pw_or (pt_val (pe_callB call_isi (by rfl) T.b_isinstance (by first | exact PySem.boot_isinstance | decide +kernel) (pa_cons (pv 0) (pa_cons (pe_bltn (v := .ty "bool") (by rfl) T.b_bool (by first | exact PySem.boot_bool | decide +kernel) rfl) pa_nil)))) (pw_or1 (pt_val (pe_callB call_isi (by rfl) T.b_isinstance (by first | exact PySem.boot_isinstance | decide +kernel) (pa_cons (pv 1) (pa_cons (pe_bltn (v := .ty "bool") (by rfl) T.b_bool (by first | exact PySem.boot_bool | decide +kernel) rfl) pa_nil))))))) (pss_one (ps_ret (by exact (pe_and (pe_callB call_isi (by rfl) T.b_isinstance (by first | exact PySem.boot_isinstance | decide +kernel) (pa_cons (pv 0) (pa_cons (pe_bltn (v := .ty "bool") (by rfl) T.b_bool (by first | exact PySem.boot_bool | decide +kernel) rfl) pa_nil))) (pe_and (pe_callB call_isi (by rfl) T.b_isinstance (by first | exact PySem.boot_isinstance | decide +kernel) (pa_cons (pv 1) (pa_cons (pe_bltn (v := .ty "bool") (by rfl) T.b_bool (by first | exact PySem.boot_bool | decide +kernel) rfl) pa_nil))) (pe_one (pe_cmpR op_eq (pv 0) (pv 1) (nomark _)))))))) pss_nil)
      (pss_cons (ps_if (PW.pt (pw_or (pt_val (pe_callB call_isi (by rfl) T.b_isinstance (by first | exact PySem.boot_isinstance | decide +kernel) (pa_cons (pv 0) (pa_cons (pe_bltn (v := .ty "int") (by rfl) T.b_int (by first | exact PySem.boot_int | decide +kernel) rfl) pa_nil)))) (pw_or1 (pt_val (pe_callB call_isi (by rfl) T.b_isinstance (by first | exact PySem.boot_isinstance | decide +kernel) (pa_cons (pv 1) (pa_cons (pe_bltn (v := .ty "int") (by rfl) T.b_int (by first | exact PySem.boot_int | decide +kernel) rfl) pa_nil))))))) (pss_one (ps_ret (by exact (pe_and (pe_callB call_isi (by rfl) T.b_isinstance (by first | exact PySem.boot_isinstance | decide +kernel) (pa_cons (pv 0) (pa_cons (pe_bltn (v := .ty "int") (by rfl) T.b_int (by first | exact PySem.boot_int | decide +kernel) rfl) pa_nil))) (pe_and (pe_callB call_isi (by rfl) T.b_isinstance (by first | exact PySem.boot_isinstance | decide +kernel) (pa_cons (pv 1) (pa_cons (pe_bltn (v := .ty "int") (by rfl) T.b_int (by first | exact PySem.boot_int | decide +kernel) rfl) pa_nil))) (pe_one (pe_cmpR op_eq (pv 0) (pv 1) (nomark _)))))))) pss_nil)
      (pss_cut (ps_if (PW.pt (pw_or (pt_val (pe_callB call_isi (by rfl) T.b_isinstance (by first | exact PySem.boot_isinstance | decide +kernel) (pa_cons (pv 0) (pa_cons (pe_bltn (v := .ty "str") (by rfl) T.b_str (by first | exact PySem.boot_str | decide +kernel) rfl) pa_nil)))) (pw_or1 (pt_val (pe_callB call_isi (by rfl) T.b_isinstance (by first | exact PySem.boot_isinstance | decide +kernel) (pa_cons (pv 1) (pa_cons (pe_bltn (v := .ty "str") (by rfl) T.b_str (by first | exact PySem.boot_str | decide +kernel) rfl) pa_nil))))))) (pss_one (ps_ret (by exact (pe_and (pe_callB call_isi (by rfl) T.b_isinstance (by first | exact PySem.boot_isinstance | decide +kernel) (pa_cons (pv 0) (pa_cons (pe_bltn (v := .ty "str") (by rfl) T.b_str (by first | exact PySem.boot_str | decide +kernel) rfl) pa_nil))) (pe_and (pe_callB call_isi (by rfl) T.b_isinstance (by first | exact PySem.boot_isinstance | decide +kernel) (pa_cons (pv 1) (pa_cons (pe_bltn (v := .ty "str") (by rfl) T.b_str (by first | exact PySem.boot_str | decide +kernel) rfl) pa_nil))) (pe_one (pe_cmpR op_eq (pv 0) (pv 1) (nomark _)))))))) pss_nil))))), ?_⟩
    walk_at "rd"
    rw [decide_eq_true rfl]
    exact q
/-- the handled exception: of the class at C, with the one field's value v -/
def IsX (C d : Addr) (nm : Str) (p : Addr × Obj) (H : Hp) (v : V) : Prop := ExP C d p ∧ H d = some (.xd (excD ["value"] nm [v]))
def spKinds (C : Addr) (nm wd : Str) : Addr × Obj → Sp := fun p vs H Q _ => ∃ (d : Addr) (v : V), vs = [.ref p.1] ∧ IsX C d nm p H v ∧ ∀ l H', Same H H' → H' l = some (.lst [.str "numbererror", .str wd]) → Q (.ref l) H'
def spClean (C : Addr) (nm wd : Str) : Addr × Obj → Sp := fun p vs H Q _ => ∃ (d : Addr) (v : V), vs = [.ref p.1, .str "numbererror", .str wd] ∧ IsX C d nm p H v ∧ ∀ H', Same H H' → Q (.bl true) H'
def spRefusal (C : Addr) (nm wd : Str) : Addr × Obj → Sp := fun p vs H Q _ => ∃ (d : Addr) (v : V), vs = [.ref p.1] ∧ IsX C d nm p H v ∧ ∀ t H', Same H H' → H' t = some (.tup [.str wd, v]) → Q (.ref t) H'
def kRows_BadPrime : List (Str × Bool) := [("numbererror", true), ("texterror", false), ("shapeerror", false), ("planerror", false), ("courseerror", false), ("knowerror", false), ("papererror", false), ("toomany", false), ("badprime", true), ("noinverse", false), ("nonumber", false), ("badtable", false), ("badcells", false)]
theorem ok_kinds_BadPrime {f : Addr} {fd : FuncData} (F : Fun K "_law_kinds" "_law_kinds" s_kinds f fd) : FnE P w K mg base 2 f fd p_kinds (spKinds C_BadPrime "BadPrime" "badprime") := by
  refine F.okE sc_kinds (fun p vs H Q E h => ?_) (fun cdv A outer s H vs Q E p hot hr h => ?_)
  · obtain ⟨d, v, rfl, _⟩ := h
    rfl
  · obtain ⟨d, v, rfl, ⟨z, hd⟩, q⟩ := h
    have hp : p ∈ [p] := List.mem_singleton.mpr rfl
    have kC := T.lf_BadPrime.kind
    refine ⟨_, (pss_cons (ps_set (i := 1) sc_kinds.nd rfl (Or.inl rfl) (by exact (pe_lst (pa_cons (pe_tup (pa_cons pe_str (pa_cons (pe_callB (call_isP hp kC z) (by rfl) T.b_isinstance (by first | exact PySem.boot_isinstance | decide +kernel) (pa_cons (pv 0) (pa_cons (pe_glob (v := .ref C_NumberError) rfl T.g_NumberError rfl) pa_nil))) pa_nil))) (pa_cons (pe_tup (pa_cons pe_str (pa_cons (pe_callB (call_isP hp kC z) (by rfl) T.b_isinstance (by first | exact PySem.boot_isinstance | decide +kernel) (pa_cons (pv 0) (pa_cons (pe_glob (v := .ref C_TextError) rfl T.g_TextError rfl) pa_nil))) pa_nil))) (pa_cons (pe_tup (pa_cons pe_str (pa_cons (pe_callB (call_isP hp kC z) (by rfl) T.b_isinstance (by first | exact PySem.boot_isinstance | decide +kernel) (pa_cons (pv 0) (pa_cons (pe_glob (v := .ref C_ShapeError) rfl T.g_ShapeError rfl) pa_nil))) pa_nil))) (pa_cons (pe_tup (pa_cons pe_str (pa_cons (pe_callB (call_isP hp kC z) (by rfl) T.b_isinstance (by first | exact PySem.boot_isinstance | decide +kernel) (pa_cons (pv 0) (pa_cons (pe_glob (v := .ref C_PlanError) rfl T.g_PlanError rfl) pa_nil))) pa_nil))) (pa_cons (pe_tup (pa_cons pe_str (pa_cons (pe_callB (call_isP hp kC z) (by rfl) T.b_isinstance (by first | exact PySem.boot_isinstance | decide +kernel) (pa_cons (pv 0) (pa_cons (pe_glob (v := .ref C_CourseError) rfl T.g_CourseError rfl) pa_nil))) pa_nil))) (pa_cons (pe_tup (pa_cons pe_str (pa_cons (pe_callB (call_isP hp kC z) (by rfl) T.b_isinstance (by first | exact PySem.boot_isinstance | decide +kernel) (pa_cons (pv 0) (pa_cons (pe_glob (v := .ref C_KnowError) rfl T.g_KnowError rfl) pa_nil))) pa_nil))) (pa_cons (pe_tup (pa_cons pe_str (pa_cons (pe_callB (call_isP hp kC z) (by rfl) T.b_isinstance (by first | exact PySem.boot_isinstance | decide +kernel) (pa_cons (pv 0) (pa_cons (pe_glob (v := .ref C_PaperError) rfl T.g_PaperError rfl) pa_nil))) pa_nil))) (pa_cons (pe_tup (pa_cons pe_str (pa_cons (pe_callB (call_isP hp kC z) (by rfl) T.b_isinstance (by first | exact PySem.boot_isinstance | decide +kernel) (pa_cons (pv 0) (pa_cons (pe_glob (v := .ref C_TooMany) rfl T.g_TooMany rfl) pa_nil))) pa_nil))) (pa_cons (pe_tup (pa_cons pe_str (pa_cons (pe_callB (call_isP hp kC z) (by rfl) T.b_isinstance (by first | exact PySem.boot_isinstance | decide +kernel) (pa_cons (pv 0) (pa_cons (pe_glob (v := .ref C_BadPrime) rfl T.g_BadPrime rfl) pa_nil))) pa_nil))) (pa_cons (pe_tup (pa_cons pe_str (pa_cons (pe_callB (call_isP hp kC z) (by rfl) T.b_isinstance (by first | exact PySem.boot_isinstance | decide +kernel) (pa_cons (pv 0) (pa_cons (pe_glob (v := .ref C_NoInverse) rfl T.g_NoInverse rfl) pa_nil))) pa_nil))) (pa_cons (pe_tup (pa_cons pe_str (pa_cons (pe_callB (call_isP hp kC z) (by rfl) T.b_isinstance (by first | exact PySem.boot_isinstance | decide +kernel) (pa_cons (pv 0) (pa_cons (pe_glob (v := .ref C_NoNumber) rfl T.g_NoNumber rfl) pa_nil))) pa_nil))) (pa_cons (pe_tup (pa_cons pe_str (pa_cons (pe_callB (call_isP hp kC z) (by rfl) T.b_isinstance (by first | exact PySem.boot_isinstance | decide +kernel) (pa_cons (pv 0) (pa_cons (pe_glob (v := .ref C_BadTable) rfl T.g_BadTable rfl) pa_nil))) pa_nil))) (pa_cons (pe_tup (pa_cons pe_str (pa_cons (pe_callB (call_isP hp kC z) (by rfl) T.b_isinstance (by first | exact PySem.boot_isinstance | decide +kernel) (pa_cons (pv 0) (pa_cons (pe_glob (v := .ref C_BadCells) rfl T.g_BadCells rfl) pa_nil))) pa_nil))) pa_nil))))))))))))))))
      (pss_one (ps_ret (by exact (pe_lcE (own := [("row", 2)]) (g := gName 2) hot hp sc_kinds.nd (pv 1) (blkOk_by (own := [("row", 2)]) (N := N_kinds) (sc := defScope s_kinds) (by decide +kernel)) (fun _ _ _ _ _ => pg_name (i := 2) sc_kinds.nd rfl (Or.inl rfl)) (fun _ _ _ _ _ => (pts_one (pt_val (pe_ix (show IxR _ (rIxT K) from ix_tup) (pv 2) pe_int (fun _ _ => rfl))))) (fun _ _ _ _ _ => (pe_ix (show IxR _ (rIxT K) from ix_tup) (pv 2) pe_int (fun _ _ => rfl)))))))), ?_⟩
    walk_at "rd"
    refine ⟨_, _, true, _, rfl, fun _ h => h, T.k_BadPrime_NumberError, hd, ?_⟩
    walk_at "rd"
    walk_at "nw"
    intro t1 h1
    generalize hg1 : upd H t1 _ = H1
    have s1 : Same H H1 := by rw [← hg1]; exact same_new h1
    have e1 : H1 t1 = some (.tup [.str "numbererror", .bl true]) := by rw [← hg1]; exact upd_same
    have sd1 : Same H H1 := s1
    walk_at "rd"
    refine ⟨_, _, false, _, rfl, fun _ h => h, T.k_BadPrime_TextError, sd1 _ _ hd, ?_⟩
    walk_at "rd"
    walk_at "nw"
    intro t2 h2
    generalize hg2 : upd H1 t2 _ = H2
    have s2 : Same H1 H2 := by rw [← hg2]; exact same_new h2
    have e2 : H2 t2 = some (.tup [.str "texterror", .bl false]) := by rw [← hg2]; exact upd_same
    have sd2 : Same H H2 := sd1.trans s2
    walk_at "rd"
    refine ⟨_, _, false, _, rfl, fun _ h => h, T.k_BadPrime_ShapeError, sd2 _ _ hd, ?_⟩
    walk_at "rd"
    walk_at "nw"
    intro t3 h3
    generalize hg3 : upd H2 t3 _ = H3
    have s3 : Same H2 H3 := by rw [← hg3]; exact same_new h3
    have e3 : H3 t3 = some (.tup [.str "shapeerror", .bl false]) := by rw [← hg3]; exact upd_same
    have sd3 : Same H H3 := sd2.trans s3
    walk_at "rd"
    refine ⟨_, _, false, _, rfl, fun _ h => h, T.k_BadPrime_PlanError, sd3 _ _ hd, ?_⟩
    walk_at "rd"
    walk_at "nw"
    intro t4 h4
    generalize hg4 : upd H3 t4 _ = H4
    have s4 : Same H3 H4 := by rw [← hg4]; exact same_new h4
    have e4 : H4 t4 = some (.tup [.str "planerror", .bl false]) := by rw [← hg4]; exact upd_same
    have sd4 : Same H H4 := sd3.trans s4
    walk_at "rd"
    refine ⟨_, _, false, _, rfl, fun _ h => h, T.k_BadPrime_CourseError, sd4 _ _ hd, ?_⟩
    walk_at "rd"
    walk_at "nw"
    intro t5 h5
    generalize hg5 : upd H4 t5 _ = H5
    have s5 : Same H4 H5 := by rw [← hg5]; exact same_new h5
    have e5 : H5 t5 = some (.tup [.str "courseerror", .bl false]) := by rw [← hg5]; exact upd_same
    have sd5 : Same H H5 := sd4.trans s5
    walk_at "rd"
    refine ⟨_, _, false, _, rfl, fun _ h => h, T.k_BadPrime_KnowError, sd5 _ _ hd, ?_⟩
    walk_at "rd"
    walk_at "nw"
    intro t6 h6
    generalize hg6 : upd H5 t6 _ = H6
    have s6 : Same H5 H6 := by rw [← hg6]; exact same_new h6
    have e6 : H6 t6 = some (.tup [.str "knowerror", .bl false]) := by rw [← hg6]; exact upd_same
    have sd6 : Same H H6 := sd5.trans s6
    walk_at "rd"
    refine ⟨_, _, false, _, rfl, fun _ h => h, T.k_BadPrime_PaperError, sd6 _ _ hd, ?_⟩
    walk_at "rd"
    walk_at "nw"
    intro t7 h7
    generalize hg7 : upd H6 t7 _ = H7
    have s7 : Same H6 H7 := by rw [← hg7]; exact same_new h7
    have e7 : H7 t7 = some (.tup [.str "papererror", .bl false]) := by rw [← hg7]; exact upd_same
    have sd7 : Same H H7 := sd6.trans s7
    walk_at "rd"
    refine ⟨_, _, false, _, rfl, fun _ h => h, T.k_BadPrime_TooMany, sd7 _ _ hd, ?_⟩
    walk_at "rd"
    walk_at "nw"
    intro t8 h8
    generalize hg8 : upd H7 t8 _ = H8
    have s8 : Same H7 H8 := by rw [← hg8]; exact same_new h8
    have e8 : H8 t8 = some (.tup [.str "toomany", .bl false]) := by rw [← hg8]; exact upd_same
    have sd8 : Same H H8 := sd7.trans s8
    walk_at "rd"
    refine ⟨_, _, true, _, rfl, fun _ h => h, T.k_BadPrime_BadPrime, sd8 _ _ hd, ?_⟩
    walk_at "rd"
    walk_at "nw"
    intro t9 h9
    generalize hg9 : upd H8 t9 _ = H9
    have s9 : Same H8 H9 := by rw [← hg9]; exact same_new h9
    have e9 : H9 t9 = some (.tup [.str "badprime", .bl true]) := by rw [← hg9]; exact upd_same
    have sd9 : Same H H9 := sd8.trans s9
    walk_at "rd"
    refine ⟨_, _, false, _, rfl, fun _ h => h, T.k_BadPrime_NoInverse, sd9 _ _ hd, ?_⟩
    walk_at "rd"
    walk_at "nw"
    intro t10 h10
    generalize hg10 : upd H9 t10 _ = H10
    have s10 : Same H9 H10 := by rw [← hg10]; exact same_new h10
    have e10 : H10 t10 = some (.tup [.str "noinverse", .bl false]) := by rw [← hg10]; exact upd_same
    have sd10 : Same H H10 := sd9.trans s10
    walk_at "rd"
    refine ⟨_, _, false, _, rfl, fun _ h => h, T.k_BadPrime_NoNumber, sd10 _ _ hd, ?_⟩
    walk_at "rd"
    walk_at "nw"
    intro t11 h11
    generalize hg11 : upd H10 t11 _ = H11
    have s11 : Same H10 H11 := by rw [← hg11]; exact same_new h11
    have e11 : H11 t11 = some (.tup [.str "nonumber", .bl false]) := by rw [← hg11]; exact upd_same
    have sd11 : Same H H11 := sd10.trans s11
    walk_at "rd"
    refine ⟨_, _, false, _, rfl, fun _ h => h, T.k_BadPrime_BadTable, sd11 _ _ hd, ?_⟩
    walk_at "rd"
    walk_at "nw"
    intro t12 h12
    generalize hg12 : upd H11 t12 _ = H12
    have s12 : Same H11 H12 := by rw [← hg12]; exact same_new h12
    have e12 : H12 t12 = some (.tup [.str "badtable", .bl false]) := by rw [← hg12]; exact upd_same
    have sd12 : Same H H12 := sd11.trans s12
    walk_at "rd"
    refine ⟨_, _, false, _, rfl, fun _ h => h, T.k_BadPrime_BadCells, sd12 _ _ hd, ?_⟩
    walk_at "rd"
    walk_at "nw"
    intro t13 h13
    generalize hg13 : upd H12 t13 _ = H13
    have s13 : Same H12 H13 := by rw [← hg13]; exact same_new h13
    have e13 : H13 t13 = some (.tup [.str "badcells", .bl false]) := by rw [← hg13]; exact upd_same
    have sd13 : Same H H13 := sd12.trans s13
    walk_at "rd"
    walk_at "nw"
    intro l hl
    generalize hgl : upd H13 l _ = H'
    have sl : Same H13 H' := by rw [← hgl]; exact same_new hl
    have el : H' l = some (.lst [V.ref t1, V.ref t2, V.ref t3, V.ref t4, V.ref t5, V.ref t6, V.ref t7, V.ref t8, V.ref t9, V.ref t10, V.ref t11, V.ref t12, V.ref t13]) := by rw [← hgl]; exact upd_same
    have sd : Same H H' := sd13.trans sl
    have pr : Paired (fun (x : V) (y : Str × Bool) => ∃ t : Addr, x = .ref t ∧ H' t = some (.tup [.str y.1, .bl y.2])) [V.ref t1, V.ref t2, V.ref t3, V.ref t4, V.ref t5, V.ref t6, V.ref t7, V.ref t8, V.ref t9, V.ref t10, V.ref t11, V.ref t12, V.ref t13] kRows_BadPrime := (.cons ⟨t1, rfl, sl _ _ (s13 _ _ (s12 _ _ (s11 _ _ (s10 _ _ (s9 _ _ (s8 _ _ (s7 _ _ (s6 _ _ (s5 _ _ (s4 _ _ (s3 _ _ (s2 _ _ (e1)))))))))))))⟩ (.cons ⟨t2, rfl, sl _ _ (s13 _ _ (s12 _ _ (s11 _ _ (s10 _ _ (s9 _ _ (s8 _ _ (s7 _ _ (s6 _ _ (s5 _ _ (s4 _ _ (s3 _ _ (e2))))))))))))⟩ (.cons ⟨t3, rfl, sl _ _ (s13 _ _ (s12 _ _ (s11 _ _ (s10 _ _ (s9 _ _ (s8 _ _ (s7 _ _ (s6 _ _ (s5 _ _ (s4 _ _ (e3)))))))))))⟩ (.cons ⟨t4, rfl, sl _ _ (s13 _ _ (s12 _ _ (s11 _ _ (s10 _ _ (s9 _ _ (s8 _ _ (s7 _ _ (s6 _ _ (s5 _ _ (e4))))))))))⟩ (.cons ⟨t5, rfl, sl _ _ (s13 _ _ (s12 _ _ (s11 _ _ (s10 _ _ (s9 _ _ (s8 _ _ (s7 _ _ (s6 _ _ (e5)))))))))⟩ (.cons ⟨t6, rfl, sl _ _ (s13 _ _ (s12 _ _ (s11 _ _ (s10 _ _ (s9 _ _ (s8 _ _ (s7 _ _ (e6))))))))⟩ (.cons ⟨t7, rfl, sl _ _ (s13 _ _ (s12 _ _ (s11 _ _ (s10 _ _ (s9 _ _ (s8 _ _ (e7)))))))⟩ (.cons ⟨t8, rfl, sl _ _ (s13 _ _ (s12 _ _ (s11 _ _ (s10 _ _ (s9 _ _ (e8))))))⟩ (.cons ⟨t9, rfl, sl _ _ (s13 _ _ (s12 _ _ (s11 _ _ (s10 _ _ (e9)))))⟩ (.cons ⟨t10, rfl, sl _ _ (s13 _ _ (s12 _ _ (s11 _ _ (e10))))⟩ (.cons ⟨t11, rfl, sl _ _ (s13 _ _ (s12 _ _ (e11)))⟩ (.cons ⟨t12, rfl, sl _ _ (s13 _ _ (e12))⟩ (.cons ⟨t13, rfl, sl _ _ (e13)⟩ .nil)))))))))))))
    generalize ([V.ref t1, V.ref t2, V.ref t3, V.ref t4, V.ref t5, V.ref t6, V.ref t7, V.ref t8, V.ref t9, V.ref t10, V.ref t11, V.ref t12, V.ref t13] : List V) = xs at el pr
    walk_at "rd"
    clear e1 e2 e3 e4 e5 e6 e7 e8 e9 e10 e11 e12 e13
    refine ⟨⟨_, SqL.of el⟩, fun D hD => lc_list (K := K) (a := l) (xs := xs) (fun i H2 => Same H' H2 ∧ H2 D = some (.lst (((kRows_BadPrime.take i).filter (·.2)).map fun z => V.str z.1))) ⟨same_new hD, upd_same⟩ (fun i H2 _ ⟨e, _⟩ => SqL.of (e _ _ el)) ?_ ?_⟩
    · rintro i y H2 hi ⟨e3, e4⟩
      obtain ⟨wb, hwb, t, rfl, ht⟩ := pairedAt pr hi
      obtain ⟨wd, b⟩ := wb
      refine ⟨rfl, ?_⟩
      have ht2 := e3 _ _ ht
      have htk := take_one hwb
      refine ⟨_, rfl, t, _, 1, .bl b, rfl, rfl, SqT.of ht2, rfl, ?_⟩
      have hlen : ((((kRows_BadPrime.take i).filter (·.2)).map fun z => V.str z.1)).length ≤ 13 := by
        rw [List.length_map]
        exact Nat.le_trans (List.length_filter_le _ _) (by rw [List.length_take]; exact Nat.min_le_right _ _)
      cases b with
      | true =>
        refine ⟨true, rfl, ?_⟩
        walk_at "rd"
        refine ⟨t, _, 0, .str wd, rfl, rfl, SqT.of ht2, rfl, _, e4, sz_lt (Nat.lt_of_le_of_lt hlen (by decide)), e3.mut hD, ?_⟩
        rw [htk, List.filter_append, List.map_append]
        exact upd_same
      | false =>
        refine ⟨false, rfl, e3, ?_⟩
        rw [htk, List.filter_append, List.map_append]
        rw [e4]
        show _ = some (HO.lst (_ ++ []))
        rw [List.append_nil]
    · rintro H2 ⟨e3, e4⟩
      have hl13 : xs.length = 13 := pr.length
      rw [hl13] at e4
      exact q D H2 (sd.trans e3) e4
omit T in
theorem xd_word_BadPrime (v : V) : (excD ["value"] "BadPrime" [v]).lookup ("word" : Str) = some (.str "badprime") := by
  first | rfl | decide +kernel
omit T in
theorem xd_value_BadPrime (v : V) : (excD ["value"] "BadPrime" [v]).lookup ("value" : Str) = some v := by
  first | rfl | decide +kernel
theorem ok_clean_BadPrime {f : Addr} {fd : FuncData} (F : Fun K "_law_clean" "_law_clean" s_clean f fd) {f_same : Addr} {fd_same : FuncData} (D_same : Def K mg "_law_same" s_same p_same f_same fd_same) (E_same : FnE P w K mg base 1 f_same fd_same p_same spSameE) {f_kinds : Addr} {fd_kinds : FuncData} (D_kinds : Def K mg "_law_kinds" s_kinds p_kinds f_kinds fd_kinds) (E_kinds : FnE P w K mg base 2 f_kinds fd_kinds p_kinds (spKinds C_BadPrime "BadPrime" "badprime")) : FnE P w K mg base 3 f fd p_clean (spClean C_BadPrime "BadPrime" "badprime") := by
  refine F.okE sc_clean (fun p vs H Q E h => ?_) (fun cdv A outer s H vs Q E p hot hr h => ?_)
  · obtain ⟨d, v, rfl, _⟩ := h
    rfl
  · obtain ⟨d, v, rfl, ⟨z, hd⟩, q⟩ := h
    have hp : p ∈ [p] := List.mem_singleton.mpr rfl
    have kC := T.lf_BadPrime.kind
    have no_word := kC.nw
    refine ⟨_, (pss_one (ps_ret (by exact (pe_and (pe_callB (call_isP hp kC z) (by rfl) T.b_isinstance (by first | exact PySem.boot_isinstance | decide +kernel) (pa_cons (pv 0) (pa_cons (pe_bltn (v := .ty "ValueError") (by rfl) T.b_ValueError (by first | exact PySem.boot_ValueError | decide +kernel) rfl) pa_nil))) (pe_and (pe_callE E_same (hr.mono (by decide)) hot hp rfl D_same.g D_same.fn.kp D_same.b (pa_cons (pe_xp hp kC z no_word (pv 0)) (pa_cons (pv 2) pa_nil))) (pe_one (pe_cmpR (op_eqV (hu64 hr)) (pe_callE E_kinds (hr.mono (by decide)) hot hp rfl D_kinds.g D_kinds.fn.kp D_kinds.b (pa_cons (pv 0) pa_nil)) (pe_lst (pa_cons (pv 1) (pa_cons (pv 2) pa_nil))) (nomark _)))))))), ?_⟩
    walk_at "rd"
    refine ⟨_, _, true, _, rfl, fun _ h => h, T.k_BadPrime_ValueError, hd, ?_⟩
    walk_at "rd"
    refine ⟨rfl, _, _, hd, xd_word_BadPrime v, ?_⟩
    walk_at "rd"
    refine ⟨d, v, rfl, ⟨z, hd⟩, fun l H' s1 hl => ?_⟩
    walk_at "rd"
    walk_at "nw"
    intro u hu
    refine ⟨2, by decide, .inl ⟨_, _, _, _, rfl, rfl, SqL.of (same_new hu _ _ hl), SqL.of upd_same, .cons (.inl ⟨rfl, rfl⟩) (.cons (.inl ⟨rfl, rfl⟩) .nil)⟩, ?_⟩
    exact q _ (s1.trans (same_new hu))
def kRows_NoInverse : List (Str × Bool) := [("numbererror", true), ("texterror", false), ("shapeerror", false), ("planerror", false), ("courseerror", false), ("knowerror", false), ("papererror", false), ("toomany", false), ("badprime", false), ("noinverse", true), ("nonumber", false), ("badtable", false), ("badcells", false)]
theorem ok_kinds_NoInverse {f : Addr} {fd : FuncData} (F : Fun K "_law_kinds" "_law_kinds" s_kinds f fd) : FnE P w K mg base 2 f fd p_kinds (spKinds C_NoInverse "NoInverse" "noinverse") := by
  refine F.okE sc_kinds (fun p vs H Q E h => ?_) (fun cdv A outer s H vs Q E p hot hr h => ?_)
  · obtain ⟨d, v, rfl, _⟩ := h
    rfl
  · obtain ⟨d, v, rfl, ⟨z, hd⟩, q⟩ := h
    have hp : p ∈ [p] := List.mem_singleton.mpr rfl
    have kC := T.lf_NoInverse.kind
    refine ⟨_, (pss_cons (ps_set (i := 1) sc_kinds.nd rfl (Or.inl rfl) (by exact (pe_lst (pa_cons (pe_tup (pa_cons pe_str (pa_cons (pe_callB (call_isP hp kC z) (by rfl) T.b_isinstance (by first | exact PySem.boot_isinstance | decide +kernel) (pa_cons (pv 0) (pa_cons (pe_glob (v := .ref C_NumberError) rfl T.g_NumberError rfl) pa_nil))) pa_nil))) (pa_cons (pe_tup (pa_cons pe_str (pa_cons (pe_callB (call_isP hp kC z) (by rfl) T.b_isinstance (by first | exact PySem.boot_isinstance | decide +kernel) (pa_cons (pv 0) (pa_cons (pe_glob (v := .ref C_TextError) rfl T.g_TextError rfl) pa_nil))) pa_nil))) (pa_cons (pe_tup (pa_cons pe_str (pa_cons (pe_callB (call_isP hp kC z) (by rfl) T.b_isinstance (by first | exact PySem.boot_isinstance | decide +kernel) (pa_cons (pv 0) (pa_cons (pe_glob (v := .ref C_ShapeError) rfl T.g_ShapeError rfl) pa_nil))) pa_nil))) (pa_cons (pe_tup (pa_cons pe_str (pa_cons (pe_callB (call_isP hp kC z) (by rfl) T.b_isinstance (by first | exact PySem.boot_isinstance | decide +kernel) (pa_cons (pv 0) (pa_cons (pe_glob (v := .ref C_PlanError) rfl T.g_PlanError rfl) pa_nil))) pa_nil))) (pa_cons (pe_tup (pa_cons pe_str (pa_cons (pe_callB (call_isP hp kC z) (by rfl) T.b_isinstance (by first | exact PySem.boot_isinstance | decide +kernel) (pa_cons (pv 0) (pa_cons (pe_glob (v := .ref C_CourseError) rfl T.g_CourseError rfl) pa_nil))) pa_nil))) (pa_cons (pe_tup (pa_cons pe_str (pa_cons (pe_callB (call_isP hp kC z) (by rfl) T.b_isinstance (by first | exact PySem.boot_isinstance | decide +kernel) (pa_cons (pv 0) (pa_cons (pe_glob (v := .ref C_KnowError) rfl T.g_KnowError rfl) pa_nil))) pa_nil))) (pa_cons (pe_tup (pa_cons pe_str (pa_cons (pe_callB (call_isP hp kC z) (by rfl) T.b_isinstance (by first | exact PySem.boot_isinstance | decide +kernel) (pa_cons (pv 0) (pa_cons (pe_glob (v := .ref C_PaperError) rfl T.g_PaperError rfl) pa_nil))) pa_nil))) (pa_cons (pe_tup (pa_cons pe_str (pa_cons (pe_callB (call_isP hp kC z) (by rfl) T.b_isinstance (by first | exact PySem.boot_isinstance | decide +kernel) (pa_cons (pv 0) (pa_cons (pe_glob (v := .ref C_TooMany) rfl T.g_TooMany rfl) pa_nil))) pa_nil))) (pa_cons (pe_tup (pa_cons pe_str (pa_cons (pe_callB (call_isP hp kC z) (by rfl) T.b_isinstance (by first | exact PySem.boot_isinstance | decide +kernel) (pa_cons (pv 0) (pa_cons (pe_glob (v := .ref C_BadPrime) rfl T.g_BadPrime rfl) pa_nil))) pa_nil))) (pa_cons (pe_tup (pa_cons pe_str (pa_cons (pe_callB (call_isP hp kC z) (by rfl) T.b_isinstance (by first | exact PySem.boot_isinstance | decide +kernel) (pa_cons (pv 0) (pa_cons (pe_glob (v := .ref C_NoInverse) rfl T.g_NoInverse rfl) pa_nil))) pa_nil))) (pa_cons (pe_tup (pa_cons pe_str (pa_cons (pe_callB (call_isP hp kC z) (by rfl) T.b_isinstance (by first | exact PySem.boot_isinstance | decide +kernel) (pa_cons (pv 0) (pa_cons (pe_glob (v := .ref C_NoNumber) rfl T.g_NoNumber rfl) pa_nil))) pa_nil))) (pa_cons (pe_tup (pa_cons pe_str (pa_cons (pe_callB (call_isP hp kC z) (by rfl) T.b_isinstance (by first | exact PySem.boot_isinstance | decide +kernel) (pa_cons (pv 0) (pa_cons (pe_glob (v := .ref C_BadTable) rfl T.g_BadTable rfl) pa_nil))) pa_nil))) (pa_cons (pe_tup (pa_cons pe_str (pa_cons (pe_callB (call_isP hp kC z) (by rfl) T.b_isinstance (by first | exact PySem.boot_isinstance | decide +kernel) (pa_cons (pv 0) (pa_cons (pe_glob (v := .ref C_BadCells) rfl T.g_BadCells rfl) pa_nil))) pa_nil))) pa_nil))))))))))))))))
      (pss_one (ps_ret (by exact (pe_lcE (own := [("row", 2)]) (g := gName 2) hot hp sc_kinds.nd (pv 1) (blkOk_by (own := [("row", 2)]) (N := N_kinds) (sc := defScope s_kinds) (by decide +kernel)) (fun _ _ _ _ _ => pg_name (i := 2) sc_kinds.nd rfl (Or.inl rfl)) (fun _ _ _ _ _ => (pts_one (pt_val (pe_ix (show IxR _ (rIxT K) from ix_tup) (pv 2) pe_int (fun _ _ => rfl))))) (fun _ _ _ _ _ => (pe_ix (show IxR _ (rIxT K) from ix_tup) (pv 2) pe_int (fun _ _ => rfl)))))))), ?_⟩
    walk_at "rd"
    refine ⟨_, _, true, _, rfl, fun _ h => h, T.k_NoInverse_NumberError, hd, ?_⟩
    walk_at "rd"
    walk_at "nw"
    intro t1 h1
    generalize hg1 : upd H t1 _ = H1
    have s1 : Same H H1 := by rw [← hg1]; exact same_new h1
    have e1 : H1 t1 = some (.tup [.str "numbererror", .bl true]) := by rw [← hg1]; exact upd_same
    have sd1 : Same H H1 := s1
    walk_at "rd"
    refine ⟨_, _, false, _, rfl, fun _ h => h, T.k_NoInverse_TextError, sd1 _ _ hd, ?_⟩
    walk_at "rd"
    walk_at "nw"
    intro t2 h2
    generalize hg2 : upd H1 t2 _ = H2
    have s2 : Same H1 H2 := by rw [← hg2]; exact same_new h2
    have e2 : H2 t2 = some (.tup [.str "texterror", .bl false]) := by rw [← hg2]; exact upd_same
    have sd2 : Same H H2 := sd1.trans s2
    walk_at "rd"
    refine ⟨_, _, false, _, rfl, fun _ h => h, T.k_NoInverse_ShapeError, sd2 _ _ hd, ?_⟩
    walk_at "rd"
    walk_at "nw"
    intro t3 h3
    generalize hg3 : upd H2 t3 _ = H3
    have s3 : Same H2 H3 := by rw [← hg3]; exact same_new h3
    have e3 : H3 t3 = some (.tup [.str "shapeerror", .bl false]) := by rw [← hg3]; exact upd_same
    have sd3 : Same H H3 := sd2.trans s3
    walk_at "rd"
    refine ⟨_, _, false, _, rfl, fun _ h => h, T.k_NoInverse_PlanError, sd3 _ _ hd, ?_⟩
    walk_at "rd"
    walk_at "nw"
    intro t4 h4
    generalize hg4 : upd H3 t4 _ = H4
    have s4 : Same H3 H4 := by rw [← hg4]; exact same_new h4
    have e4 : H4 t4 = some (.tup [.str "planerror", .bl false]) := by rw [← hg4]; exact upd_same
    have sd4 : Same H H4 := sd3.trans s4
    walk_at "rd"
    refine ⟨_, _, false, _, rfl, fun _ h => h, T.k_NoInverse_CourseError, sd4 _ _ hd, ?_⟩
    walk_at "rd"
    walk_at "nw"
    intro t5 h5
    generalize hg5 : upd H4 t5 _ = H5
    have s5 : Same H4 H5 := by rw [← hg5]; exact same_new h5
    have e5 : H5 t5 = some (.tup [.str "courseerror", .bl false]) := by rw [← hg5]; exact upd_same
    have sd5 : Same H H5 := sd4.trans s5
    walk_at "rd"
    refine ⟨_, _, false, _, rfl, fun _ h => h, T.k_NoInverse_KnowError, sd5 _ _ hd, ?_⟩
    walk_at "rd"
    walk_at "nw"
    intro t6 h6
    generalize hg6 : upd H5 t6 _ = H6
    have s6 : Same H5 H6 := by rw [← hg6]; exact same_new h6
    have e6 : H6 t6 = some (.tup [.str "knowerror", .bl false]) := by rw [← hg6]; exact upd_same
    have sd6 : Same H H6 := sd5.trans s6
    walk_at "rd"
    refine ⟨_, _, false, _, rfl, fun _ h => h, T.k_NoInverse_PaperError, sd6 _ _ hd, ?_⟩
    walk_at "rd"
    walk_at "nw"
    intro t7 h7
    generalize hg7 : upd H6 t7 _ = H7
    have s7 : Same H6 H7 := by rw [← hg7]; exact same_new h7
    have e7 : H7 t7 = some (.tup [.str "papererror", .bl false]) := by rw [← hg7]; exact upd_same
    have sd7 : Same H H7 := sd6.trans s7
    walk_at "rd"
    refine ⟨_, _, false, _, rfl, fun _ h => h, T.k_NoInverse_TooMany, sd7 _ _ hd, ?_⟩
    walk_at "rd"
    walk_at "nw"
    intro t8 h8
    generalize hg8 : upd H7 t8 _ = H8
    have s8 : Same H7 H8 := by rw [← hg8]; exact same_new h8
    have e8 : H8 t8 = some (.tup [.str "toomany", .bl false]) := by rw [← hg8]; exact upd_same
    have sd8 : Same H H8 := sd7.trans s8
    walk_at "rd"
    refine ⟨_, _, false, _, rfl, fun _ h => h, T.k_NoInverse_BadPrime, sd8 _ _ hd, ?_⟩
    walk_at "rd"
    walk_at "nw"
    intro t9 h9
    generalize hg9 : upd H8 t9 _ = H9
    have s9 : Same H8 H9 := by rw [← hg9]; exact same_new h9
    have e9 : H9 t9 = some (.tup [.str "badprime", .bl false]) := by rw [← hg9]; exact upd_same
    have sd9 : Same H H9 := sd8.trans s9
    walk_at "rd"
    refine ⟨_, _, true, _, rfl, fun _ h => h, T.k_NoInverse_NoInverse, sd9 _ _ hd, ?_⟩
    walk_at "rd"
    walk_at "nw"
    intro t10 h10
    generalize hg10 : upd H9 t10 _ = H10
    have s10 : Same H9 H10 := by rw [← hg10]; exact same_new h10
    have e10 : H10 t10 = some (.tup [.str "noinverse", .bl true]) := by rw [← hg10]; exact upd_same
    have sd10 : Same H H10 := sd9.trans s10
    walk_at "rd"
    refine ⟨_, _, false, _, rfl, fun _ h => h, T.k_NoInverse_NoNumber, sd10 _ _ hd, ?_⟩
    walk_at "rd"
    walk_at "nw"
    intro t11 h11
    generalize hg11 : upd H10 t11 _ = H11
    have s11 : Same H10 H11 := by rw [← hg11]; exact same_new h11
    have e11 : H11 t11 = some (.tup [.str "nonumber", .bl false]) := by rw [← hg11]; exact upd_same
    have sd11 : Same H H11 := sd10.trans s11
    walk_at "rd"
    refine ⟨_, _, false, _, rfl, fun _ h => h, T.k_NoInverse_BadTable, sd11 _ _ hd, ?_⟩
    walk_at "rd"
    walk_at "nw"
    intro t12 h12
    generalize hg12 : upd H11 t12 _ = H12
    have s12 : Same H11 H12 := by rw [← hg12]; exact same_new h12
    have e12 : H12 t12 = some (.tup [.str "badtable", .bl false]) := by rw [← hg12]; exact upd_same
    have sd12 : Same H H12 := sd11.trans s12
    walk_at "rd"
    refine ⟨_, _, false, _, rfl, fun _ h => h, T.k_NoInverse_BadCells, sd12 _ _ hd, ?_⟩
    walk_at "rd"
    walk_at "nw"
    intro t13 h13
    generalize hg13 : upd H12 t13 _ = H13
    have s13 : Same H12 H13 := by rw [← hg13]; exact same_new h13
    have e13 : H13 t13 = some (.tup [.str "badcells", .bl false]) := by rw [← hg13]; exact upd_same
    have sd13 : Same H H13 := sd12.trans s13
    walk_at "rd"
    walk_at "nw"
    intro l hl
    generalize hgl : upd H13 l _ = H'
    have sl : Same H13 H' := by rw [← hgl]; exact same_new hl
    have el : H' l = some (.lst [V.ref t1, V.ref t2, V.ref t3, V.ref t4, V.ref t5, V.ref t6, V.ref t7, V.ref t8, V.ref t9, V.ref t10, V.ref t11, V.ref t12, V.ref t13]) := by rw [← hgl]; exact upd_same
    have sd : Same H H' := sd13.trans sl
    have pr : Paired (fun (x : V) (y : Str × Bool) => ∃ t : Addr, x = .ref t ∧ H' t = some (.tup [.str y.1, .bl y.2])) [V.ref t1, V.ref t2, V.ref t3, V.ref t4, V.ref t5, V.ref t6, V.ref t7, V.ref t8, V.ref t9, V.ref t10, V.ref t11, V.ref t12, V.ref t13] kRows_NoInverse := (.cons ⟨t1, rfl, sl _ _ (s13 _ _ (s12 _ _ (s11 _ _ (s10 _ _ (s9 _ _ (s8 _ _ (s7 _ _ (s6 _ _ (s5 _ _ (s4 _ _ (s3 _ _ (s2 _ _ (e1)))))))))))))⟩ (.cons ⟨t2, rfl, sl _ _ (s13 _ _ (s12 _ _ (s11 _ _ (s10 _ _ (s9 _ _ (s8 _ _ (s7 _ _ (s6 _ _ (s5 _ _ (s4 _ _ (s3 _ _ (e2))))))))))))⟩ (.cons ⟨t3, rfl, sl _ _ (s13 _ _ (s12 _ _ (s11 _ _ (s10 _ _ (s9 _ _ (s8 _ _ (s7 _ _ (s6 _ _ (s5 _ _ (s4 _ _ (e3)))))))))))⟩ (.cons ⟨t4, rfl, sl _ _ (s13 _ _ (s12 _ _ (s11 _ _ (s10 _ _ (s9 _ _ (s8 _ _ (s7 _ _ (s6 _ _ (s5 _ _ (e4))))))))))⟩ (.cons ⟨t5, rfl, sl _ _ (s13 _ _ (s12 _ _ (s11 _ _ (s10 _ _ (s9 _ _ (s8 _ _ (s7 _ _ (s6 _ _ (e5)))))))))⟩ (.cons ⟨t6, rfl, sl _ _ (s13 _ _ (s12 _ _ (s11 _ _ (s10 _ _ (s9 _ _ (s8 _ _ (s7 _ _ (e6))))))))⟩ (.cons ⟨t7, rfl, sl _ _ (s13 _ _ (s12 _ _ (s11 _ _ (s10 _ _ (s9 _ _ (s8 _ _ (e7)))))))⟩ (.cons ⟨t8, rfl, sl _ _ (s13 _ _ (s12 _ _ (s11 _ _ (s10 _ _ (s9 _ _ (e8))))))⟩ (.cons ⟨t9, rfl, sl _ _ (s13 _ _ (s12 _ _ (s11 _ _ (s10 _ _ (e9)))))⟩ (.cons ⟨t10, rfl, sl _ _ (s13 _ _ (s12 _ _ (s11 _ _ (e10))))⟩ (.cons ⟨t11, rfl, sl _ _ (s13 _ _ (s12 _ _ (e11)))⟩ (.cons ⟨t12, rfl, sl _ _ (s13 _ _ (e12))⟩ (.cons ⟨t13, rfl, sl _ _ (e13)⟩ .nil)))))))))))))
    generalize ([V.ref t1, V.ref t2, V.ref t3, V.ref t4, V.ref t5, V.ref t6, V.ref t7, V.ref t8, V.ref t9, V.ref t10, V.ref t11, V.ref t12, V.ref t13] : List V) = xs at el pr
    walk_at "rd"
    clear e1 e2 e3 e4 e5 e6 e7 e8 e9 e10 e11 e12 e13
    refine ⟨⟨_, SqL.of el⟩, fun D hD => lc_list (K := K) (a := l) (xs := xs) (fun i H2 => Same H' H2 ∧ H2 D = some (.lst (((kRows_NoInverse.take i).filter (·.2)).map fun z => V.str z.1))) ⟨same_new hD, upd_same⟩ (fun i H2 _ ⟨e, _⟩ => SqL.of (e _ _ el)) ?_ ?_⟩
    · rintro i y H2 hi ⟨e3, e4⟩
      obtain ⟨wb, hwb, t, rfl, ht⟩ := pairedAt pr hi
      obtain ⟨wd, b⟩ := wb
      refine ⟨rfl, ?_⟩
      have ht2 := e3 _ _ ht
      have htk := take_one hwb
      refine ⟨_, rfl, t, _, 1, .bl b, rfl, rfl, SqT.of ht2, rfl, ?_⟩
      have hlen : ((((kRows_NoInverse.take i).filter (·.2)).map fun z => V.str z.1)).length ≤ 13 := by
        rw [List.length_map]
        exact Nat.le_trans (List.length_filter_le _ _) (by rw [List.length_take]; exact Nat.min_le_right _ _)
      cases b with
      | true =>
        refine ⟨true, rfl, ?_⟩
        walk_at "rd"
        refine ⟨t, _, 0, .str wd, rfl, rfl, SqT.of ht2, rfl, _, e4, sz_lt (Nat.lt_of_le_of_lt hlen (by decide)), e3.mut hD, ?_⟩
        rw [htk, List.filter_append, List.map_append]
        exact upd_same
      | false =>
        refine ⟨false, rfl, e3, ?_⟩
        rw [htk, List.filter_append, List.map_append]
        rw [e4]
        show _ = some (HO.lst (_ ++ []))
        rw [List.append_nil]
    · rintro H2 ⟨e3, e4⟩
      have hl13 : xs.length = 13 := pr.length
      rw [hl13] at e4
      exact q D H2 (sd.trans e3) e4
omit T in
theorem xd_word_NoInverse (v : V) : (excD ["value"] "NoInverse" [v]).lookup ("word" : Str) = some (.str "noinverse") := by
  first | rfl | decide +kernel
omit T in
theorem xd_value_NoInverse (v : V) : (excD ["value"] "NoInverse" [v]).lookup ("value" : Str) = some v := by
  first | rfl | decide +kernel
theorem ok_clean_NoInverse {f : Addr} {fd : FuncData} (F : Fun K "_law_clean" "_law_clean" s_clean f fd) {f_same : Addr} {fd_same : FuncData} (D_same : Def K mg "_law_same" s_same p_same f_same fd_same) (E_same : FnE P w K mg base 1 f_same fd_same p_same spSameE) {f_kinds : Addr} {fd_kinds : FuncData} (D_kinds : Def K mg "_law_kinds" s_kinds p_kinds f_kinds fd_kinds) (E_kinds : FnE P w K mg base 2 f_kinds fd_kinds p_kinds (spKinds C_NoInverse "NoInverse" "noinverse")) : FnE P w K mg base 3 f fd p_clean (spClean C_NoInverse "NoInverse" "noinverse") := by
  refine F.okE sc_clean (fun p vs H Q E h => ?_) (fun cdv A outer s H vs Q E p hot hr h => ?_)
  · obtain ⟨d, v, rfl, _⟩ := h
    rfl
  · obtain ⟨d, v, rfl, ⟨z, hd⟩, q⟩ := h
    have hp : p ∈ [p] := List.mem_singleton.mpr rfl
    have kC := T.lf_NoInverse.kind
    have no_word := kC.nw
    refine ⟨_, (pss_one (ps_ret (by exact (pe_and (pe_callB (call_isP hp kC z) (by rfl) T.b_isinstance (by first | exact PySem.boot_isinstance | decide +kernel) (pa_cons (pv 0) (pa_cons (pe_bltn (v := .ty "ValueError") (by rfl) T.b_ValueError (by first | exact PySem.boot_ValueError | decide +kernel) rfl) pa_nil))) (pe_and (pe_callE E_same (hr.mono (by decide)) hot hp rfl D_same.g D_same.fn.kp D_same.b (pa_cons (pe_xp hp kC z no_word (pv 0)) (pa_cons (pv 2) pa_nil))) (pe_one (pe_cmpR (op_eqV (hu64 hr)) (pe_callE E_kinds (hr.mono (by decide)) hot hp rfl D_kinds.g D_kinds.fn.kp D_kinds.b (pa_cons (pv 0) pa_nil)) (pe_lst (pa_cons (pv 1) (pa_cons (pv 2) pa_nil))) (nomark _)))))))), ?_⟩
    walk_at "rd"
    refine ⟨_, _, true, _, rfl, fun _ h => h, T.k_NoInverse_ValueError, hd, ?_⟩
    walk_at "rd"
    refine ⟨rfl, _, _, hd, xd_word_NoInverse v, ?_⟩
    walk_at "rd"
    refine ⟨d, v, rfl, ⟨z, hd⟩, fun l H' s1 hl => ?_⟩
    walk_at "rd"
    walk_at "nw"
    intro u hu
    refine ⟨2, by decide, .inl ⟨_, _, _, _, rfl, rfl, SqL.of (same_new hu _ _ hl), SqL.of upd_same, .cons (.inl ⟨rfl, rfl⟩) (.cons (.inl ⟨rfl, rfl⟩) .nil)⟩, ?_⟩
    exact q _ (s1.trans (same_new hu))
theorem ok_refusal_BadPrime {f : Addr} {fd : FuncData} (F : Fun K "_law_refusal" "_law_refusal" s_refusal f fd) {f_clean : Addr} {fd_clean : FuncData} (D_clean : Def K mg "_law_clean" s_clean p_clean f_clean fd_clean) (E_clean : FnE P w K mg base 3 f_clean fd_clean p_clean (spClean C_BadPrime "BadPrime" "badprime")) : FnE P w K mg base 4 f fd p_refusal (spRefusal C_BadPrime "BadPrime" "badprime") := by
  refine F.okE sc_refusal (fun p vs H Q E h => ?_) (fun cdv A outer s H vs Q E p hot hr h => ?_)
  · obtain ⟨d, v, rfl, _⟩ := h
    rfl
  · obtain ⟨d, v, rfl, ⟨z, hd⟩, q⟩ := h
    have hp : p ∈ [p] := List.mem_singleton.mpr rfl
    have kC := T.lf_BadPrime.kind
    have no_value := (T.lf_BadPrime.nf "value" List.mem_cons_self).1
    refine ⟨_, (pss_cons (ps_if (PW.pt (pw_and (pt_val (pe_callB (call_isP hp kC z) (by rfl) T.b_isinstance (by first | exact PySem.boot_isinstance | decide +kernel) (pa_cons (pv 0) (pa_cons (pe_glob (v := .ref C_BadPrime) rfl T.g_BadPrime rfl) pa_nil)))) (pw_and1 (pt_val (pe_callE E_clean (hr.mono (by decide)) hot hp rfl D_clean.g D_clean.fn.kp D_clean.b (pa_cons (pv 0) (pa_cons pe_str (pa_cons pe_str pa_nil)))))))) (pss_one (ps_ret (by exact (pe_tup (pa_cons pe_str (pa_cons (pe_xp hp kC z no_value (pv 0)) pa_nil)))))) pss_nil)
      (pss_cons (ps_if (PW.pt (pw_and (pt_val (pe_callB (call_isP hp kC z) (by rfl) T.b_isinstance (by first | exact PySem.boot_isinstance | decide +kernel) (pa_cons (pv 0) (pa_cons (pe_glob (v := .ref C_NoInverse) rfl T.g_NoInverse rfl) pa_nil)))) (pw_and1 (pt_val (pe_callE E_clean (hr.mono (by decide)) hot hp rfl D_clean.g D_clean.fn.kp D_clean.b (pa_cons (pv 0) (pa_cons pe_str (pa_cons pe_str pa_nil)))))))) (pss_one (ps_ret (by exact (pe_tup (pa_cons pe_str (pa_cons (pe_xp hp kC z no_value (pv 0)) pa_nil)))))) pss_nil)
      (pss_one (ps_ret (by exact (pe_tup (pa_cons pe_str pa_nil))))))), ?_⟩
    walk_at "rd"
    refine ⟨_, _, true, _, rfl, fun _ h => h, T.k_BadPrime_BadPrime, hd, ?_⟩
    walk_at "rd"
    refine ⟨d, v, rfl, ⟨z, hd⟩, fun H' s1 => ?_⟩
    walk_at "rd"
    refine ⟨rfl, _, _, s1 _ _ hd, xd_value_BadPrime v, ?_⟩
    walk_at "rd"
    walk_at "nw"
    intro t ht
    exact q t _ (s1.trans (same_new ht)) upd_same
theorem ok_refusal_NoInverse {f : Addr} {fd : FuncData} (F : Fun K "_law_refusal" "_law_refusal" s_refusal f fd) {f_clean : Addr} {fd_clean : FuncData} (D_clean : Def K mg "_law_clean" s_clean p_clean f_clean fd_clean) (E_clean : FnE P w K mg base 3 f_clean fd_clean p_clean (spClean C_NoInverse "NoInverse" "noinverse")) : FnE P w K mg base 4 f fd p_refusal (spRefusal C_NoInverse "NoInverse" "noinverse") := by
  refine F.okE sc_refusal (fun p vs H Q E h => ?_) (fun cdv A outer s H vs Q E p hot hr h => ?_)
  · obtain ⟨d, v, rfl, _⟩ := h
    rfl
  · obtain ⟨d, v, rfl, ⟨z, hd⟩, q⟩ := h
    have hp : p ∈ [p] := List.mem_singleton.mpr rfl
    have kC := T.lf_NoInverse.kind
    have no_value := (T.lf_NoInverse.nf "value" List.mem_cons_self).1
    refine ⟨_, (pss_cons (ps_if (PW.pt (pw_and (pt_val (pe_callB (call_isP hp kC z) (by rfl) T.b_isinstance (by first | exact PySem.boot_isinstance | decide +kernel) (pa_cons (pv 0) (pa_cons (pe_glob (v := .ref C_BadPrime) rfl T.g_BadPrime rfl) pa_nil)))) (pw_and1 (pt_val (pe_callE E_clean (hr.mono (by decide)) hot hp rfl D_clean.g D_clean.fn.kp D_clean.b (pa_cons (pv 0) (pa_cons pe_str (pa_cons pe_str pa_nil)))))))) (pss_one (ps_ret (by exact (pe_tup (pa_cons pe_str (pa_cons (pe_xp hp kC z no_value (pv 0)) pa_nil)))))) pss_nil)
      (pss_cons (ps_if (PW.pt (pw_and (pt_val (pe_callB (call_isP hp kC z) (by rfl) T.b_isinstance (by first | exact PySem.boot_isinstance | decide +kernel) (pa_cons (pv 0) (pa_cons (pe_glob (v := .ref C_NoInverse) rfl T.g_NoInverse rfl) pa_nil)))) (pw_and1 (pt_val (pe_callE E_clean (hr.mono (by decide)) hot hp rfl D_clean.g D_clean.fn.kp D_clean.b (pa_cons (pv 0) (pa_cons pe_str (pa_cons pe_str pa_nil)))))))) (pss_one (ps_ret (by exact (pe_tup (pa_cons pe_str (pa_cons (pe_xp hp kC z no_value (pv 0)) pa_nil)))))) pss_nil)
      (pss_one (ps_ret (by exact (pe_tup (pa_cons pe_str pa_nil))))))), ?_⟩
    walk_at "rd"
    refine ⟨_, _, false, _, rfl, fun _ h => h, T.k_NoInverse_BadPrime, hd, ?_⟩
    walk_at "rd"
    refine ⟨_, _, true, _, rfl, fun _ h => h, T.k_NoInverse_NoInverse, hd, ?_⟩
    walk_at "rd"
    refine ⟨d, v, rfl, ⟨z, hd⟩, fun H' s1 => ?_⟩
    walk_at "rd"
    refine ⟨rfl, _, _, s1 _ _ hd, xd_value_NoInverse v, ?_⟩
    walk_at "rd"
    walk_at "nw"
    intro t ht
    exact q t _ (s1.trans (same_new ht)) upd_same
end
end K02

set_option Elab.async false
set_option linter.all false
set_option maxRecDepth 100000
set_option maxHeartbeats 4000000
set_option pp.deepTerms false
set_option pp.deepTerms.threshold 12
namespace K02
open PySem PySem.Spec PyProof.Rows L2
local macro_rules | `(tactic| walk_at "ty") => `(tactic| first | exact .base (.int _) | exact .base (.bl _) | exact .base (.str _) | exact .base .non | assumption | exact .base (.tup (by assumption)) | exact .base (.lst (by assumption)))
local macro_rules | `(tactic| walk_at "cm") => `(tactic| first | exact cm_r (by decide) (by decide) | exact cm_l (by decide) (by decide) | exact cm_fmod (by decide) (by decide) | exact cm_r (by omega) (by omega) | exact cm_l (by omega) (by omega))
local macro_rules | `(tactic| walk_at "dv") => `(tactic| first | exact ⟨by decide, by decide⟩ | exact ⟨by omega, by omega⟩)
local macro_rules | `(tactic| walk_at "r1") => `(tactic| first
  | refine ⟨_, rfl, ?_⟩ | refine ⟨_, _, rfl, rfl, ?_⟩ | refine Or.inl ⟨_, rfl, ?_⟩ | refine Or.inr ⟨_, rfl, ?_⟩
  | refine And.intro (a := CMul _ _) (by walk_at "cm") ?_ | refine And.intro (a := CDivN _ _) (by walk_at "dv") ?_ | refine And.intro (a := _ ≠ (0 : Int)) (by first | decide | omega) ?_ | refine And.intro (a := scal _ _ = true) rfl ?_ | refine ⟨_, _, _, _, rfl, rfl, SqL.of (by first | exact upd_same | assumption), rfl, ?_⟩ | refine ⟨_, _, _, _, rfl, rfl, (by first | exact upd_same | assumption), rfl, ?_⟩ | refine ⟨_, _, rfl, ?_⟩ | refine And.intro (a := (_ : V) = V.non) rfl ?_ | refine And.intro (a := CPow _ _) ⟨by decide, by decide, by decide⟩ ?_ | refine And.intro (a := (_ : List V) = []) rfl ?_ | refine ⟨_, _, rfl, SqT.of (by first | exact upd_same | assumption), rfl, ?_⟩
  | refine ⟨_, _, _, _, true, rfl, ClsV.ty _, (by walk_at "ty"), kit_ty (by decide +kernel), ?_⟩ | refine ⟨_, _, _, _, false, rfl, ClsV.ty _, (by walk_at "ty"), kit_ty (by decide +kernel), ?_⟩)
local macro_rules | `(tactic| walk_at "rd") => `(tactic| repeat walk_at "r1")
local macro_rules | `(tactic| walk_at "yes") => `(tactic| (change (if true = true then _ else _); rw [if_pos rfl]))
local macro_rules | `(tactic| walk_at "no") => `(tactic| (change (if false = true then _ else _); rw [if_neg Bool.false_ne_true]))
local macro_rules | `(tactic| walk_at "nw") => `(tactic| refine And.intro (a := _ ≤ sizeLine) (sz_le (Nat.le_of_ble_eq_true rfl)) ?_)

section
variable {P : Program} {w : World} {K : PySem.W.Frag} {mg : Str → Option Value} {base : Heap}
variable {C_VaultError C_TooMany C_NumberError C_BadPrime C_NoInverse C_NoNumber C_BadTable C_BadCells C_TextError C_ShapeError C_PlanError C_CourseError C_KnowError C_PaperError fV fI_BadPrime fI_NoInverse : Addr}
variable (T : Txt P K mg C_VaultError C_TooMany C_NumberError C_BadPrime C_NoInverse C_NoNumber C_BadTable C_BadCells C_TextError C_ShapeError C_PlanError C_CourseError C_KnowError C_PaperError fV fI_BadPrime fI_NoInverse)
include T
open L2H
def spRefZ (C : Addr) (nm wd : Str) (a : Addr) (cls : Value) (d : Option Addr) : Sp := fun vs H Q _ => ∃ (d' : Addr) (v : V), vs = [.ref a] ∧ (cls = .ref C ∧ d = some d') ∧ H d' = some (.xd (excD ["value"] nm [v])) ∧ ∀ t H', Same H H' → H' t = some (.tup [.str wd, v]) → Q (.ref t) H'
omit T in
theorem refZ {C a : Addr} {nm wd : Str} {cls : Value} {d : Option Addr} {oe : Obj} (hz : L2N.Zn cls d oe) (hf : ∃ vs : Array Value, oe.data = .fields vs) : ∀ vs H Q E, spRefZ C nm wd a cls d vs H Q E → spRefusal C nm wd (a, oe) vs H Q E := by
  rintro vs H Q E ⟨d', v, rfl, ⟨rfl, rfl⟩, hd, q⟩
  exact ⟨d', v, rfl, ⟨⟨hz.zc, hf⟩, hd⟩, q⟩
def spRef2 (C D : Addr) : Addr × Obj → Sp := fun p vs H Q E => spRefusal C "BadPrime" "badprime" p vs H Q E ∨ spRefusal D "NoInverse" "noinverse" p vs H Q E
def spRefZ2 (C D : Addr) (a : Addr) (cls : Value) (d : Option Addr) : Sp := fun vs H Q E => spRefZ C "BadPrime" "badprime" a cls d vs H Q E ∨ spRefZ D "NoInverse" "noinverse" a cls d vs H Q E
omit T in
theorem refZ2 {C D a : Addr} {cls : Value} {d : Option Addr} {oe : Obj} (hz : L2N.Zn cls d oe) (hf : ∃ vs : Array Value, oe.data = .fields vs) : ∀ vs H Q E, spRefZ2 C D a cls d vs H Q E → spRef2 C D (a, oe) vs H Q E :=
  fun vs H Q E h => h.elim (fun z => .inl (refZ hz hf vs H Q E z)) fun z => .inr (refZ hz hf vs H Q E z)
def spNeeded : Sp := fun vs H Q _ => ∃ v : V, vs = [v] ∧ ((∃ i, (v = .int i ∧ i ∈ M02.primes) ∧ ∀ t H', Same H H' → H' t = some (.tup [.bl true, .int i]) → Q (.ref t) H') ∨
   (NoV H v ∧ ∀ t u H', Same H H' → H' t = some (.tup [.bl false, .ref u]) → H' u = some (.tup [.str "badprime", v]) → Q (.ref t) H'))
theorem ok_needed {f : Addr} {fd : FuncData} (F : Fun K "_law_needed" "_law_needed" s_needed f fd) {f_need_prime : Addr} {fd_need_prime : FuncData} (D_need_prime : Def K mg "need_prime" s_need_prime p_need_prime f_need_prime fd_need_prime) (G_need_prime : FnOk P w K mg base (L2N.CX P w) 3 f_need_prime fd_need_prime p_need_prime (spNeedP C_BadPrime)) {f_refusal : Addr} {fd_refusal : FuncData} (D_refusal : Def K mg "_law_refusal" s_refusal p_refusal f_refusal fd_refusal) (E_refusal : FnE P w K mg base 4 f_refusal fd_refusal p_refusal (spRefusal C_BadPrime "BadPrime" "badprime")) : FnOk P w K mg base CX0 9 f fd p_needed spNeeded := by
  refine F.ok sc_needed (fun vs H Q E h => ?_) (fun cdv A outer s H vs Q E hr h => ?_)
  · obtain ⟨v, rfl, q⟩ := h
    rfl
  · obtain ⟨v, rfl, q⟩ := h
    refine ⟨_, (pss_one (L2N.ps_try_as (i := 1) (tb := _) (ts := _) (Wout := fun _ _ _ _ => False) rfl rfl sc_needed.nd rfl rfl ⟨rfl, by decide, Or.inl T.g_VaultError⟩ takesN0
  (fun W pn xe tk _ => (pss_one (ps_ret (by exact (pe_tup (pa_cons pe_bl (pa_cons (pe_callS G_need_prime (hr.mono (by decide)) rfl D_need_prime.g D_need_prime.fn.kp D_need_prime.b (fun σ => L2N.passAt tk σ) (pa_cons (pv 0) pa_nil)) pa_nil)))))))
  (fun a oe cls d pn hz hf => (pss_one (ps_ret (by exact (pe_tup (pa_cons pe_bl (pa_cons (pe_callZ E_refusal (refZ hz hf) (roomH_as (roomH_of (hr.mono (by decide))) rfl rfl) (hot_of hz hf) (List.mem_cons_self (a := (a, oe))) rfl D_refusal.g D_refusal.fn.kp D_refusal.b (pa_cons (pv 1) pa_nil)) pa_nil))))))))), ?_⟩
    walk_at "rd"
    rcases q with ⟨i, ⟨rfl, hi⟩, q⟩ | ⟨hv, q⟩
    · refine .inl ⟨i, rfl, hi, ?_⟩
      walk_at "rd"
      walk_at "nw"
      intro t ht
      exact q t _ (same_new ht) upd_same
    · refine .inr ⟨hv, fun d hd => ⟨true, T.ix_BadPrime, fun _ e he => ?_, fun z => nomatch z⟩⟩
      walk_at "rd"
      refine ⟨d, v, rfl, ⟨rfl, rfl⟩, upd_same, fun u H' s1 hu => ?_⟩
      walk_at "rd"
      walk_at "nw"
      intro t ht
      exact q t u _ (((same_new hd).trans s1).trans (same_new ht)) upd_same (same_new ht _ _ hu)
def spInverted : Sp := fun vs H Q _ => ∃ (v : V) (a : Int), vs = [v, .int a] ∧ ((∃ p : Nat, (v = .int p ∧ p ∈ M02.primesN) ∧ (a % (p : Int) ≠ 0 → ∀ c : Int, 1 ≤ c → c < p → c * a % (p : Int) = 1 → ∀ t H', Same H H' → H' t = some (.tup [.bl true, .int c]) → Q (.ref t) H') ∧
     (a % (p : Int) = 0 → ∀ t u H', Same H H' → H' t = some (.tup [.bl false, .ref u]) → H' u = some (.tup [.str "noinverse", .int a]) → Q (.ref t) H')) ∨
   (NoV H v ∧ ∀ t u H', Same H H' → H' t = some (.tup [.bl false, .ref u]) → H' u = some (.tup [.str "badprime", v]) → Q (.ref t) H'))
theorem ok_inverted {f : Addr} {fd : FuncData} (F : Fun K "_law_inverted" "_law_inverted" s_inverted f fd) {f_inverse : Addr} {fd_inverse : FuncData} (D_inverse : Def K mg "inverse" s_inverse p_inverse f_inverse fd_inverse) (G_inverse : FnOk P w K mg base (L2N.CX P w) 4 f_inverse fd_inverse p_inverse (spInv C_BadPrime C_NoInverse)) {f_refusal : Addr} {fd_refusal : FuncData} (D_refusal : Def K mg "_law_refusal" s_refusal p_refusal f_refusal fd_refusal) (E_refusal : FnE P w K mg base 4 f_refusal fd_refusal p_refusal (spRef2 C_BadPrime C_NoInverse)) : FnOk P w K mg base CX0 9 f fd p_inverted spInverted := by
  refine F.ok sc_inverted (fun vs H Q E h => ?_) (fun cdv A outer s H vs Q E hr h => ?_)
  · obtain ⟨v, a, rfl, q⟩ := h
    rfl
  · obtain ⟨v, a, rfl, q⟩ := h
    refine ⟨_, (pss_one (L2N.ps_try_as (i := 2) (tb := _) (ts := _) (Wout := fun _ _ _ _ => False) rfl rfl sc_inverted.nd rfl rfl ⟨rfl, by decide, Or.inl T.g_VaultError⟩ takesN0
  (fun W pn xe tk _ => (pss_one (ps_ret (by exact (pe_tup (pa_cons pe_bl (pa_cons (pe_callS G_inverse (hr.mono (by decide)) rfl D_inverse.g D_inverse.fn.kp D_inverse.b (fun σ => L2N.passAt tk σ) (pa_cons (pv 0) (pa_cons (pv 1) pa_nil))) pa_nil)))))))
  (fun a oe cls d pn hz hf => (pss_one (ps_ret (by exact (pe_tup (pa_cons pe_bl (pa_cons (pe_callZ E_refusal (refZ2 hz hf) (roomH_as (roomH_of (hr.mono (by decide))) rfl rfl) (hot_of hz hf) (List.mem_cons_self (a := (a, oe))) rfl D_refusal.g D_refusal.fn.kp D_refusal.b (pa_cons (pv 2) pa_nil)) pa_nil))))))))), ?_⟩
    walk_at "rd"
    rcases q with ⟨p, ⟨rfl, hp⟩, q1, q2⟩ | ⟨hv, q⟩
    · refine .inl ⟨p, rfl, hp, fun h0 c c1 c2 c3 => ?_, fun h0 d hd => ⟨true, T.ix_NoInverse, fun _ e he => ?_, fun z => nomatch z⟩⟩
      · walk_at "rd"
        walk_at "nw"
        intro t ht
        exact q1 h0 c c1 c2 c3 t _ (same_new ht) upd_same
      · walk_at "rd"
        refine .inr ⟨d, .int a, rfl, ⟨rfl, rfl⟩, upd_same, fun u H' s1 hu => ?_⟩
        walk_at "rd"
        walk_at "nw"
        intro t ht
        exact q2 h0 t u _ (((same_new hd).trans s1).trans (same_new ht)) upd_same (same_new ht _ _ hu)
    · refine .inr ⟨hv, fun d hd => ⟨true, T.ix_BadPrime, fun _ e he => ?_, fun z => nomatch z⟩⟩
      walk_at "rd"
      refine .inl ⟨d, v, rfl, ⟨rfl, rfl⟩, upd_same, fun u H' s1 hu => ?_⟩
      walk_at "rd"
      walk_at "nw"
      intro t ht
      exact q t u _ (((same_new hd).trans s1).trans (same_new ht)) upd_same (same_new ht _ _ hu)
def spInvR : Sp := fun vs H Q _ => ∃ (p a : Int), vs = [.int p, .int a] ∧ p ∈ M02.primes ∧ ∀ H', Same H H' → Q (.bl true) H'
theorem ok_inverseright {f : Addr} {fd : FuncData} (F : Fun K "_law_inverseright" "_law_inverseright" s_inverseright f fd) {f_inverted : Addr} {fd_inverted : FuncData} (D_inverted : Def K mg "_law_inverted" s_inverted p_inverted f_inverted fd_inverted) (G_inverted : FnOk P w K mg base CX0 9 f_inverted fd_inverted p_inverted spInverted) {f_same : Addr} {fd_same : FuncData} (D_same : Def K mg "_law_same" s_same p_same f_same fd_same) (G_same : FnOk P w K mg base CX0 6 f_same fd_same p_same (spSame 6)) {f_isint : Addr} {fd_isint : FuncData} (D_isint : Def K mg "_law_isint" s_isint p_isint f_isint fd_isint) (G_isint : FnOk P w K mg base CX0 1 f_isint fd_isint p_isint spWhole) : FnOk P w K mg base CX0 10 f fd p_inverseright spInvR := by
  refine F.ok sc_inverseright (fun vs H Q E h => ?_) (fun cdv A outer s H vs Q E hr h => ?_)
  · obtain ⟨v, a, rfl, q⟩ := h
    rfl
  · obtain ⟨p0, a, rfl, hp, q⟩ := h
    obtain ⟨p, hpn, rfl⟩ := M02.mem_primes.mp hp
    clear hp
    have hp := hpn
    have g := M02.primesN_hi p hp
    have em : a.fmod (p : Int) = a % (p : Int) := Int.fmod_eq_emod_of_nonneg _ (by omega)
    refine ⟨_, (pss_cons (ps_asg (by exact (pe_call G_inverted (hr.mono (by decide)) rfl D_inverted.g D_inverted.fn.kp D_inverted.b .nil pass0 (pa_cons (pv 0) (pa_cons (pv 1) pa_nil)))) (pg_tup rfl (pgs_cons (pg_name (i := 2) sc_inverseright.nd rfl (Or.inl rfl)) (pgs_cons (pg_name (i := 3) sc_inverseright.nd rfl (Or.inl rfl)) pgs_nil))))
      (pss_cons (ps_if (pt_cmpR op_eq (pe_op op_modN (pe_callTy call_int1 (by rfl) T.b_int (by first | exact PySem.boot_int | decide +kernel) (pa_cons (pv 1) pa_nil)) (pv 0)) pe_int (nomark _)) (pss_one (ps_ret (by exact (pe_call G_same (hr.mono (by decide)) rfl D_same.g D_same.fn.kp D_same.b .nil pass0 (pa_cons (pe_tup (pa_cons (pv 2) (pa_cons (pv 3) pa_nil))) (pa_cons (pe_tup (pa_cons pe_bl (pa_cons (pe_tup (pa_cons pe_str (pa_cons (pv 1) pa_nil))) pa_nil))) pa_nil)))))) pss_nil)
      (pss_one (ps_ret (by exact (pe_and (pv 2) (pe_and (pe_call G_isint (hr.mono (by decide)) rfl D_isint.g D_isint.fn.kp D_isint.b .nil pass0 (pa_cons (pv 3) pa_nil)) (pe_and (pe_chain op_le op_lt pe_int (pv 3) (pv 0)) (pe_one (pe_cmpR op_eq (pe_op op_modN (pe_callTy call_int1 (by rfl) T.b_int (by first | exact PySem.boot_int | decide +kernel) (pa_cons (pe_op op_mul (pv 3) (pv 1)) pa_nil)) (pv 0)) pe_int (nomark _))))))))))), ?_⟩
    walk_at "rd"
    refine .inl ⟨p, ⟨rfl, hp⟩, fun h0 c c1 c2 c3 t H1 s1 ht => ?_, fun h0 t u H1 s1 ht hu => ?_⟩
    · walk_at "rd"
      refine ite2 (fun hc => ?_) (fun hc => ?_)
      · exact absurd (em.symm.trans (V.int.inj (of_decide_eq_true hc))) h0
      walk_at "rd"
      refine ite2 (fun hc => ?_) (fun hc => ?_)
      · walk_at "rd"
        refine ite2 (fun hc => ?_) (fun hc => ?_)
        · walk_at "rd"
          have em2 : (c * a).fmod (p : Int) = 1 := (Int.fmod_eq_emod_of_nonneg _ (by omega)).trans c3
          show Q (.bl (decide (V.int ((c * a).fmod (p : Int)) = V.int 1))) H1
          rw [decide_eq_true (congrArg V.int em2)]
          exact q H1 s1
        · have := of_ndec hc
          omega
      · have := of_ndec hc
        omega
    · walk_at "rd"
      refine ite2 (fun hc => ?_) (fun hc => ?_)
      · walk_at "rd"
        walk_at "nw"
        intro p1 hp1
        generalize hg1 : upd H1 p1 _ = H2
        have s2 : Same H1 H2 := by rw [← hg1]; exact same_new hp1
        have e2 : H2 p1 = some (.tup [.bl false, .ref u]) := by rw [← hg1]; exact upd_same
        clear hg1
        walk_at "rd"
        walk_at "nw"
        intro p2 hp2
        generalize hg2 : upd H2 p2 _ = H3
        have s3 : Same H2 H3 := by rw [← hg2]; exact same_new hp2
        have e3 : H3 p2 = some (.tup [.str "noinverse", .int a]) := by rw [← hg2]; exact upd_same
        clear hg2
        walk_at "rd"
        walk_at "nw"
        intro p3 hp3
        generalize hg3 : upd H3 p3 _ = H4
        have s4 : Same H3 H4 := by rw [← hg3]; exact same_new hp3
        have e4 : H4 p3 = some (.tup [.bl false, .ref p2]) := by rw [← hg3]; exact upd_same
        clear hg3
        walk_at "rd"
        have d1 : SameD H4 5 (.ref u) (.ref p2) := .tup (((s2.trans s3).trans s4) _ _ hu) (s4 _ _ e3) (Nat.le_of_ble_eq_true rfl) (.cons (.flat rfl) (.cons (.flat rfl) .nil))
        refine ⟨.tup ((s3.trans s4) _ _ e2) e4 (Nat.le_of_ble_eq_true rfl) (.cons (.flat rfl) (.cons d1 .nil)), ?_⟩
        exact q _ (((s1.trans s2).trans s3).trans s4)
      · exact absurd (congrArg V.int (em.trans h0)) (of_ndec hc)
omit T in
theorem same_but {st : Addr} {H H1 H2 : Hp} (s : Same H H1) (hst : H st = none) (b : But st H1 H2) : Same H H2 := fun c o e => b c o (ne_of_none e hst) (s c o e)
omit T in
theorem but_tup {st t : Addr} {H H' : Hp} {xs : List V} (S : Store H st) (b : But st H H') (e : H t = some (.tup xs)) : H' t = some (.tup xs) := by
  obtain ⟨cl, ns, a, b', c', d', e', g, h1, _⟩ := S.ex
  exact b _ _ (fun z => by rw [z, h1] at e; cases e) e
omit T in
theorem in_primes {z : Int} : inV (.int z) (M02.primes.map V.int) = true ↔ z ∈ M02.primes := by
  unfold inV
  rw [List.any_map, List.any_eq_true]
  constructor
  · rintro ⟨x, hx, e⟩
    have e : (x == z) = true := e
    rw [← beq_iff_eq.mp e]
    exact hx
  · intro h
    exact ⟨z, h, show (z == z) = true from beq_self_eq_true z⟩
def spPR : Sp := fun vs H Q _ => ∃ st : Addr, vs = [.ref st] ∧ Store H st ∧ ∀ H', Store H' st → But st H H' → Q (.bl true) H'
theorem ok_primesright {f : Addr} {fd : FuncData} (F : Fun K "_law_primesright" "_law_primesright" s_primesright f fd) {f_primes : Addr} {fd_primes : FuncData} (D_primes : Def K mg "_law_primes" s_primes p_primes f_primes fd_primes) (G_primes : FnOk P w K mg base CX0 1 f_primes fd_primes p_primes spPrimes) {f_needed : Addr} {fd_needed : FuncData} (D_needed : Def K mg "_law_needed" s_needed p_needed f_needed fd_needed) (G_needed : FnOk P w K mg base CX0 9 f_needed fd_needed p_needed spNeeded) {f_same : Addr} {fd_same : FuncData} (D_same : Def K mg "_law_same" s_same p_same f_same fd_same) (G_same : FnOk P w K mg base CX0 6 f_same fd_same p_same (spSame 6)) {f_noprime : Addr} {fd_noprime : FuncData} (D_noprime : Def K mg "_law_noprime" s_noprime p_noprime f_noprime fd_noprime) (G_noprime : FnOk P w K mg base CX0 5 f_noprime fd_noprime p_noprime spNoP) {f_prime : Addr} {fd_prime : FuncData} (D_prime : Def K mg "_law_prime" s_prime p_prime f_prime fd_prime) (G_prime : FnOk P w K mg base CX0 4 f_prime fd_prime p_prime spPrime) : FnOk P w K mg base CX0 10 f fd p_primesright spPR := by
  refine F.ok sc_primesright (fun vs H Q E h => ?_) (fun cdv A outer s H vs Q E hr h => ?_)
  · obtain ⟨st, rfl, _⟩ := h
    rfl
  · obtain ⟨st, rfl, S, q⟩ := h
    refine ⟨_, (pss_mid (ps_for PassesOwn.never rfl (pi_list (pe_lc (own := [("k", 2)]) (g := gName 2) rfl sc_primesright.nd (pi_range2 (by rfl) T.b_range (pa_cons (pe_op op_sub pe_int pe_int) (pa_cons pe_int pa_nil))) (blkOk_by (own := [("k", 2)]) (N := N_primesright) (sc := defScope s_primesright) (by decide +kernel)) (fun _ _ _ _ _ => pg_name (i := 2) sc_primesright.nd rfl (Or.inl rfl)) (fun _ _ _ _ _ => pts_nil) (fun _ _ _ _ _ => (pv 2)))) (pg_name (i := 1) sc_primesright.nd rfl (Or.inl rfl)) (pss_cons (ps_set (i := 3) sc_primesright.nd rfl (Or.inl rfl) (by exact (pe_tup (pa_cons pe_bl (pa_cons (pe_tup (pa_cons pe_str (pa_cons (pv 1) pa_nil))) pa_nil)))))
          (pss_mid (ps_if (pt_cmpR op_in_seq (pv 1) (pe_call0 G_primes (hr.mono (by decide)) rfl D_primes.g D_primes.fn.kp D_primes.b .nil pass0) (by with_unfolding_all rfl)) (pss_one (ps_set (i := 3) sc_primesright.nd rfl (Or.inl rfl) (by exact (pe_tup (pa_cons pe_bl (pa_cons (pv 1) pa_nil)))))) pss_nil)
          (pss_one (ps_if (pt_not (pt_val (pe_call G_same (hr.mono (by decide)) rfl D_same.g D_same.fn.kp D_same.b .nil pass0 (pa_cons (pe_call G_needed (hr.mono (by decide)) rfl D_needed.g D_needed.fn.kp D_needed.b .nil pass0 (pa_cons (pv 1) pa_nil)) (pa_cons (pv 3) pa_nil))))) (pss_one (ps_ret (by exact pe_bl))) pss_nil)))))
      (pss_mid (ps_for PassesOwn.never rfl (pi_range1 (by rfl) T.b_range (pa_cons pe_int pa_nil)) (pg_name (i := 2) sc_primesright.nd rfl (Or.inl rfl)) (pss_cons (ps_set (i := 4) sc_primesright.nd rfl (Or.inl rfl) (by exact (pe_call G_noprime (hr.mono (by decide)) rfl D_noprime.g D_noprime.fn.kp D_noprime.b .nil pass0 (pa_cons (pv 0) pa_nil))))
          (pss_cons (ps_set (i := 5) sc_primesright.nd rfl (Or.inl rfl) (by exact (pe_call G_prime (hr.mono (by decide)) rfl D_prime.g D_prime.fn.kp D_prime.b .nil pass0 (pa_cons (pv 0) pa_nil))))
          (pss_one (ps_if (PW.pt (pw_or (pt_not (pt_val (pe_call G_same (hr.mono (by decide)) rfl D_same.g D_same.fn.kp D_same.b .nil pass0 (pa_cons (pe_call G_needed (hr.mono (by decide)) rfl D_needed.g D_needed.fn.kp D_needed.b .nil pass0 (pa_cons (pv 4) pa_nil)) (pa_cons (pe_tup (pa_cons pe_bl (pa_cons (pe_tup (pa_cons pe_str (pa_cons (pv 4) pa_nil))) pa_nil))) pa_nil))))) (pw_or1 (pt_not (pt_val (pe_call G_same (hr.mono (by decide)) rfl D_same.g D_same.fn.kp D_same.b .nil pass0 (pa_cons (pe_call G_needed (hr.mono (by decide)) rfl D_needed.g D_needed.fn.kp D_needed.b .nil pass0 (pa_cons (pv 5) pa_nil)) (pa_cons (pe_tup (pa_cons pe_bl (pa_cons (pv 5) pa_nil))) pa_nil)))))))) (pss_one (ps_ret (by exact pe_bl))) pss_nil)))))
      (pss_one (ps_ret (by exact pe_bl))))), ?_⟩
    refine ⟨fun σ H' => ∃ (t d : Option V), σ = [some (.ref st), t, none, d, none, none] ∧ Same H H', ?_, ?_⟩
    · walk_at "rd"
      refine ⟨⟨by decide, by decide, by decide, by decide⟩, ?_⟩
      refine fun D hD => lc_range (lo := 0 - 3) (n := 114) (fun i H' => Same H H' ∧ ∃ xs : List V, H' D = some (.lst xs) ∧ xs.length = i ∧ ∀ x ∈ xs, ∃ z : Int, x = .int z) ⟨same_new hD, [], upd_same, rfl, fun x hx => nomatch hx⟩ ?_ ?_
      · rintro i H' hi ⟨e, xs, hx, hl, hall⟩
        refine ⟨rfl, ?_⟩
        refine ⟨_, rfl, xs, hx, sz_lt (by omega), e.mut hD, xs ++ [.int (0 - 3 + i)], upd_same, by rw [List.length_append, hl]; rfl, fun x hx => ?_⟩
        rw [List.mem_append] at hx
        rcases hx with hx | hx
        · exact hall x hx
        · exact ⟨_, List.mem_singleton.mp hx⟩
      · rintro HL ⟨eL, xs, hx, hl, hall⟩
        refine ⟨D, rfl, ⟨_, SqL.of hx⟩, for_list (K := K) (a := D) (xs := xs) (fun i σ H' => (∃ (t d : Option V), σ = [some (.ref st), t, none, d, none, none]) ∧ Same HL H') ⟨⟨_, _, rfl⟩, fun _ _ e => e⟩ (fun i σ H' _ ⟨_, e⟩ => SqL.of (e _ _ hx)) ?_ ?_⟩
        · rintro i y σ H1 hi ⟨⟨t, d, rfl⟩, s1⟩
          obtain ⟨z, rfl⟩ := hall y (List.mem_of_getElem? hi)
          walk_at "rd"
          walk_at "nw"
          intro q1 h_q1
          generalize hg_q1 : upd H1 q1 _ = H2
          have s_q1 : Same H1 H2 := by rw [← hg_q1]; exact same_new h_q1
          have e_q1 : H2 q1 = some (.tup [.str "badprime", .int z]) := by rw [← hg_q1]; exact upd_same
          clear hg_q1
          walk_at "rd"
          walk_at "nw"
          intro q2 h_q2
          generalize hg_q2 : upd H2 q2 _ = H3
          have s_q2 : Same H2 H3 := by rw [← hg_q2]; exact same_new h_q2
          have e_q2 : H3 q2 = some (.tup [.bl false, .ref q1]) := by rw [← hg_q2]; exact upd_same
          clear hg_q2

          walk_at "rd"
          refine ⟨fun σ H' => ∃ due : Addr, σ = [some (.ref st), some (.int z), none, some (.ref due), none, none] ∧ Same H1 H' ∧ ((z ∈ M02.primes ∧ H' due = some (.tup [.bl true, .int z])) ∨ (z ∉ M02.primes ∧ ∃ q, H' due = some (.tup [.bl false, .ref q]) ∧ H' q = some (.tup [.str "badprime", .int z]))), ?_, ?_⟩
          · walk_at "rd"
            intro l hl2
            walk_at "rd"
            refine ⟨l, _, rfl, .inl (SqL.of upd_same), rfl, by decide, ?_⟩
            walk_at "rd"
            have hl3 : Same H1 (upd H3 l (.lst (M02.primes.map V.int))) := (s_q1.trans s_q2).trans (same_new hl2)
            refine ite2 (fun hc => ?_) (fun hc => ?_)
            · walk_at "rd"
              walk_at "nw"
              intro q3 h3
              exact ⟨q3, rfl, hl3.trans (same_new h3), .inl ⟨in_primes.mp hc, upd_same⟩⟩
            · exact ⟨q2, rfl, hl3, .inr ⟨fun z => hc (in_primes.mpr z), q1, same_new hl2 _ _ e_q2, same_new hl2 _ _ (s_q2 _ _ e_q1)⟩⟩
          rintro σ H4 ⟨due, rfl, s4, hdue⟩
          walk_at "rd"
          rcases hdue with ⟨hz, e4⟩ | ⟨hz, q, e4, f4⟩
          · refine .inl ⟨z, ⟨rfl, hz⟩, fun t1 H5 s5 e5 => ?_⟩
            walk_at "rd"
            refine ⟨.tup e5 (s5 _ _ e4) (Nat.le_of_ble_eq_true rfl) (.cons (.flat rfl) (.cons (.flat rfl) .nil)), ?_⟩
            walk_at "rd"
            exact ⟨⟨_, _, rfl⟩, (s1.trans s4).trans s5⟩
          · refine .inr ⟨.inl ⟨z, rfl, hz⟩, fun t1 u1 H5 s5 e5 f5 => ?_⟩
            walk_at "rd"
            have d1 : SameD H5 5 (.ref u1) (.ref q) := .tup f5 (s5 _ _ f4) (Nat.le_of_ble_eq_true rfl) (.cons (.flat rfl) (.cons (.flat rfl) .nil))
            refine ⟨.tup e5 (s5 _ _ e4) (Nat.le_of_ble_eq_true rfl) (.cons (.flat rfl) (.cons d1 .nil)), ?_⟩
            walk_at "rd"
            exact ⟨⟨_, _, rfl⟩, (s1.trans s4).trans s5⟩
        · rintro σ H1 ⟨⟨t, d, rfl⟩, s1⟩
          exact ⟨_, _, rfl, eL.trans s1⟩
    rintro σ H1 ⟨t, d, rfl, s1⟩
    refine ⟨fun σ H' => (∃ (k od p : Option V), σ = [some (.ref st), t, k, d, od, p]) ∧ Store H' st ∧ But st H H', ?_, ?_⟩
    · walk_at "rd"
      refine ⟨by decide, by decide, ?_⟩
      refine for_range (fun i σ H' => (∃ (k od p : Option V), σ = [some (.ref st), t, k, d, od, p]) ∧ Store H' st ∧ But st H H') ⟨⟨_, _, _, rfl⟩, S.keep s1, .of s1⟩ ?_ ?_
      · rintro i σ H2 hi ⟨⟨k, od, p, rfl⟩, S2, b2⟩
        walk_at "rd"
        refine ⟨S2, fun v H3 hv S3 b3 => ?_⟩
        walk_at "rd"
        refine ⟨S3, fun p H4 hp S4 b4 => ?_⟩
        have hv4 := hv.keep b4
        walk_at "rd"
        refine .inr ⟨hv4.no, fun t1 u1 H5 s5 e5 f5 => ?_⟩
        walk_at "rd"
        walk_at "nw"
        intro q1 h_q1
        generalize hg_q1 : upd H5 q1 _ = H6
        have s_q1 : Same H5 H6 := by rw [← hg_q1]; exact same_new h_q1
        have e_q1 : H6 q1 = some (.tup [.str "badprime", v]) := by rw [← hg_q1]; exact upd_same
        clear hg_q1
        walk_at "rd"
        walk_at "nw"
        intro q2 h_q2
        generalize hg_q2 : upd H6 q2 _ = H7
        have s_q2 : Same H6 H7 := by rw [← hg_q2]; exact same_new h_q2
        have e_q2 : H7 q2 = some (.tup [.bl false, .ref q1]) := by rw [← hg_q2]; exact upd_same
        clear hg_q2

        walk_at "rd"
        have hv7 := ((hv4.keep (.of s5)).keep (.of s_q1)).keep (.of s_q2)
        have s57 := s_q1.trans s_q2
        have d1 : SameD H7 5 (.ref u1) (.ref q1) := .tup (s57 _ _ f5) (s_q2 _ _ e_q1) (Nat.le_of_ble_eq_true rfl) (.cons (.flat rfl) (.cons (hv7.same 2) .nil))
        refine ⟨.tup (s57 _ _ e5) e_q2 (Nat.le_of_ble_eq_true rfl) (.cons (.flat rfl) (.cons d1 .nil)), ?_⟩
        walk_at "rd"
        refine .inl ⟨p, ⟨rfl, hp⟩, fun t2 H8 s8 e8 => ?_⟩
        walk_at "rd"
        walk_at "nw"
        intro q3 h_q3
        generalize hg_q3 : upd H8 q3 _ = H9
        have s_q3 : Same H8 H9 := by rw [← hg_q3]; exact same_new h_q3
        have e_q3 : H9 q3 = some (.tup [.bl true, .int p]) := by rw [← hg_q3]; exact upd_same
        clear hg_q3

        walk_at "rd"
        refine ⟨.tup (s_q3 _ _ e8) e_q3 (Nat.le_of_ble_eq_true rfl) (.cons (.flat rfl) (.cons (.flat rfl) .nil)), ?_⟩
        walk_at "rd"
        have s49 := ((s5.trans s57).trans s8).trans s_q3
        exact ⟨⟨_, _, _, rfl⟩, S4.keep s49, (b2.trans (b3.trans b4)).trans (.of s49)⟩
      · rintro σ H2 h
        exact h
    rintro σ H2 ⟨⟨k, od, p, rfl⟩, S2, b2⟩
    walk_at "rd"
    exact q H2 S2 b2
end
end K02

set_option Elab.async false
set_option linter.all false
set_option maxRecDepth 100000
set_option maxHeartbeats 4000000
set_option pp.deepTerms false
set_option pp.deepTerms.threshold 12
namespace K02
open PySem PySem.Spec PyProof.Rows L2
local macro_rules | `(tactic| walk_at "ty") => `(tactic| first | exact .base (.int _) | exact .base (.bl _) | exact .base (.str _) | exact .base .non | assumption | exact .base (.tup (by assumption)) | exact .base (.lst (by assumption)))
local macro_rules | `(tactic| walk_at "cm") => `(tactic| first | exact cm_r (by decide) (by decide) | exact cm_l (by decide) (by decide) | exact cm_fmod (by decide) (by decide) | exact cm_r (by omega) (by omega) | exact cm_l (by omega) (by omega))
local macro_rules | `(tactic| walk_at "dv") => `(tactic| first | exact ⟨by decide, by decide⟩ | exact ⟨by omega, by omega⟩)
local macro_rules | `(tactic| walk_at "r1") => `(tactic| first
  | refine ⟨_, rfl, ?_⟩ | refine ⟨_, _, rfl, rfl, ?_⟩ | refine Or.inl ⟨_, rfl, ?_⟩ | refine Or.inr ⟨_, rfl, ?_⟩
  | refine And.intro (a := CMul _ _) (by walk_at "cm") ?_ | refine And.intro (a := CDivN _ _) (by walk_at "dv") ?_ | refine And.intro (a := _ ≠ (0 : Int)) (by first | decide | omega) ?_ | refine And.intro (a := scal _ _ = true) rfl ?_ | refine ⟨_, _, _, _, rfl, rfl, SqL.of (by first | exact upd_same | assumption), rfl, ?_⟩ | refine ⟨_, _, _, _, rfl, rfl, (by first | exact upd_same | assumption), rfl, ?_⟩ | refine ⟨_, _, rfl, ?_⟩ | refine And.intro (a := (_ : V) = V.non) rfl ?_ | refine And.intro (a := CPow _ _) ⟨by decide, by decide, by decide⟩ ?_ | refine And.intro (a := (_ : List V) = []) rfl ?_ | refine ⟨_, _, rfl, SqT.of (by first | exact upd_same | assumption), rfl, ?_⟩
  | refine ⟨_, _, _, _, true, rfl, ClsV.ty _, (by walk_at "ty"), kit_ty (by decide +kernel), ?_⟩ | refine ⟨_, _, _, _, false, rfl, ClsV.ty _, (by walk_at "ty"), kit_ty (by decide +kernel), ?_⟩)
local macro_rules | `(tactic| walk_at "rd") => `(tactic| repeat walk_at "r1")
local macro_rules | `(tactic| walk_at "yes") => `(tactic| (change (if true = true then _ else _); rw [if_pos rfl]))
local macro_rules | `(tactic| walk_at "no") => `(tactic| (change (if false = true then _ else _); rw [if_neg Bool.false_ne_true]))
local macro_rules | `(tactic| walk_at "nw") => `(tactic| refine And.intro (a := _ ≤ sizeLine) (sz_le (Nat.le_of_ble_eq_true rfl)) ?_)

section
variable {P : Program} {w : World} {K : PySem.W.Frag} {mg : Str → Option Value} {base : Heap}
variable {C_VaultError C_TooMany C_NumberError C_BadPrime C_NoInverse C_NoNumber C_BadTable C_BadCells C_TextError C_ShapeError C_PlanError C_CourseError C_KnowError C_PaperError fV fI_BadPrime fI_NoInverse : Addr}
variable (T : Txt P K mg C_VaultError C_TooMany C_NumberError C_BadPrime C_NoInverse C_NoNumber C_BadTable C_BadCells C_TextError C_ShapeError C_PlanError C_CourseError C_KnowError C_PaperError fV fI_BadPrime fI_NoInverse)
include T
omit T in
theorem store_mut {H : Hp} {st D : Addr} {zs : List Int} (S : Store H st) (n : D ≠ st) (hz : zs.length ≤ 63) : Store (upd H D (.lst (zs.map V.int))) st := by
  obtain ⟨cl, ns, a, b, c, d, e, g, h1, h2, ha, hlen, hne⟩ := S.ex
  by_cases h : cl = D
  · exact ⟨cl, zs, a, b, c, d, e, g, by rw [upd_ne n.symm]; exact h1, by rw [h]; exact upd_same, ha, hz, hne⟩
  · exact ⟨cl, ns, a, b, c, d, e, g, by rw [upd_ne n.symm]; exact h1, by rw [upd_ne h]; exact h2, ha, hlen, hne⟩
omit T in
theorem but_mut {st D : Addr} {H H' : Hp} {o : HO} (b : But st H H') (h : H D = none) : But st H (upd H' D o) := fun c u n e => by
  rw [upd_ne (ne_of_none e h)]
  exact b c u n e
def spLaw (K : PySem.W.Frag) : Sp := fun vs H Q _ => ∃ (a : Addr) (ns : List Int), vs = [.ref a] ∧ SqL K H a (ns.map V.int) ∧ ∀ H', Same H H' → Q (.bl true) H'
theorem ok_law {f : Addr} {fd : FuncData} (F : Fun K "law" "law" s_law f fd) {f_store : Addr} {fd_store : FuncData} (D_store : Def K mg "_law_store" s_store p_store f_store fd_store) (G_store : FnOk P w K mg base CX0 1 f_store fd_store p_store (spStore K)) {f_prime : Addr} {fd_prime : FuncData} (D_prime : Def K mg "_law_prime" s_prime p_prime f_prime fd_prime) (G_prime : FnOk P w K mg base CX0 4 f_prime fd_prime p_prime spPrime) {f_candidate : Addr} {fd_candidate : FuncData} (D_candidate : Def K mg "_law_candidate" s_candidate p_candidate f_candidate fd_candidate) (G_candidate : FnOk P w K mg base CX0 5 f_candidate fd_candidate p_candidate spCand) {f_is_prime : Addr} {fd_is_prime : FuncData} (D_is_prime : Def K mg "is_prime" s_is_prime p_is_prime f_is_prime fd_is_prime) (G_is_prime : FnOk P w K mg base CX0 1 f_is_prime fd_is_prime p_is_prime spIsP) {f_undivided : Addr} {fd_undivided : FuncData} (D_undivided : Def K mg "_law_undivided" s_undivided p_undivided f_undivided fd_undivided) (G_undivided : FnOk P w K mg base CX0 1 f_undivided fd_undivided p_undivided spUndiv) {f_same : Addr} {fd_same : FuncData} (D_same : Def K mg "_law_same" s_same p_same f_same fd_same) (G_same : FnOk P w K mg base CX0 6 f_same fd_same p_same (spSame 6)) {f_primesright : Addr} {fd_primesright : FuncData} (D_primesright : Def K mg "_law_primesright" s_primesright p_primesright f_primesright fd_primesright) (G_primesright : FnOk P w K mg base CX0 10 f_primesright fd_primesright p_primesright spPR) {f_int : Addr} {fd_int : FuncData} (D_int : Def K mg "_law_int" s_int p_int f_int fd_int) (G_int : FnOk P w K mg base CX0 4 f_int fd_int p_int spInt) {f_inverseright : Addr} {fd_inverseright : FuncData} (D_inverseright : Def K mg "_law_inverseright" s_inverseright p_inverseright f_inverseright fd_inverseright) (G_inverseright : FnOk P w K mg base CX0 10 f_inverseright fd_inverseright p_inverseright spInvR) {f_noprime : Addr} {fd_noprime : FuncData} (D_noprime : Def K mg "_law_noprime" s_noprime p_noprime f_noprime fd_noprime) (G_noprime : FnOk P w K mg base CX0 5 f_noprime fd_noprime p_noprime spNoP) {f_inverted : Addr} {fd_inverted : FuncData} (D_inverted : Def K mg "_law_inverted" s_inverted p_inverted f_inverted fd_inverted) (G_inverted : FnOk P w K mg base CX0 9 f_inverted fd_inverted p_inverted spInverted) {f_take : Addr} {fd_take : FuncData} (D_take : Def K mg "_law_take" s_take p_take f_take fd_take) (G_take : FnOk P w K mg base CX0 2 f_take fd_take p_take spTake) {f_edge : Addr} {fd_edge : FuncData} (D_edge : Def K mg "_law_edge" s_edge p_edge f_edge fd_edge) (G_edge : FnOk P w K mg base CX0 3 f_edge fd_edge p_edge spTake) {f_pick : Addr} {fd_pick : FuncData} (D_pick : Def K mg "_law_pick" s_pick p_pick f_pick fd_pick) (G_pick : FnOk P w K mg base CX0 3 f_pick fd_pick p_pick spPick) {f_chooseright : Addr} {fd_chooseright : FuncData} (D_chooseright : Def K mg "_law_chooseright" s_chooseright p_chooseright f_chooseright fd_chooseright) (G_chooseright : FnOk P w K mg base CX0 7 f_chooseright fd_chooseright p_chooseright spChR) : FnOk P w K mg base CX0 11 f fd p_law (spLaw K) := by
  refine F.ok sc_law (fun vs H Q E h => ?_) (fun cdv A outer s H vs Q E hr h => ?_)
  · obtain ⟨a, ns, rfl, _⟩ := h
    rfl
  · obtain ⟨a, ns, rfl, hS, q⟩ := h
    refine ⟨_, (pss_cons (ps_set (i := 1) sc_law.nd rfl (Or.inr rfl) (by exact (pe_call G_store (hr.mono (by decide)) rfl D_store.g D_store.fn.kp D_store.b .nil pass0 (pa_cons (pv 0) pa_nil))))
      (pss_cons (ps_set (i := 2) sc_law.nd rfl (Or.inl rfl) (by exact (pe_call G_prime (hr.mono (by decide)) rfl D_prime.g D_prime.fn.kp D_prime.b .nil pass0 (pa_cons (pv 1) pa_nil))))
      (pss_cons (ps_setLc (i := 3) (own := [("k", 4)]) (g := gName 4) (by rfl) sc_law.nd rfl rfl (sw_true rfl rfl rfl (by decide +kernel)) (pi_range1 (by rfl) T.b_range (pa_cons pe_int pa_nil)) (blkOk_by (own := [("k", 4)]) (N := N_law) (sc := defScope s_law) (by decide +kernel)) (fun _ _ _ _ _ => pg_name (i := 4) sc_law.nd rfl (Or.inl rfl)) (fun _ _ _ _ _ => pts_nil) (fun _ _ _ _ _ => (pe_call G_candidate (hr.mono (by decide)) rfl D_candidate.g D_candidate.fn.kp D_candidate.b .nil pass0 (pa_cons (pv 1) pa_nil))))
      (pss_mid (ps_for PassesOwn.never rfl (pi_list (pe_op op_cat (pv 3) (pe_lstRev rfl (by rfl) T.b_list (by rfl) T.b_reversed (pv 3)))) (pg_name (i := 5) sc_law.nd rfl (Or.inl rfl)) (pss_one (ps_if (pt_not (pt_val (pe_call G_same (hr.mono (by decide)) rfl D_same.g D_same.fn.kp D_same.b .nil pass0 (pa_cons (pe_call G_is_prime (hr.mono (by decide)) rfl D_is_prime.g D_is_prime.fn.kp D_is_prime.b .nil pass0 (pa_cons (pv 5) pa_nil)) (pa_cons (pe_call G_undivided (hr.mono (by decide)) rfl D_undivided.g D_undivided.fn.kp D_undivided.b .nil pass0 (pa_cons (pv 5) pa_nil)) pa_nil))))) (pss_one (ps_ret (by exact pe_bl))) pss_nil)))
      (pss_mid (ps_if (pt_not (pt_val (pe_call G_primesright (hr.mono (by decide)) rfl D_primesright.g D_primesright.fn.kp D_primesright.b .nil pass0 (pa_cons (pv 1) pa_nil)))) (pss_one (ps_ret (by exact pe_bl))) pss_nil)
      (pss_cons (ps_set (i := 3) sc_law.nd rfl (Or.inl rfl) (by exact (pe_lst (pa_cons (pe_call G_int (hr.mono (by decide)) rfl D_int.g D_int.fn.kp D_int.b .nil pass0 (pa_cons (pv 1) pa_nil)) (pa_cons (pe_call G_int (hr.mono (by decide)) rfl D_int.g D_int.fn.kp D_int.b .nil pass0 (pa_cons (pv 1) pa_nil)) (pa_cons (pe_op op_mul (pe_op op_fdivN (pe_call G_int (hr.mono (by decide)) rfl D_int.g D_int.fn.kp D_int.b .nil pass0 (pa_cons (pv 1) pa_nil)) pe_int) (pv 2)) (pa_cons pe_int (pa_cons (pv 2) (pa_cons (pe_op op_sub pe_int (pv 2)) (pa_cons pe_int (pa_cons (pe_op op_pow pe_int pe_int) pa_nil)))))))))))
      (pss_mid (ps_for PassesOwn.never rfl (pi_list (pe_op op_cat (pe_op op_cat (pv 3) (pe_lc (own := [("k", 4)]) (g := gName 4) rfl sc_law.nd (pi_range2 (by rfl) T.b_range (pa_cons pe_int (pa_cons (pv 2) pa_nil))) (blkOk_by (own := [("k", 4)]) (N := N_law) (sc := defScope s_law) (by decide +kernel)) (fun _ _ _ _ _ => pg_name (i := 4) sc_law.nd rfl (Or.inl rfl)) (fun _ _ _ _ _ => pts_nil) (fun _ _ _ _ _ => (pv 4)))) (pv 3))) (pg_name (i := 6) sc_law.nd rfl (Or.inl rfl)) (pss_one (ps_if (pt_not (pt_val (pe_call G_inverseright (hr.mono (by decide)) rfl D_inverseright.g D_inverseright.fn.kp D_inverseright.b .nil pass0 (pa_cons (pv 2) (pa_cons (pv 6) pa_nil))))) (pss_one (ps_ret (by exact pe_bl))) pss_nil)))
      (pss_cons (ps_set (i := 7) sc_law.nd rfl (Or.inl rfl) (by exact (pe_call G_noprime (hr.mono (by decide)) rfl D_noprime.g D_noprime.fn.kp D_noprime.b .nil pass0 (pa_cons (pv 1) pa_nil))))
      (pss_mid (ps_for PassesOwn.never rfl (pi_list (pe_lst (pa_cons pe_int (pa_cons pe_int (pa_cons (pe_call G_int (hr.mono (by decide)) rfl D_int.g D_int.fn.kp D_int.b .nil pass0 (pa_cons (pv 1) pa_nil)) pa_nil))))) (pg_name (i := 6) sc_law.nd rfl (Or.inl rfl)) (pss_one (ps_if (pt_not (pt_val (pe_call G_same (hr.mono (by decide)) rfl D_same.g D_same.fn.kp D_same.b .nil pass0 (pa_cons (pe_call G_inverted (hr.mono (by decide)) rfl D_inverted.g D_inverted.fn.kp D_inverted.b .nil pass0 (pa_cons (pv 7) (pa_cons (pv 6) pa_nil))) (pa_cons (pe_tup (pa_cons pe_bl (pa_cons (pe_tup (pa_cons pe_str (pa_cons (pv 7) pa_nil))) pa_nil))) pa_nil))))) (pss_one (ps_ret (by exact pe_bl))) pss_nil)))
      (pss_mid (ps_for PassesOwn.never rfl (pi_range1 (by rfl) T.b_range (pa_cons pe_int pa_nil)) (pg_name (i := 8) sc_law.nd rfl (Or.inl rfl)) (pss_cons (ps_set (i := 5) sc_law.nd rfl (Or.inl rfl) (by exact (pe_call G_pick (hr.mono (by decide)) rfl D_pick.g D_pick.fn.kp D_pick.b .nil pass0 (pa_cons (pv 1) (pa_cons (pe_lst (pa_cons (pe_call G_take (hr.mono (by decide)) rfl D_take.g D_take.fn.kp D_take.b .nil pass0 (pa_cons (pv 1) (pa_cons pe_int pa_nil))) (pa_cons (pe_call G_edge (hr.mono (by decide)) rfl D_edge.g D_edge.fn.kp D_edge.b .nil pass0 (pa_cons (pv 1) (pa_cons pe_int pa_nil))) pa_nil))) pa_nil)))))
          (pss_one (ps_for PassesOwn.never rfl (pi_list (pe_lst (pa_cons (pe_op op_sub (pe_call G_take (hr.mono (by decide)) rfl D_take.g D_take.fn.kp D_take.b .nil pass0 (pa_cons (pv 1) (pa_cons (pe_op op_add (pv 5) pe_int) pa_nil))) pe_int) (pa_cons (pe_op op_fdivN (pe_call G_int (hr.mono (by decide)) rfl D_int.g D_int.fn.kp D_int.b .nil pass0 (pa_cons (pv 1) pa_nil)) pe_int) (pa_cons pe_int (pa_cons (pv 5) (pa_cons (pe_op op_add (pv 5) pe_int) (pa_cons (pe_op op_sub pe_int pe_int) pa_nil)))))))) (pg_name (i := 4) sc_law.nd rfl (Or.inl rfl)) (pss_one (ps_if (pt_not (pt_val (pe_call G_chooseright (hr.mono (by decide)) rfl D_chooseright.g D_chooseright.fn.kp D_chooseright.b .nil pass0 (pa_cons (pv 5) (pa_cons (pv 4) pa_nil))))) (pss_one (ps_ret (by exact pe_bl))) pss_nil))))))
      (pss_one (ps_ret (by exact pe_bl))))))))))))), ?_⟩
    walk_at "rd"
    refine ⟨a, ns, rfl, hS, fun st H1 S1 s1 hst => ?_⟩
    walk_at "rd"
    refine ⟨S1, fun p H2 hp S2 b2 => ?_⟩
    have s2 : Same H H2 := same_but s1 hst b2
    walk_at "rd"
    have g := M02.primes_lo hp
    refine ⟨by decide, by decide, fun D hD => ?_⟩
    have nD := st_ne S2 hD
    refine lc_range (lo := 0) (n := 8) (fun i H' => Store H' st ∧ But st H2 H' ∧ ∃ zs : List Int, H' D = some (.lst (zs.map V.int)) ∧ zs.length = i ∧ ∀ z ∈ zs, z ≤ 10000) ⟨S2.keep (same_new hD), .of (same_new hD), [], upd_same, rfl, fun z hz => nomatch hz⟩ ?_ ?_
    · rintro i H3 hi ⟨S3, b3, zs, hx, hl, hall⟩
      refine ⟨rfl, ?_⟩
      walk_at "rd"
      refine ⟨S3, fun n H4 hn S4 b4 => ?_⟩
      have hx4 := b4 _ _ nD hx
      have e1 : zs.map V.int ++ [.int n] = (zs ++ [n]).map V.int := by rw [List.map_append]; rfl
      have hl1 : (zs ++ [n]).length = i + 1 := by rw [List.length_append, hl]; rfl
      refine ⟨_, hx4, sz_lt (by rw [List.length_map]; omega), ?_⟩
      rw [e1]
      refine ⟨store_mut S4 nD (by omega), but_mut (b3.trans b4) hD, zs ++ [n], upd_same, hl1, fun z hz => ?_⟩
      rw [List.mem_append] at hz
      rcases hz with hz | hz
      · exact hall z hz
      · rw [List.mem_singleton.mp hz]
        exact hn
    rintro H3 ⟨S3, b3, zs, hx, hl, hall⟩
    have s3 : Same H H3 := same_but s2 hst b3
    clear b2 b3 s2 s1 S1 S2
    refine ⟨fun σ H' => (∃ k n : Option V, σ = [some (.ref a), some (.ref st), some (.int p), some (.ref D), k, n, none, none, none]) ∧ Store H' st ∧ Same H H', ?_, ?_⟩
    · walk_at "rd"
      refine ⟨D, _, rfl, SqL.of hx, fun r h_r => ?_⟩
      generalize hg_r : upd H3 r _ = H4
      have s_r : Same H3 H4 := by rw [← hg_r]; exact same_new h_r
      have e_r : H4 r = some (.lst (zs.map V.int).reverse) := by rw [← hg_r]; exact upd_same
      clear hg_r
      refine ⟨D, r, _, _, rfl, rfl, s_r _ _ hx, e_r, sz_le (by rw [List.length_reverse, List.length_map]; omega), fun z h_z => ?_⟩
      generalize hg_z : upd H4 z _ = H5
      have s_z : Same H4 H5 := by rw [← hg_z]; exact same_new h_z
      have e_z : H5 z = some (.lst (zs.map V.int ++ (zs.map V.int).reverse)) := by rw [← hg_z]; exact upd_same
      clear hg_z
      walk_at "rd"
      refine ⟨⟨_, SqL.of e_z⟩, for_list (K := K) (a := z) (xs := zs.map V.int ++ (zs.map V.int).reverse) (fun i σ H' => (∃ k n : Option V, σ = [some (.ref a), some (.ref st), some (.int p), some (.ref D), k, n, none, none, none]) ∧ Same H5 H') ⟨⟨_, _, rfl⟩, fun _ _ e => e⟩ (fun i σ H' _ ⟨_, e⟩ => SqL.of (e _ _ e_z)) ?_ ?_⟩
      · rintro i y σ H6 hi ⟨⟨k, n, rfl⟩, s6⟩
        obtain ⟨n', rfl, hn'⟩ : ∃ n' : Int, y = .int n' ∧ n' ≤ 10000 := by
          have hy := List.mem_of_getElem? hi
          rw [List.mem_append, List.mem_reverse, or_self, List.mem_map] at hy
          obtain ⟨z, hz, rfl⟩ := hy
          exact ⟨z, rfl, hall z hz⟩
        walk_at "rd"
        refine ⟨by omega, fun c1 k1 => ?_⟩
        walk_at "rd"
        refine ⟨by omega, fun c2 k2 => ?_⟩
        obtain rfl : c1 = c2 := Bool.eq_iff_iff.mpr (k1.trans k2.symm)
        walk_at "rd"
        refine ⟨.flat rfl, ?_⟩
        walk_at "rd"
        exact ⟨⟨_, _, rfl⟩, s6⟩
      · rintro σ H6 ⟨⟨k, n, rfl⟩, s6⟩
        have s36 := (s_r.trans s_z).trans s6
        exact ⟨⟨_, _, rfl⟩, S3.keep s36, s3.trans s36⟩
    rintro σ H4 ⟨⟨k, n, rfl⟩, S4, s4⟩
    clear hx hl hall hD nD S3 s3
    refine ⟨fun σ H' => σ = [some (.ref a), some (.ref st), some (.int p), some (.ref D), k, n, none, none, none] ∧ Store H' st ∧ Same H H', ?_, ?_⟩
    · walk_at "rd"
      refine ⟨S4, fun H5 S5 b5 => ?_⟩
      walk_at "rd"
      exact ⟨rfl, S5, same_but s4 hst b5⟩
    rintro σ H5 ⟨rfl, S5, s5⟩
    clear S4 s4
    walk_at "rd"
    refine ⟨S5, fun i1 H6 S6 b6 => ?_⟩
    walk_at "rd"
    refine ⟨S6, fun i2 H7 S7 b7 => ?_⟩
    walk_at "rd"
    refine ⟨S7, fun i3 H8 S8 b8 => ?_⟩
    have s8 : Same H H8 := same_but s5 hst ((b6.trans b7).trans b8)
    clear b6 b7 b8 S5 S6 S7 s5
    walk_at "rd"
    walk_at "nw"
    intro l h_l
    generalize hg_l : upd H8 l _ = H9
    have s_l : Same H8 H9 := by rw [← hg_l]; exact same_new h_l
    have e_l : H9 l = some (.lst [.int i1, .int i2, .int (i3.fdiv 1000 * p), .int 0, .int p, .int (0 - p), .int 1, .int (10 ^ (39 : Int).toNat)]) := by rw [← hg_l]; exact upd_same
    clear hg_l
    generalize hls : ([V.int i1, .int i2, .int (i3.fdiv 1000 * p), .int 0, .int p, .int (0 - p), .int 1, .int (10 ^ (39 : Int).toNat)] : List V) = ls at e_l
    have hls8 : ls.length = 8 := by rw [← hls]; rfl
    have als : ∀ x ∈ ls, ∃ z : Int, x = .int z := by
      intro x hx
      rw [← hls] at hx
      simp only [List.mem_cons, List.mem_nil_iff, or_false] at hx
      rcases hx with rfl | rfl | rfl | rfl | rfl | rfl | rfl | rfl <;> exact ⟨_, rfl⟩
    clear hls
    walk_at "rd"
    refine ⟨fun σ H' => (∃ k a' : Option V, σ = [some (.ref a), some (.ref st), some (.int p), some (.ref l), k, n, a', none, none]) ∧ Store H' st ∧ Same H H', ?_, ?_⟩
    · walk_at "rd"
      refine ⟨⟨by decide, by decide, by omega, by omega⟩, fun D2 hD2 => ?_⟩
      refine lc_range (lo := 1) (n := (p - 1).toNat) (fun i H' => Same H9 H' ∧ ∃ xs : List V, H' D2 = some (.lst xs) ∧ xs.length = i ∧ ∀ x ∈ xs, ∃ z : Int, x = .int z) ⟨same_new hD2, [], upd_same, rfl, fun x hx => nomatch hx⟩ ?_ ?_
      · rintro i H' hi ⟨e, xs, hx, hl, hall⟩
        refine ⟨rfl, ?_⟩
        refine ⟨_, rfl, xs, hx, sz_lt (by omega), e.mut hD2, xs ++ [.int (1 + i)], upd_same, by rw [List.length_append, hl]; rfl, fun x hx => ?_⟩
        rw [List.mem_append] at hx
        rcases hx with hx | hx
        · exact hall x hx
        · exact ⟨_, List.mem_singleton.mp hx⟩
      · rintro HL ⟨eL, xs, hx, hl, hall⟩
        walk_at "rd"
        refine ⟨l, D2, _, _, rfl, rfl, eL _ _ e_l, hx, sz_le (by omega), fun l2 h_l2 => ?_⟩
        generalize hg_l2 : upd HL l2 _ = H10
        have s_l2 : Same HL H10 := by rw [← hg_l2]; exact same_new h_l2
        have e_l2 : H10 l2 = some (.lst (ls ++ xs)) := by rw [← hg_l2]; exact upd_same
        clear hg_l2
        walk_at "rd"
        refine ⟨l2, l, _, _, rfl, rfl, e_l2, s_l2 _ _ (eL _ _ e_l), sz_le (by rw [List.length_append]; omega), fun l3 h_l3 => ?_⟩
        generalize hg_l3 : upd H10 l3 _ = H11
        have s_l3 : Same H10 H11 := by rw [← hg_l3]; exact same_new h_l3
        have e_l3 : H11 l3 = some (.lst (ls ++ xs ++ ls)) := by rw [← hg_l3]; exact upd_same
        clear hg_l3
        walk_at "rd"
        have s811 : Same H8 H11 := ((s_l.trans eL).trans s_l2).trans s_l3
        refine ⟨⟨_, SqL.of e_l3⟩, for_list (K := K) (a := l3) (xs := ls ++ xs ++ ls) (fun i σ H' => (∃ k' a' : Option V, σ = [some (.ref a), some (.ref st), some (.int p), some (.ref l), k', n, a', none, none]) ∧ Same H11 H') ⟨⟨_, _, rfl⟩, fun _ _ e => e⟩ (fun i σ H' _ ⟨_, e⟩ => SqL.of (e _ _ e_l3)) ?_ ?_⟩
        · rintro i y σ H12 hi ⟨⟨k', a', rfl⟩, s12⟩
          obtain ⟨z, rfl⟩ : ∃ z : Int, y = .int z := by
            have hy := List.mem_of_getElem? hi
            rw [List.mem_append, List.mem_append] at hy
            rcases hy with (hy | hy) | hy
            · exact als y hy
            · exact hall y hy
            · exact als y hy
          walk_at "rd"
          refine ⟨hp, fun H13 s13 => ?_⟩
          walk_at "rd"
          exact ⟨⟨_, _, rfl⟩, s12.trans s13⟩
        · rintro σ H12 ⟨⟨k', a', rfl⟩, s12⟩
          exact ⟨⟨_, _, rfl⟩, S8.keep (s811.trans s12), s8.trans (s811.trans s12)⟩
    rintro σ H10 ⟨⟨k', a', rfl⟩, S10, s10⟩
    walk_at "rd"
    refine ⟨S10, fun odd H11 hv S11 b11 => ?_⟩
    have s11 : Same H H11 := same_but s10 hst b11
    walk_at "rd"
    refine ⟨fun σ H' => (∃ a' : Option V, σ = [some (.ref a), some (.ref st), some (.int p), some (.ref l), k', n, a', some odd, none]) ∧ Store H' st ∧ Same H H', ?_, ?_⟩
    · walk_at "rd"
      refine ⟨S11, fun i1 H12 S12 b12 => ?_⟩
      have s12 : Same H H12 := same_but s11 hst b12
      have hv12 := hv.keep b12
      walk_at "rd"
      walk_at "nw"
      intro m h_m
      generalize hg_m : upd H12 m _ = H13
      have s_m : Same H12 H13 := by rw [← hg_m]; exact same_new h_m
      have e_m : H13 m = some (.lst [.int 0, .int 1, .int i1]) := by rw [← hg_m]; exact upd_same
      clear hg_m
      walk_at "rd"
      refine ⟨⟨_, SqL.of e_m⟩, for_list (K := K) (a := m) (xs := [.int 0, .int 1, .int i1]) (fun i σ H' => (∃ a' : Option V, σ = [some (.ref a), some (.ref st), some (.int p), some (.ref l), k', n, a', some odd, none]) ∧ Same H13 H') ⟨⟨_, rfl⟩, fun _ _ e => e⟩ (fun i σ H' _ ⟨_, e⟩ => SqL.of (e _ _ e_m)) ?_ ?_⟩
      · rintro i y σ H14 hi ⟨⟨a', rfl⟩, s14⟩
        obtain ⟨z, rfl⟩ : ∃ z : Int, y = .int z := by
          have hy := List.mem_of_getElem? hi
          simp only [List.mem_cons, List.mem_nil_iff, or_false] at hy
          rcases hy with rfl | rfl | rfl <;> exact ⟨_, rfl⟩
        have hv14 := (hv12.keep (.of s_m)).keep (.of s14)
        walk_at "rd"
        refine .inr ⟨hv14.no, fun t1 u1 H15 s15 e15 f15 => ?_⟩
        walk_at "rd"
        walk_at "nw"
        intro q1 h_q1
        generalize hg_q1 : upd H15 q1 _ = H16
        have s_q1 : Same H15 H16 := by rw [← hg_q1]; exact same_new h_q1
        have e_q1 : H16 q1 = some (.tup [.str "badprime", odd]) := by rw [← hg_q1]; exact upd_same
        clear hg_q1
        walk_at "rd"
        walk_at "nw"
        intro q2 h_q2
        generalize hg_q2 : upd H16 q2 _ = H17
        have s_q2 : Same H16 H17 := by rw [← hg_q2]; exact same_new h_q2
        have e_q2 : H17 q2 = some (.tup [.bl false, .ref q1]) := by rw [← hg_q2]; exact upd_same
        clear hg_q2
        walk_at "rd"
        have hv17 := ((hv14.keep (.of s15)).keep (.of s_q1)).keep (.of s_q2)
        have s57 := s_q1.trans s_q2
        have d1 : SameD H17 5 (.ref u1) (.ref q1) := .tup (s57 _ _ f15) (s_q2 _ _ e_q1) (Nat.le_of_ble_eq_true rfl) (.cons (.flat rfl) (.cons (hv17.same 2) .nil))
        refine ⟨.tup (s57 _ _ e15) e_q2 (Nat.le_of_ble_eq_true rfl) (.cons (.flat rfl) (.cons d1 .nil)), ?_⟩
        walk_at "rd"
        exact ⟨⟨_, rfl⟩, (s14.trans s15).trans s57⟩
      · rintro σ H14 ⟨⟨a', rfl⟩, s14⟩
        have sx := s_m.trans s14
        exact ⟨⟨_, rfl⟩, S12.keep sx, s12.trans sx⟩
    rintro σ H12 ⟨⟨a', rfl⟩, S12, s12⟩
    clear hv S11 b11 s11 S10 s10
    refine ⟨fun σ H' => Same H H', ?_, ?_⟩
    · walk_at "rd"
      refine ⟨by decide, by decide, ?_⟩
      refine for_range (fun i σ H' => (∃ k n j : Option V, σ = [some (.ref a), some (.ref st), some (.int p), some (.ref l), k, n, a', some odd, j]) ∧ Store H' st ∧ Same H H') ⟨⟨_, _, _, rfl⟩, S12, s12⟩ ?_ ?_
      · rintro i σ H13 hi ⟨⟨k, n, j, rfl⟩, S13, s13⟩
        walk_at "rd"
        refine ⟨by decide, S13, fun d1 H14 x0 x1 S14 b14 => ?_⟩
        rw [if_pos (by decide)] at x1
        walk_at "rd"
        refine ⟨by decide, S14, fun d2 H15 y0 y1 S15 b15 => ?_⟩
        rw [if_pos (by decide)] at y1
        have s15 : Same H H15 := same_but s13 hst (b14.trans b15)
        walk_at "rd"
        walk_at "nw"
        intro m h_m
        generalize hg_m : upd H15 m _ = H16
        have s_m : Same H15 H16 := by rw [← hg_m]; exact same_new h_m
        have e_m : H16 m = some (.lst [.int d1, .int d2]) := by rw [← hg_m]; exact upd_same
        clear hg_m
        walk_at "rd"
        refine ⟨st, m, _, rfl, e_m, st_ne S15 h_m, Nat.le_of_ble_eq_true rfl, Nat.le_of_ble_eq_true rfl, S15.keep s_m, fun v H17 hv S17 b17 => ?_⟩
        obtain ⟨n', rfl, n0, n1⟩ : ∃ n' : Int, v = .int n' ∧ 0 ≤ n' ∧ n' ≤ 400 := by
          simp only [List.mem_cons, List.mem_nil_iff, or_false] at hv
          rcases hv with rfl | rfl
          · exact ⟨_, rfl, by omega, by omega⟩
          · exact ⟨_, rfl, by omega, by omega⟩
        have s17 : Same H H17 := same_but (s15.trans s_m) hst b17
        walk_at "rd"
        refine ⟨by omega, S17, fun d3 H18 _ _ S18 b18 => ?_⟩
        walk_at "rd"
        refine ⟨S18, fun d4 H19 S19 b19 => ?_⟩
        have s19 : Same H H19 := same_but s17 hst (b18.trans b19)
        walk_at "rd"
        walk_at "nw"
        intro w1 h_w1
        generalize hxs : ([V.int (d3 - 1), .int (d4.fdiv 10), .int 0, .int n', .int (n' + 1), .int (0 - 1)] : List V) = xs
        have axs : ∀ x ∈ xs, ∃ z : Int, x = .int z := by
          intro x hx
          rw [← hxs] at hx
          simp only [List.mem_cons, List.mem_nil_iff, or_false] at hx
          rcases hx with rfl | rfl | rfl | rfl | rfl | rfl <;> exact ⟨_, rfl⟩
        clear hxs
        have sw : Same H19 (upd H19 w1 (.lst xs)) := same_new h_w1
        refine ⟨w1, rfl, ⟨_, SqL.of upd_same⟩, for_list (K := K) (a := w1) (xs := xs) (fun i σ H' => (∃ k j : Option V, σ = [some (.ref a), some (.ref st), some (.int p), some (.ref l), k, some (.int n'), a', some odd, j]) ∧ Same (upd H19 w1 (.lst xs)) H') ⟨⟨_, _, rfl⟩, fun _ _ e => e⟩ (fun i σ H' _ ⟨_, e⟩ => SqL.of (e _ _ upd_same)) ?_ ?_⟩
        · rintro i2 y σ H20 hi2 ⟨⟨k, j, rfl⟩, s20⟩
          obtain ⟨z, rfl⟩ := axs y (List.mem_of_getElem? hi2)
          walk_at "rd"
          refine ⟨⟨by omega, by omega⟩, fun H21 s21 => ?_⟩
          walk_at "rd"
          exact ⟨⟨_, _, rfl⟩, s20.trans s21⟩
        · rintro σ H20 ⟨⟨k, j, rfl⟩, s20⟩
          exact ⟨⟨_, _, _, rfl⟩, S19.keep (sw.trans s20), s19.trans (sw.trans s20)⟩
      · rintro σ H13 ⟨_, _, s13⟩
        exact s13
    rintro σ H13 s13
    walk_at "rd"
    exact q H13 s13
end
end K02

set_option Elab.async false
set_option linter.all false
set_option maxRecDepth 100000
set_option maxHeartbeats 4000000
namespace K02
open PySem PySem.Spec PyProof.Rows L2
section
open PySem.W PySem.Calls PySem.HandSPX PySem.VX
def pV : Pos := ⟨4, 17, 4, 21⟩
def qV : Nat → Pos
  | 0 => ⟨5, 8, 5, 12⟩
  | 1 => ⟨5, 8, 5, 17⟩
  | 2 => ⟨5, 20, 5, 24⟩
  | 3 => ⟨5, 20, 5, 34⟩
  | 4 => ⟨5, 20, 5, 43⟩
  | 5 => ⟨5, 20, 5, 49⟩
  | 6 => ⟨5, 20, 5, 51⟩
  | _ => ⟨5, 8, 5, 51⟩
def r_BadPrime : Nat → Pos
  | 0 => ⟨16, 8, 16, 13⟩
  | 1 => ⟨16, 8, 16, 15⟩
  | 2 => ⟨16, 8, 16, 24⟩
  | 3 => ⟨16, 8, 16, 26⟩
  | _ => ⟨16, 8, 16, 26⟩
def st_BadPrime : List Stmt := [.Assign [.Attribute (.Name "self" ⟨17, 8, 17, 12⟩) "value" ⟨17, 8, 17, 18⟩] (.Name "value" ⟨17, 21, 17, 26⟩) ⟨17, 8, 17, 26⟩]
def r_NoInverse : Nat → Pos
  | 0 => ⟨21, 8, 21, 13⟩
  | 1 => ⟨21, 8, 21, 15⟩
  | 2 => ⟨21, 8, 21, 24⟩
  | 3 => ⟨21, 8, 21, 26⟩
  | _ => ⟨21, 8, 21, 26⟩
def st_NoInverse : List Stmt := [.Assign [.Attribute (.Name "self" ⟨22, 8, 22, 12⟩) "value" ⟨22, 8, 22, 18⟩] (.Name "value" ⟨22, 21, 22, 26⟩) ⟨22, 8, 22, 26⟩]

/-- an error of the class at C is what «except S» names, S above C -/
theorem exm_of2 {K : PySem.W.Frag} {C S : Addr} (h1 : PySem.W.subIn K (.ref S) (.type "BaseException") = some true) (h2 : PySem.W.isClsIn K S = true) (h3 : PySem.W.typeIn K (.ref S) = some (.type "type")) (h4 : PySem.W.subIn K (.ref C) (.ref S) = some true) :
    PySem.W.exmOne K (.ref C) (.ref S) = some true := by
  have e1 : (PySem.W.subIn K (.ref S) (.type "BaseException") == some true) = true := by rw [h1] <;> rfl
  have e2 : ((PySem.W.clsIn K S).isSome && PySem.W.typeIn K (.ref S) == some (.type "type")) = true := by
    have h2b : (PySem.W.clsIn K S).isSome = true := h2
    rw [h2b, h3] <;> rfl
  show (if (PySem.W.subIn K (.ref S) (.type "BaseException") == some true) = true then (if ((PySem.W.clsIn K S).isSome && PySem.W.typeIn K (.ref S) == some (.type "type")) = true then PySem.W.subIn K (.ref C) (.ref S) else none) else none) = some true
  rw [if_pos e1, if_pos e2]
  exact h4
theorem all_mk {P : Program} {w : World} {K : PySem.W.Frag} {h : Heap} {mg : Str → Option Value} {fa : Addr} (X : K.In h) (G : h.Ns mainGlobals mg) (hfa : mg "law" = some (.ref fa))
    {f_is_whole f_lies_within f_is_prime f_need_prime f_inverse f_choose f_store f_mix f_take f_wide f_edge f_pick f_int f_primes f_prime f_isint f_same f_noprime f_kinds f_clean f_undivided f_candidate f_binomial f_refusal f_needed f_inverted f_primesright f_inverseright f_chooseright f_law C_VaultError C_TooMany C_NumberError C_BadPrime C_NoInverse C_NoNumber C_BadTable C_BadCells C_TextError C_ShapeError C_PlanError C_CourseError C_KnowError C_PaperError fV fI_BadPrime cda_BadPrime cc_BadPrime N_BadPrime fI_NoInverse cda_NoInverse cc_NoInverse N_NoInverse : Addr} {od_is_whole an_is_whole od_lies_within an_lies_within od_is_prime an_is_prime od_need_prime an_need_prime od_inverse an_inverse od_choose an_choose od_store an_store od_mix an_mix od_take an_take od_wide an_wide od_edge an_edge od_pick an_pick od_int an_int od_primes an_primes od_prime an_prime od_isint an_isint od_same an_same od_noprime an_noprime od_kinds an_kinds od_clean an_clean od_undivided an_undivided od_candidate an_candidate od_binomial an_binomial od_refusal an_refusal od_needed an_needed od_inverted an_inverted od_primesright an_primesright od_inverseright an_inverseright od_chooseright an_chooseright od_law an_law dd_BadPrime odI_BadPrime anI_BadPrime cdd_BadPrime cld_BadPrime dd_NoInverse odI_NoInverse anI_NoInverse cdd_NoInverse cld_NoInverse odV anV : Option Addr} {sl_is_whole sl_lies_within sl_is_prime sl_need_prime sl_inverse sl_choose sl_store sl_mix sl_take sl_wide sl_edge sl_pick sl_int sl_primes sl_prime sl_isint sl_same sl_noprime sl_kinds sl_clean sl_undivided sl_candidate sl_binomial sl_refusal sl_needed sl_inverted sl_primesright sl_inverseright sl_chooseright sl_law oslI_BadPrime ccs_BadPrime csl_BadPrime oslI_NoInverse ccs_NoInverse csl_NoInverse oslV : Array (Option Value)} {oc_is_whole kV_is_whole dc_is_whole pm_is_whole cd_is_whole ct_is_whole oc_lies_within kV_lies_within dc_lies_within pm_lies_within cd_lies_within ct_lies_within oc_is_prime kV_is_prime dc_is_prime pm_is_prime cd_is_prime ct_is_prime oc_need_prime kV_need_prime dc_need_prime pm_need_prime cd_need_prime ct_need_prime oc_inverse kV_inverse dc_inverse pm_inverse cd_inverse ct_inverse oc_choose kV_choose dc_choose pm_choose cd_choose ct_choose oc_store kV_store dc_store pm_store cd_store ct_store oc_mix kV_mix dc_mix pm_mix cd_mix ct_mix oc_take kV_take dc_take pm_take cd_take ct_take oc_wide kV_wide dc_wide pm_wide cd_wide ct_wide oc_edge kV_edge dc_edge pm_edge cd_edge ct_edge oc_pick kV_pick dc_pick pm_pick cd_pick ct_pick oc_int kV_int dc_int pm_int cd_int ct_int oc_primes kV_primes dc_primes pm_primes cd_primes ct_primes oc_prime kV_prime dc_prime pm_prime cd_prime ct_prime oc_isint kV_isint dc_isint pm_isint cd_isint ct_isint oc_same kV_same dc_same pm_same cd_same ct_same oc_noprime kV_noprime dc_noprime pm_noprime cd_noprime ct_noprime oc_kinds kV_kinds dc_kinds pm_kinds cd_kinds ct_kinds oc_clean kV_clean dc_clean pm_clean cd_clean ct_clean oc_undivided kV_undivided dc_undivided pm_undivided cd_undivided ct_undivided oc_candidate kV_candidate dc_candidate pm_candidate cd_candidate ct_candidate oc_binomial kV_binomial dc_binomial pm_binomial cd_binomial ct_binomial oc_refusal kV_refusal dc_refusal pm_refusal cd_refusal ct_refusal oc_needed kV_needed dc_needed pm_needed cd_needed ct_needed oc_inverted kV_inverted dc_inverted pm_inverted cd_inverted ct_inverted oc_primesright kV_primesright dc_primesright pm_primesright cd_primesright ct_primesright oc_inverseright kV_inverseright dc_inverseright pm_inverseright cd_inverseright ct_inverseright oc_chooseright kV_chooseright dc_chooseright pm_chooseright cd_chooseright ct_chooseright oc_law kV_law dc_law pm_law cd_law ct_law ocI_BadPrime docI_BadPrime pmI_BadPrime ctI_BadPrime ccl_BadPrime clc_BadPrime ocI_NoInverse docI_NoInverse pmI_NoInverse ctI_NoInverse ccl_NoInverse clc_NoInverse ocV docV pmV cdvV ctV : Value} { q_BadPrime qI_BadPrime q_NoInverse qI_NoInverse : Str} { bs_BadPrime bm_BadPrime sub_BadPrime bs_NoInverse bm_NoInverse sub_NoInverse : List Value} { sn_BadPrime sn_NoInverse : List Str} { ab_BadPrime ab_NoInverse : Bool} { col_BadPrime col_NoInverse : Option Bool} { k0_BadPrime k1_BadPrime k3_BadPrime k5_BadPrime k0_NoInverse k1_NoInverse k3_NoInverse k5_NoInverse : Option Value} { tk_BadPrime tf_BadPrime tk_NoInverse tf_NoInverse : Tok} { vs_BadPrime vs_NoInverse : Array Value} {tGP : Tok}
    (ptop : (P.main.scope.names.lookup ("super" : Str)).isSome = false)
    (a_is_whole : PySem.W.nsIn K mainGlobals "is_whole" = some (some (.ref f_is_whole)))
    (l_is_whole : K.lookup f_is_whole = some ⟨oc_is_whole, od_is_whole, .func (PySem.W.fnOf "is_whole" "is_whole" (defArgs s_is_whole) (defBody s_is_whole) (defScope s_is_whole) .none kV_is_whole dc_is_whole pm_is_whole an_is_whole cd_is_whole ct_is_whole), sl_is_whole⟩)
    (c_is_whole : PySem.W.codeIn K cd_is_whole "is_whole" = true)
    (k_is_whole : PySem.W.keepIn K (.ref f_is_whole) = true)
    (a_lies_within : PySem.W.nsIn K mainGlobals "lies_within" = some (some (.ref f_lies_within)))
    (l_lies_within : K.lookup f_lies_within = some ⟨oc_lies_within, od_lies_within, .func (PySem.W.fnOf "lies_within" "lies_within" (defArgs s_lies_within) (defBody s_lies_within) (defScope s_lies_within) .none kV_lies_within dc_lies_within pm_lies_within an_lies_within cd_lies_within ct_lies_within), sl_lies_within⟩)
    (c_lies_within : PySem.W.codeIn K cd_lies_within "lies_within" = true)
    (k_lies_within : PySem.W.keepIn K (.ref f_lies_within) = true)
    (a_is_prime : PySem.W.nsIn K mainGlobals "is_prime" = some (some (.ref f_is_prime)))
    (l_is_prime : K.lookup f_is_prime = some ⟨oc_is_prime, od_is_prime, .func (PySem.W.fnOf "is_prime" "is_prime" (defArgs s_is_prime) (defBody s_is_prime) (defScope s_is_prime) .none kV_is_prime dc_is_prime pm_is_prime an_is_prime cd_is_prime ct_is_prime), sl_is_prime⟩)
    (c_is_prime : PySem.W.codeIn K cd_is_prime "is_prime" = true)
    (k_is_prime : PySem.W.keepIn K (.ref f_is_prime) = true)
    (a_need_prime : PySem.W.nsIn K mainGlobals "need_prime" = some (some (.ref f_need_prime)))
    (l_need_prime : K.lookup f_need_prime = some ⟨oc_need_prime, od_need_prime, .func (PySem.W.fnOf "need_prime" "need_prime" (defArgs s_need_prime) (defBody s_need_prime) (defScope s_need_prime) .none kV_need_prime dc_need_prime pm_need_prime an_need_prime cd_need_prime ct_need_prime), sl_need_prime⟩)
    (c_need_prime : PySem.W.codeIn K cd_need_prime "need_prime" = true)
    (k_need_prime : PySem.W.keepIn K (.ref f_need_prime) = true)
    (a_inverse : PySem.W.nsIn K mainGlobals "inverse" = some (some (.ref f_inverse)))
    (l_inverse : K.lookup f_inverse = some ⟨oc_inverse, od_inverse, .func (PySem.W.fnOf "inverse" "inverse" (defArgs s_inverse) (defBody s_inverse) (defScope s_inverse) .none kV_inverse dc_inverse pm_inverse an_inverse cd_inverse ct_inverse), sl_inverse⟩)
    (c_inverse : PySem.W.codeIn K cd_inverse "inverse" = true)
    (k_inverse : PySem.W.keepIn K (.ref f_inverse) = true)
    (a_choose : PySem.W.nsIn K mainGlobals "choose" = some (some (.ref f_choose)))
    (l_choose : K.lookup f_choose = some ⟨oc_choose, od_choose, .func (PySem.W.fnOf "choose" "choose" (defArgs s_choose) (defBody s_choose) (defScope s_choose) .none kV_choose dc_choose pm_choose an_choose cd_choose ct_choose), sl_choose⟩)
    (c_choose : PySem.W.codeIn K cd_choose "choose" = true)
    (k_choose : PySem.W.keepIn K (.ref f_choose) = true)
    (a_store : PySem.W.nsIn K mainGlobals "_law_store" = some (some (.ref f_store)))
    (l_store : K.lookup f_store = some ⟨oc_store, od_store, .func (PySem.W.fnOf "_law_store" "_law_store" (defArgs s_store) (defBody s_store) (defScope s_store) .none kV_store dc_store pm_store an_store cd_store ct_store), sl_store⟩)
    (c_store : PySem.W.codeIn K cd_store "_law_store" = true)
    (k_store : PySem.W.keepIn K (.ref f_store) = true)
    (a_mix : PySem.W.nsIn K mainGlobals "_law_mix" = some (some (.ref f_mix)))
    (l_mix : K.lookup f_mix = some ⟨oc_mix, od_mix, .func (PySem.W.fnOf "_law_mix" "_law_mix" (defArgs s_mix) (defBody s_mix) (defScope s_mix) .none kV_mix dc_mix pm_mix an_mix cd_mix ct_mix), sl_mix⟩)
    (c_mix : PySem.W.codeIn K cd_mix "_law_mix" = true)
    (k_mix : PySem.W.keepIn K (.ref f_mix) = true)
    (a_take : PySem.W.nsIn K mainGlobals "_law_take" = some (some (.ref f_take)))
    (l_take : K.lookup f_take = some ⟨oc_take, od_take, .func (PySem.W.fnOf "_law_take" "_law_take" (defArgs s_take) (defBody s_take) (defScope s_take) .none kV_take dc_take pm_take an_take cd_take ct_take), sl_take⟩)
    (c_take : PySem.W.codeIn K cd_take "_law_take" = true)
    (k_take : PySem.W.keepIn K (.ref f_take) = true)
    (a_wide : PySem.W.nsIn K mainGlobals "_law_wide" = some (some (.ref f_wide)))
    (l_wide : K.lookup f_wide = some ⟨oc_wide, od_wide, .func (PySem.W.fnOf "_law_wide" "_law_wide" (defArgs s_wide) (defBody s_wide) (defScope s_wide) .none kV_wide dc_wide pm_wide an_wide cd_wide ct_wide), sl_wide⟩)
    (c_wide : PySem.W.codeIn K cd_wide "_law_wide" = true)
    (k_wide : PySem.W.keepIn K (.ref f_wide) = true)
    (a_edge : PySem.W.nsIn K mainGlobals "_law_edge" = some (some (.ref f_edge)))
    (l_edge : K.lookup f_edge = some ⟨oc_edge, od_edge, .func (PySem.W.fnOf "_law_edge" "_law_edge" (defArgs s_edge) (defBody s_edge) (defScope s_edge) .none kV_edge dc_edge pm_edge an_edge cd_edge ct_edge), sl_edge⟩)
    (c_edge : PySem.W.codeIn K cd_edge "_law_edge" = true)
    (k_edge : PySem.W.keepIn K (.ref f_edge) = true)
    (a_pick : PySem.W.nsIn K mainGlobals "_law_pick" = some (some (.ref f_pick)))
    (l_pick : K.lookup f_pick = some ⟨oc_pick, od_pick, .func (PySem.W.fnOf "_law_pick" "_law_pick" (defArgs s_pick) (defBody s_pick) (defScope s_pick) .none kV_pick dc_pick pm_pick an_pick cd_pick ct_pick), sl_pick⟩)
    (c_pick : PySem.W.codeIn K cd_pick "_law_pick" = true)
    (k_pick : PySem.W.keepIn K (.ref f_pick) = true)
    (a_int : PySem.W.nsIn K mainGlobals "_law_int" = some (some (.ref f_int)))
    (l_int : K.lookup f_int = some ⟨oc_int, od_int, .func (PySem.W.fnOf "_law_int" "_law_int" (defArgs s_int) (defBody s_int) (defScope s_int) .none kV_int dc_int pm_int an_int cd_int ct_int), sl_int⟩)
    (c_int : PySem.W.codeIn K cd_int "_law_int" = true)
    (k_int : PySem.W.keepIn K (.ref f_int) = true)
    (a_primes : PySem.W.nsIn K mainGlobals "_law_primes" = some (some (.ref f_primes)))
    (l_primes : K.lookup f_primes = some ⟨oc_primes, od_primes, .func (PySem.W.fnOf "_law_primes" "_law_primes" (defArgs s_primes) (defBody s_primes) (defScope s_primes) .none kV_primes dc_primes pm_primes an_primes cd_primes ct_primes), sl_primes⟩)
    (c_primes : PySem.W.codeIn K cd_primes "_law_primes" = true)
    (k_primes : PySem.W.keepIn K (.ref f_primes) = true)
    (a_prime : PySem.W.nsIn K mainGlobals "_law_prime" = some (some (.ref f_prime)))
    (l_prime : K.lookup f_prime = some ⟨oc_prime, od_prime, .func (PySem.W.fnOf "_law_prime" "_law_prime" (defArgs s_prime) (defBody s_prime) (defScope s_prime) .none kV_prime dc_prime pm_prime an_prime cd_prime ct_prime), sl_prime⟩)
    (c_prime : PySem.W.codeIn K cd_prime "_law_prime" = true)
    (k_prime : PySem.W.keepIn K (.ref f_prime) = true)
    (a_isint : PySem.W.nsIn K mainGlobals "_law_isint" = some (some (.ref f_isint)))
    (l_isint : K.lookup f_isint = some ⟨oc_isint, od_isint, .func (PySem.W.fnOf "_law_isint" "_law_isint" (defArgs s_isint) (defBody s_isint) (defScope s_isint) .none kV_isint dc_isint pm_isint an_isint cd_isint ct_isint), sl_isint⟩)
    (c_isint : PySem.W.codeIn K cd_isint "_law_isint" = true)
    (k_isint : PySem.W.keepIn K (.ref f_isint) = true)
    (a_same : PySem.W.nsIn K mainGlobals "_law_same" = some (some (.ref f_same)))
    (l_same : K.lookup f_same = some ⟨oc_same, od_same, .func (PySem.W.fnOf "_law_same" "_law_same" (defArgs s_same) (defBody s_same) (defScope s_same) .none kV_same dc_same pm_same an_same cd_same ct_same), sl_same⟩)
    (c_same : PySem.W.codeIn K cd_same "_law_same" = true)
    (k_same : PySem.W.keepIn K (.ref f_same) = true)
    (a_noprime : PySem.W.nsIn K mainGlobals "_law_noprime" = some (some (.ref f_noprime)))
    (l_noprime : K.lookup f_noprime = some ⟨oc_noprime, od_noprime, .func (PySem.W.fnOf "_law_noprime" "_law_noprime" (defArgs s_noprime) (defBody s_noprime) (defScope s_noprime) .none kV_noprime dc_noprime pm_noprime an_noprime cd_noprime ct_noprime), sl_noprime⟩)
    (c_noprime : PySem.W.codeIn K cd_noprime "_law_noprime" = true)
    (k_noprime : PySem.W.keepIn K (.ref f_noprime) = true)
    (a_kinds : PySem.W.nsIn K mainGlobals "_law_kinds" = some (some (.ref f_kinds)))
    (l_kinds : K.lookup f_kinds = some ⟨oc_kinds, od_kinds, .func (PySem.W.fnOf "_law_kinds" "_law_kinds" (defArgs s_kinds) (defBody s_kinds) (defScope s_kinds) .none kV_kinds dc_kinds pm_kinds an_kinds cd_kinds ct_kinds), sl_kinds⟩)
    (c_kinds : PySem.W.codeIn K cd_kinds "_law_kinds" = true)
    (k_kinds : PySem.W.keepIn K (.ref f_kinds) = true)
    (a_clean : PySem.W.nsIn K mainGlobals "_law_clean" = some (some (.ref f_clean)))
    (l_clean : K.lookup f_clean = some ⟨oc_clean, od_clean, .func (PySem.W.fnOf "_law_clean" "_law_clean" (defArgs s_clean) (defBody s_clean) (defScope s_clean) .none kV_clean dc_clean pm_clean an_clean cd_clean ct_clean), sl_clean⟩)
    (c_clean : PySem.W.codeIn K cd_clean "_law_clean" = true)
    (k_clean : PySem.W.keepIn K (.ref f_clean) = true)
    (a_undivided : PySem.W.nsIn K mainGlobals "_law_undivided" = some (some (.ref f_undivided)))
    (l_undivided : K.lookup f_undivided = some ⟨oc_undivided, od_undivided, .func (PySem.W.fnOf "_law_undivided" "_law_undivided" (defArgs s_undivided) (defBody s_undivided) (defScope s_undivided) .none kV_undivided dc_undivided pm_undivided an_undivided cd_undivided ct_undivided), sl_undivided⟩)
    (c_undivided : PySem.W.codeIn K cd_undivided "_law_undivided" = true)
    (k_undivided : PySem.W.keepIn K (.ref f_undivided) = true)
    (a_candidate : PySem.W.nsIn K mainGlobals "_law_candidate" = some (some (.ref f_candidate)))
    (l_candidate : K.lookup f_candidate = some ⟨oc_candidate, od_candidate, .func (PySem.W.fnOf "_law_candidate" "_law_candidate" (defArgs s_candidate) (defBody s_candidate) (defScope s_candidate) .none kV_candidate dc_candidate pm_candidate an_candidate cd_candidate ct_candidate), sl_candidate⟩)
    (c_candidate : PySem.W.codeIn K cd_candidate "_law_candidate" = true)
    (k_candidate : PySem.W.keepIn K (.ref f_candidate) = true)
    (a_binomial : PySem.W.nsIn K mainGlobals "_law_binomial" = some (some (.ref f_binomial)))
    (l_binomial : K.lookup f_binomial = some ⟨oc_binomial, od_binomial, .func (PySem.W.fnOf "_law_binomial" "_law_binomial" (defArgs s_binomial) (defBody s_binomial) (defScope s_binomial) .none kV_binomial dc_binomial pm_binomial an_binomial cd_binomial ct_binomial), sl_binomial⟩)
    (c_binomial : PySem.W.codeIn K cd_binomial "_law_binomial" = true)
    (k_binomial : PySem.W.keepIn K (.ref f_binomial) = true)
    (a_refusal : PySem.W.nsIn K mainGlobals "_law_refusal" = some (some (.ref f_refusal)))
    (l_refusal : K.lookup f_refusal = some ⟨oc_refusal, od_refusal, .func (PySem.W.fnOf "_law_refusal" "_law_refusal" (defArgs s_refusal) (defBody s_refusal) (defScope s_refusal) .none kV_refusal dc_refusal pm_refusal an_refusal cd_refusal ct_refusal), sl_refusal⟩)
    (c_refusal : PySem.W.codeIn K cd_refusal "_law_refusal" = true)
    (k_refusal : PySem.W.keepIn K (.ref f_refusal) = true)
    (a_needed : PySem.W.nsIn K mainGlobals "_law_needed" = some (some (.ref f_needed)))
    (l_needed : K.lookup f_needed = some ⟨oc_needed, od_needed, .func (PySem.W.fnOf "_law_needed" "_law_needed" (defArgs s_needed) (defBody s_needed) (defScope s_needed) .none kV_needed dc_needed pm_needed an_needed cd_needed ct_needed), sl_needed⟩)
    (c_needed : PySem.W.codeIn K cd_needed "_law_needed" = true)
    (k_needed : PySem.W.keepIn K (.ref f_needed) = true)
    (a_inverted : PySem.W.nsIn K mainGlobals "_law_inverted" = some (some (.ref f_inverted)))
    (l_inverted : K.lookup f_inverted = some ⟨oc_inverted, od_inverted, .func (PySem.W.fnOf "_law_inverted" "_law_inverted" (defArgs s_inverted) (defBody s_inverted) (defScope s_inverted) .none kV_inverted dc_inverted pm_inverted an_inverted cd_inverted ct_inverted), sl_inverted⟩)
    (c_inverted : PySem.W.codeIn K cd_inverted "_law_inverted" = true)
    (k_inverted : PySem.W.keepIn K (.ref f_inverted) = true)
    (a_primesright : PySem.W.nsIn K mainGlobals "_law_primesright" = some (some (.ref f_primesright)))
    (l_primesright : K.lookup f_primesright = some ⟨oc_primesright, od_primesright, .func (PySem.W.fnOf "_law_primesright" "_law_primesright" (defArgs s_primesright) (defBody s_primesright) (defScope s_primesright) .none kV_primesright dc_primesright pm_primesright an_primesright cd_primesright ct_primesright), sl_primesright⟩)
    (c_primesright : PySem.W.codeIn K cd_primesright "_law_primesright" = true)
    (k_primesright : PySem.W.keepIn K (.ref f_primesright) = true)
    (a_inverseright : PySem.W.nsIn K mainGlobals "_law_inverseright" = some (some (.ref f_inverseright)))
    (l_inverseright : K.lookup f_inverseright = some ⟨oc_inverseright, od_inverseright, .func (PySem.W.fnOf "_law_inverseright" "_law_inverseright" (defArgs s_inverseright) (defBody s_inverseright) (defScope s_inverseright) .none kV_inverseright dc_inverseright pm_inverseright an_inverseright cd_inverseright ct_inverseright), sl_inverseright⟩)
    (c_inverseright : PySem.W.codeIn K cd_inverseright "_law_inverseright" = true)
    (k_inverseright : PySem.W.keepIn K (.ref f_inverseright) = true)
    (a_chooseright : PySem.W.nsIn K mainGlobals "_law_chooseright" = some (some (.ref f_chooseright)))
    (l_chooseright : K.lookup f_chooseright = some ⟨oc_chooseright, od_chooseright, .func (PySem.W.fnOf "_law_chooseright" "_law_chooseright" (defArgs s_chooseright) (defBody s_chooseright) (defScope s_chooseright) .none kV_chooseright dc_chooseright pm_chooseright an_chooseright cd_chooseright ct_chooseright), sl_chooseright⟩)
    (c_chooseright : PySem.W.codeIn K cd_chooseright "_law_chooseright" = true)
    (k_chooseright : PySem.W.keepIn K (.ref f_chooseright) = true)
    (a_law : PySem.W.nsIn K mainGlobals "law" = some (some (.ref f_law)))
    (l_law : K.lookup f_law = some ⟨oc_law, od_law, .func (PySem.W.fnOf "law" "law" (defArgs s_law) (defBody s_law) (defScope s_law) .none kV_law dc_law pm_law an_law cd_law ct_law), sl_law⟩)
    (c_law : PySem.W.codeIn K cd_law "law" = true)
    (k_law : PySem.W.keepIn K (.ref f_law) = true)
    (b_int : PySem.W.nsIn K mainGlobals "int" = some none)
    (b_bool : PySem.W.nsIn K mainGlobals "bool" = some none)
    (b_isinstance : PySem.W.nsIn K mainGlobals "isinstance" = some none)
    (b_range : PySem.W.nsIn K mainGlobals "range" = some none)
    (b_min : PySem.W.nsIn K mainGlobals "min" = some none)
    (b_max : PySem.W.nsIn K mainGlobals "max" = some none)
    (b_abs : PySem.W.nsIn K mainGlobals "abs" = some none)
    (b_len : PySem.W.nsIn K mainGlobals "len" = some none)
    (b_list : PySem.W.nsIn K mainGlobals "list" = some none)
    (b_reversed : PySem.W.nsIn K mainGlobals "reversed" = some none)
    (b_str : PySem.W.nsIn K mainGlobals "str" = some none)
    (b_dict : PySem.W.nsIn K mainGlobals "dict" = some none)
    (b_tuple : PySem.W.nsIn K mainGlobals "tuple" = some none)
    (b_ValueError : PySem.W.nsIn K mainGlobals "ValueError" = some none)
    (b_super : PySem.W.nsIn K mainGlobals "super" = some none)
    (g_VaultError : PySem.W.nsIn K mainGlobals "VaultError" = some (some (.ref C_VaultError)))
    (g_TooMany : PySem.W.nsIn K mainGlobals "TooMany" = some (some (.ref C_TooMany)))
    (g_NumberError : PySem.W.nsIn K mainGlobals "NumberError" = some (some (.ref C_NumberError)))
    (g_BadPrime : PySem.W.nsIn K mainGlobals "BadPrime" = some (some (.ref C_BadPrime)))
    (g_NoInverse : PySem.W.nsIn K mainGlobals "NoInverse" = some (some (.ref C_NoInverse)))
    (g_NoNumber : PySem.W.nsIn K mainGlobals "NoNumber" = some (some (.ref C_NoNumber)))
    (g_BadTable : PySem.W.nsIn K mainGlobals "BadTable" = some (some (.ref C_BadTable)))
    (g_BadCells : PySem.W.nsIn K mainGlobals "BadCells" = some (some (.ref C_BadCells)))
    (g_TextError : PySem.W.nsIn K mainGlobals "TextError" = some (some (.ref C_TextError)))
    (g_ShapeError : PySem.W.nsIn K mainGlobals "ShapeError" = some (some (.ref C_ShapeError)))
    (g_PlanError : PySem.W.nsIn K mainGlobals "PlanError" = some (some (.ref C_PlanError)))
    (g_CourseError : PySem.W.nsIn K mainGlobals "CourseError" = some (some (.ref C_CourseError)))
    (g_KnowError : PySem.W.nsIn K mainGlobals "KnowError" = some (some (.ref C_KnowError)))
    (g_PaperError : PySem.W.nsIn K mainGlobals "PaperError" = some (some (.ref C_PaperError)))
    (gc_GREATEST_PRIME : PySem.W.nsIn K mainGlobals "GREATEST_PRIME" = some (some (.int 97 tGP)))
    (N_th : nsIn K cStatics "thirdparty.any" = some none)
    (N_sp : specialIn K (.builtin "object.__class__") "__get__" = some (some (.builtin "getset_descriptor.__get__")))
    (N_tk : takesIn K (.builtin "object.__class__") = some true)
    (L_lV : K.lookup fV = some ⟨ocV, odV, .func (fnOf "__init__" "VaultError.__init__" (rootArgs pV) (rootBody qV) rootScope .none .none docV pmV anV cdvV ctV), oslV⟩)
    (L_cV : codeIn K cdvV "VaultError.__init__" = true)
    (L_tV : typeIn K (.ref fV) = some (.type "function"))
    (L_fV : fnIn K fV = true)
    (x_b : PySem.W.subIn K (.ref C_VaultError) (.type "BaseException") = some true)
    (x_i : PySem.W.isClsIn K C_VaultError = true)
    (x_t : PySem.W.typeIn K (.ref C_VaultError) = some (.type "type"))
    (xL_BadPrime : K.lookup C_BadPrime = some (excClassObj "BadPrime" q_BadPrime C_BadPrime N_BadPrime bs_BadPrime bm_BadPrime true sn_BadPrime sub_BadPrime ab_BadPrime col_BadPrime dd_BadPrime k0_BadPrime k1_BadPrime (some (.str "BadPrime" tk_BadPrime)) k3_BadPrime k5_BadPrime "ValueError.__new__"))
    (sa_BadPrime : findIn K (.ref C_BadPrime) "__setattr__" = some (some (.builtin "object.__setattr__")))
    (ga_BadPrime : findIn K (.ref C_BadPrime) "__getattribute__" = some (some (.builtin "BaseException.__getattribute__")))
    (gg_BadPrime : findIn K (.ref C_BadPrime) "__getattr__" = some none)
    (cl_BadPrime : findIn K (.ref C_BadPrime) "__class__" = some (some (.builtin "object.__class__")))
    (mo_BadPrime : mroIn K C_BadPrime (.type "object") = some true)
    (nw_BadPrime : findIn K (.ref C_BadPrime) "word" = some none)
    (ex_BadPrime : subIn K (.ref C_BadPrime) (.type "BaseException") = some true)
    (ty_BadPrime : typeIn K (.ref C_BadPrime) = some (.type "type"))
    (kp_BadPrime : keepIn K (.ref C_BadPrime) = true)
    (hd_BadPrime : hasDictIn K C_BadPrime = true)
    (nn_BadPrime : findCls K (.ref C_BadPrime) (.type "type") "__name__" = some (.get (.builtin "getset_descriptor.__get__") (.builtin "type.__name__") (.ref C_BadPrime) (.type "type")))
    (xb_BadPrime : refsVE bm_BadPrime = true)
    (iC_BadPrime : findIn K (.ref C_BadPrime) "__init__" = some (some (.ref fI_BadPrime)))
    (tI_BadPrime : typeIn K (.ref fI_BadPrime) = some (.type "function"))
    (up_BadPrime : ks_superIn K C_BadPrime C_BadPrime "__init__" = some (some (.ref fV)))
    (lI_BadPrime : K.lookup fI_BadPrime = some ⟨ocI_BadPrime, odI_BadPrime, .func (ksFn "__init__" qI_BadPrime (leafArgs ⟨15, 17, 15, 21⟩ [("value", ⟨15, 23, 15, 28⟩)]) (leafBody r_BadPrime st_BadPrime) (leafScope ["value"]) .none .none docI_BadPrime pmI_BadPrime anI_BadPrime (.ref cda_BadPrime) ctI_BadPrime cc_BadPrime), oslI_BadPrime⟩)
    (cI_BadPrime : codeIn K (.ref cda_BadPrime) qI_BadPrime = true)
    (lcd_BadPrime : K.lookup cda_BadPrime = some ⟨ccl_BadPrime, cdd_BadPrime, .fields vs_BadPrime, ccs_BadPrime⟩)
    (fl_BadPrime : vs_BadPrime[2]? = some (.str P.main.file tf_BadPrime))
    (lcc_BadPrime : K.lookup cc_BadPrime = some ⟨clc_BadPrime, cld_BadPrime, .cell (some (.ref C_BadPrime)), csl_BadPrime⟩)
    (me_BadPrime : mroIn K C_BadPrime (.ref C_BadPrime) = some true)
    (nc_value_BadPrime : findIn K (.ref C_BadPrime) "value" = some none)
    (xs_BadPrime : PySem.W.subIn K (.ref C_BadPrime) (.ref C_VaultError) = some true)
    (q_VaultError_BadPrime : PySem.W.kitOne K (.ref C_BadPrime) (.ref C_VaultError) = some true)
    (q_TooMany_BadPrime : PySem.W.kitOne K (.ref C_BadPrime) (.ref C_TooMany) = some false)
    (q_NumberError_BadPrime : PySem.W.kitOne K (.ref C_BadPrime) (.ref C_NumberError) = some true)
    (q_BadPrime_BadPrime : PySem.W.kitOne K (.ref C_BadPrime) (.ref C_BadPrime) = some true)
    (q_NoInverse_BadPrime : PySem.W.kitOne K (.ref C_BadPrime) (.ref C_NoInverse) = some false)
    (q_NoNumber_BadPrime : PySem.W.kitOne K (.ref C_BadPrime) (.ref C_NoNumber) = some false)
    (q_BadTable_BadPrime : PySem.W.kitOne K (.ref C_BadPrime) (.ref C_BadTable) = some false)
    (q_BadCells_BadPrime : PySem.W.kitOne K (.ref C_BadPrime) (.ref C_BadCells) = some false)
    (q_TextError_BadPrime : PySem.W.kitOne K (.ref C_BadPrime) (.ref C_TextError) = some false)
    (q_ShapeError_BadPrime : PySem.W.kitOne K (.ref C_BadPrime) (.ref C_ShapeError) = some false)
    (q_PlanError_BadPrime : PySem.W.kitOne K (.ref C_BadPrime) (.ref C_PlanError) = some false)
    (q_CourseError_BadPrime : PySem.W.kitOne K (.ref C_BadPrime) (.ref C_CourseError) = some false)
    (q_KnowError_BadPrime : PySem.W.kitOne K (.ref C_BadPrime) (.ref C_KnowError) = some false)
    (q_PaperError_BadPrime : PySem.W.kitOne K (.ref C_BadPrime) (.ref C_PaperError) = some false)
    (q_Value_BadPrime : PySem.W.kitOne K (.ref C_BadPrime) (.type "ValueError") = some true)
    (xL_NoInverse : K.lookup C_NoInverse = some (excClassObj "NoInverse" q_NoInverse C_NoInverse N_NoInverse bs_NoInverse bm_NoInverse true sn_NoInverse sub_NoInverse ab_NoInverse col_NoInverse dd_NoInverse k0_NoInverse k1_NoInverse (some (.str "NoInverse" tk_NoInverse)) k3_NoInverse k5_NoInverse "ValueError.__new__"))
    (sa_NoInverse : findIn K (.ref C_NoInverse) "__setattr__" = some (some (.builtin "object.__setattr__")))
    (ga_NoInverse : findIn K (.ref C_NoInverse) "__getattribute__" = some (some (.builtin "BaseException.__getattribute__")))
    (gg_NoInverse : findIn K (.ref C_NoInverse) "__getattr__" = some none)
    (cl_NoInverse : findIn K (.ref C_NoInverse) "__class__" = some (some (.builtin "object.__class__")))
    (mo_NoInverse : mroIn K C_NoInverse (.type "object") = some true)
    (nw_NoInverse : findIn K (.ref C_NoInverse) "word" = some none)
    (ex_NoInverse : subIn K (.ref C_NoInverse) (.type "BaseException") = some true)
    (ty_NoInverse : typeIn K (.ref C_NoInverse) = some (.type "type"))
    (kp_NoInverse : keepIn K (.ref C_NoInverse) = true)
    (hd_NoInverse : hasDictIn K C_NoInverse = true)
    (nn_NoInverse : findCls K (.ref C_NoInverse) (.type "type") "__name__" = some (.get (.builtin "getset_descriptor.__get__") (.builtin "type.__name__") (.ref C_NoInverse) (.type "type")))
    (xb_NoInverse : refsVE bm_NoInverse = true)
    (iC_NoInverse : findIn K (.ref C_NoInverse) "__init__" = some (some (.ref fI_NoInverse)))
    (tI_NoInverse : typeIn K (.ref fI_NoInverse) = some (.type "function"))
    (up_NoInverse : ks_superIn K C_NoInverse C_NoInverse "__init__" = some (some (.ref fV)))
    (lI_NoInverse : K.lookup fI_NoInverse = some ⟨ocI_NoInverse, odI_NoInverse, .func (ksFn "__init__" qI_NoInverse (leafArgs ⟨20, 17, 20, 21⟩ [("value", ⟨20, 23, 20, 28⟩)]) (leafBody r_NoInverse st_NoInverse) (leafScope ["value"]) .none .none docI_NoInverse pmI_NoInverse anI_NoInverse (.ref cda_NoInverse) ctI_NoInverse cc_NoInverse), oslI_NoInverse⟩)
    (cI_NoInverse : codeIn K (.ref cda_NoInverse) qI_NoInverse = true)
    (lcd_NoInverse : K.lookup cda_NoInverse = some ⟨ccl_NoInverse, cdd_NoInverse, .fields vs_NoInverse, ccs_NoInverse⟩)
    (fl_NoInverse : vs_NoInverse[2]? = some (.str P.main.file tf_NoInverse))
    (lcc_NoInverse : K.lookup cc_NoInverse = some ⟨clc_NoInverse, cld_NoInverse, .cell (some (.ref C_NoInverse)), csl_NoInverse⟩)
    (me_NoInverse : mroIn K C_NoInverse (.ref C_NoInverse) = some true)
    (nc_value_NoInverse : findIn K (.ref C_NoInverse) "value" = some none)
    (xs_NoInverse : PySem.W.subIn K (.ref C_NoInverse) (.ref C_VaultError) = some true)
    (q_VaultError_NoInverse : PySem.W.kitOne K (.ref C_NoInverse) (.ref C_VaultError) = some true)
    (q_TooMany_NoInverse : PySem.W.kitOne K (.ref C_NoInverse) (.ref C_TooMany) = some false)
    (q_NumberError_NoInverse : PySem.W.kitOne K (.ref C_NoInverse) (.ref C_NumberError) = some true)
    (q_BadPrime_NoInverse : PySem.W.kitOne K (.ref C_NoInverse) (.ref C_BadPrime) = some false)
    (q_NoInverse_NoInverse : PySem.W.kitOne K (.ref C_NoInverse) (.ref C_NoInverse) = some true)
    (q_NoNumber_NoInverse : PySem.W.kitOne K (.ref C_NoInverse) (.ref C_NoNumber) = some false)
    (q_BadTable_NoInverse : PySem.W.kitOne K (.ref C_NoInverse) (.ref C_BadTable) = some false)
    (q_BadCells_NoInverse : PySem.W.kitOne K (.ref C_NoInverse) (.ref C_BadCells) = some false)
    (q_TextError_NoInverse : PySem.W.kitOne K (.ref C_NoInverse) (.ref C_TextError) = some false)
    (q_ShapeError_NoInverse : PySem.W.kitOne K (.ref C_NoInverse) (.ref C_ShapeError) = some false)
    (q_PlanError_NoInverse : PySem.W.kitOne K (.ref C_NoInverse) (.ref C_PlanError) = some false)
    (q_CourseError_NoInverse : PySem.W.kitOne K (.ref C_NoInverse) (.ref C_CourseError) = some false)
    (q_KnowError_NoInverse : PySem.W.kitOne K (.ref C_NoInverse) (.ref C_KnowError) = some false)
    (q_PaperError_NoInverse : PySem.W.kitOne K (.ref C_NoInverse) (.ref C_PaperError) = some false)
    (q_Value_NoInverse : PySem.W.kitOne K (.ref C_NoInverse) (.type "ValueError") = some true) :
    ∃ fd : FuncData, (∀ (s : Shared) (v : Value), BindsTo s fd ⟨[v], []⟩ [("script", v)]) ∧ ∀ base : Heap, K.In base → base.Ns mainGlobals mg → FnOk P w K mg base CX0 11 fa fd ["script"] (spLaw K) := by
  have e := hfa.symm.trans (PySem.W.mg_of X G a_law)
  cases e
  have root : Root K fV := ⟨⟨_, _, _, _, _, _, _, _, _, qV, L_lV, L_cV, by decide⟩, L_tV⟩
  have kind_BadPrime : Kind K C_BadPrime "BadPrime" := { cls := ⟨_, _, _, _, _, _, _, _, _, _, _, _, _, _, xL_BadPrime, xb_BadPrime⟩, sa := sa_BadPrime, ga := ga_BadPrime, gg := gg_BadPrime, cl := cl_BadPrime, sp := N_sp, tk := N_tk, mo := mo_BadPrime, nw := nw_BadPrime, ex := ex_BadPrime, ty := ty_BadPrime, kp := kp_BadPrime, hd := hd_BadPrime, nn := nn_BadPrime, th := N_th, sz := by decide }
  have hb_BadPrime : ∀ (s : Shared) (x : Value) (us : List Value), us.length = (["value"] : List Str).length → BindsTo s (ksFn "__init__" qI_BadPrime (leafArgs ⟨15, 17, 15, 21⟩ [("value", ⟨15, 23, 15, 28⟩)]) (leafBody r_BadPrime st_BadPrime) (leafScope ["value"]) .none .none docI_BadPrime pmI_BadPrime anI_BadPrime (.ref cda_BadPrime) ctI_BadPrime cc_BadPrime) ⟨x :: us, []⟩ ((("self" : Str) :: ["value"]).zip (x :: us)) := fun s x us hl => match us, hl with
    | [_], _ => .of_eq rfl
  have nf_BadPrime : ∀ f ∈ (["value"] : List Str), findIn K (.ref C_BadPrime) f = some none ∧ (f == ("__debug__" : Str)) = false ∧ (leafScope ["value"]).names.lookup f = some .local ∧ ¬ f = "self" := fun f hf => by
    simp only [List.mem_cons, List.mem_nil_iff, or_false] at hf
    rcases hf with rfl
    · exact ⟨nc_value_BadPrime, by decide, by decide, by decide⟩
  have leaf_BadPrime : Leaf P K mg C_BadPrime fV fI_BadPrime "BadPrime" ["value"] := { kind := kind_BadPrime, root := root, top := ptop, ms := PySem.W.mg_none_of X G b_super, iC := iC_BadPrime, tI := tI_BadPrime, up := up_BadPrime, fV := L_fV, fn := ⟨qI_BadPrime, _, _, _, _, _, _, _, _, _, _, [("value", ⟨15, 23, 15, 28⟩)], r_BadPrime, st_BadPrime, _, _, _, _, _, _, _, _, lI_BadPrime, cI_BadPrime, lcd_BadPrime, fl_BadPrime, by decide, lcc_BadPrime, .cons _ _ _ _ (.nil), hb_BadPrime⟩, nf := nf_BadPrime, nd := by decide, few := by decide, ks := by decide, kc := by decide, me := me_BadPrime }
  have ix_BadPrime := exm_of2 x_b x_i x_t xs_BadPrime
  have kind_NoInverse : Kind K C_NoInverse "NoInverse" := { cls := ⟨_, _, _, _, _, _, _, _, _, _, _, _, _, _, xL_NoInverse, xb_NoInverse⟩, sa := sa_NoInverse, ga := ga_NoInverse, gg := gg_NoInverse, cl := cl_NoInverse, sp := N_sp, tk := N_tk, mo := mo_NoInverse, nw := nw_NoInverse, ex := ex_NoInverse, ty := ty_NoInverse, kp := kp_NoInverse, hd := hd_NoInverse, nn := nn_NoInverse, th := N_th, sz := by decide }
  have hb_NoInverse : ∀ (s : Shared) (x : Value) (us : List Value), us.length = (["value"] : List Str).length → BindsTo s (ksFn "__init__" qI_NoInverse (leafArgs ⟨20, 17, 20, 21⟩ [("value", ⟨20, 23, 20, 28⟩)]) (leafBody r_NoInverse st_NoInverse) (leafScope ["value"]) .none .none docI_NoInverse pmI_NoInverse anI_NoInverse (.ref cda_NoInverse) ctI_NoInverse cc_NoInverse) ⟨x :: us, []⟩ ((("self" : Str) :: ["value"]).zip (x :: us)) := fun s x us hl => match us, hl with
    | [_], _ => .of_eq rfl
  have nf_NoInverse : ∀ f ∈ (["value"] : List Str), findIn K (.ref C_NoInverse) f = some none ∧ (f == ("__debug__" : Str)) = false ∧ (leafScope ["value"]).names.lookup f = some .local ∧ ¬ f = "self" := fun f hf => by
    simp only [List.mem_cons, List.mem_nil_iff, or_false] at hf
    rcases hf with rfl
    · exact ⟨nc_value_NoInverse, by decide, by decide, by decide⟩
  have leaf_NoInverse : Leaf P K mg C_NoInverse fV fI_NoInverse "NoInverse" ["value"] := { kind := kind_NoInverse, root := root, top := ptop, ms := PySem.W.mg_none_of X G b_super, iC := iC_NoInverse, tI := tI_NoInverse, up := up_NoInverse, fV := L_fV, fn := ⟨qI_NoInverse, _, _, _, _, _, _, _, _, _, _, [("value", ⟨20, 23, 20, 28⟩)], r_NoInverse, st_NoInverse, _, _, _, _, _, _, _, _, lI_NoInverse, cI_NoInverse, lcd_NoInverse, fl_NoInverse, by decide, lcc_NoInverse, .cons _ _ _ _ (.nil), hb_NoInverse⟩, nf := nf_NoInverse, nd := by decide, few := by decide, ks := by decide, kc := by decide, me := me_NoInverse }
  have ix_NoInverse := exm_of2 x_b x_i x_t xs_NoInverse
  have T : Txt P K mg C_VaultError C_TooMany C_NumberError C_BadPrime C_NoInverse C_NoNumber C_BadTable C_BadCells C_TextError C_ShapeError C_PlanError C_CourseError C_KnowError C_PaperError fV fI_BadPrime fI_NoInverse := { b_int := PySem.W.mg_none_of X G b_int, b_bool := PySem.W.mg_none_of X G b_bool, b_isinstance := PySem.W.mg_none_of X G b_isinstance, b_range := PySem.W.mg_none_of X G b_range, b_min := PySem.W.mg_none_of X G b_min, b_max := PySem.W.mg_none_of X G b_max, b_abs := PySem.W.mg_none_of X G b_abs, b_len := PySem.W.mg_none_of X G b_len, b_list := PySem.W.mg_none_of X G b_list, b_reversed := PySem.W.mg_none_of X G b_reversed, b_str := PySem.W.mg_none_of X G b_str, b_dict := PySem.W.mg_none_of X G b_dict, b_tuple := PySem.W.mg_none_of X G b_tuple, b_ValueError := PySem.W.mg_none_of X G b_ValueError, g_VaultError := PySem.W.mg_of X G g_VaultError, g_TooMany := PySem.W.mg_of X G g_TooMany, g_NumberError := PySem.W.mg_of X G g_NumberError, g_BadPrime := PySem.W.mg_of X G g_BadPrime, g_NoInverse := PySem.W.mg_of X G g_NoInverse, g_NoNumber := PySem.W.mg_of X G g_NoNumber, g_BadTable := PySem.W.mg_of X G g_BadTable, g_BadCells := PySem.W.mg_of X G g_BadCells, g_TextError := PySem.W.mg_of X G g_TextError, g_ShapeError := PySem.W.mg_of X G g_ShapeError, g_PlanError := PySem.W.mg_of X G g_PlanError, g_CourseError := PySem.W.mg_of X G g_CourseError, g_KnowError := PySem.W.mg_of X G g_KnowError, g_PaperError := PySem.W.mg_of X G g_PaperError, lf_BadPrime := leaf_BadPrime, ix_BadPrime := ix_BadPrime, k_BadPrime_VaultError := q_VaultError_BadPrime, k_BadPrime_TooMany := q_TooMany_BadPrime, k_BadPrime_NumberError := q_NumberError_BadPrime, k_BadPrime_BadPrime := q_BadPrime_BadPrime, k_BadPrime_NoInverse := q_NoInverse_BadPrime, k_BadPrime_NoNumber := q_NoNumber_BadPrime, k_BadPrime_BadTable := q_BadTable_BadPrime, k_BadPrime_BadCells := q_BadCells_BadPrime, k_BadPrime_TextError := q_TextError_BadPrime, k_BadPrime_ShapeError := q_ShapeError_BadPrime, k_BadPrime_PlanError := q_PlanError_BadPrime, k_BadPrime_CourseError := q_CourseError_BadPrime, k_BadPrime_KnowError := q_KnowError_BadPrime, k_BadPrime_PaperError := q_PaperError_BadPrime, k_BadPrime_ValueError := q_Value_BadPrime, lf_NoInverse := leaf_NoInverse, ix_NoInverse := ix_NoInverse, k_NoInverse_VaultError := q_VaultError_NoInverse, k_NoInverse_TooMany := q_TooMany_NoInverse, k_NoInverse_NumberError := q_NumberError_NoInverse, k_NoInverse_BadPrime := q_BadPrime_NoInverse, k_NoInverse_NoInverse := q_NoInverse_NoInverse, k_NoInverse_NoNumber := q_NoNumber_NoInverse, k_NoInverse_BadTable := q_BadTable_NoInverse, k_NoInverse_BadCells := q_BadCells_NoInverse, k_NoInverse_TextError := q_TextError_NoInverse, k_NoInverse_ShapeError := q_ShapeError_NoInverse, k_NoInverse_PlanError := q_PlanError_NoInverse, k_NoInverse_CourseError := q_CourseError_NoInverse, k_NoInverse_KnowError := q_KnowError_NoInverse, k_NoInverse_PaperError := q_PaperError_NoInverse, k_NoInverse_ValueError := q_Value_NoInverse, g_GREATEST_PRIME := ⟨_, PySem.W.mg_of X G gc_GREATEST_PRIME⟩ }
  have F_is_whole := fun_mk (st := s_is_whole) l_is_whole c_is_whole k_is_whole
  have D_is_whole : Def K mg "is_whole" s_is_whole p_is_whole f_is_whole _ := ⟨F_is_whole, PySem.W.mg_of X G a_is_whole, F_is_whole.binds (ps := p_is_whole) fun _ _ _ _ _ _ us hl => match us, hl with | [_], _ => rfl⟩
  have F_lies_within := fun_mk (st := s_lies_within) l_lies_within c_lies_within k_lies_within
  have D_lies_within : Def K mg "lies_within" s_lies_within p_lies_within f_lies_within _ := ⟨F_lies_within, PySem.W.mg_of X G a_lies_within, F_lies_within.binds (ps := p_lies_within) fun _ _ _ _ _ _ us hl => match us, hl with | [_, _, _], _ => rfl⟩
  have F_is_prime := fun_mk (st := s_is_prime) l_is_prime c_is_prime k_is_prime
  have D_is_prime : Def K mg "is_prime" s_is_prime p_is_prime f_is_prime _ := ⟨F_is_prime, PySem.W.mg_of X G a_is_prime, F_is_prime.binds (ps := p_is_prime) fun _ _ _ _ _ _ us hl => match us, hl with | [_], _ => rfl⟩
  have F_need_prime := fun_mk (st := s_need_prime) l_need_prime c_need_prime k_need_prime
  have D_need_prime : Def K mg "need_prime" s_need_prime p_need_prime f_need_prime _ := ⟨F_need_prime, PySem.W.mg_of X G a_need_prime, F_need_prime.binds (ps := p_need_prime) fun _ _ _ _ _ _ us hl => match us, hl with | [_], _ => rfl⟩
  have F_inverse := fun_mk (st := s_inverse) l_inverse c_inverse k_inverse
  have D_inverse : Def K mg "inverse" s_inverse p_inverse f_inverse _ := ⟨F_inverse, PySem.W.mg_of X G a_inverse, F_inverse.binds (ps := p_inverse) fun _ _ _ _ _ _ us hl => match us, hl with | [_, _], _ => rfl⟩
  have F_choose := fun_mk (st := s_choose) l_choose c_choose k_choose
  have D_choose : Def K mg "choose" s_choose p_choose f_choose _ := ⟨F_choose, PySem.W.mg_of X G a_choose, F_choose.binds (ps := p_choose) fun _ _ _ _ _ _ us hl => match us, hl with | [_, _], _ => rfl⟩
  have F_store := fun_mk (st := s_store) l_store c_store k_store
  have D_store : Def K mg "_law_store" s_store p_store f_store _ := ⟨F_store, PySem.W.mg_of X G a_store, F_store.binds (ps := p_store) fun _ _ _ _ _ _ us hl => match us, hl with | [_], _ => rfl⟩
  have F_mix := fun_mk (st := s_mix) l_mix c_mix k_mix
  have D_mix : Def K mg "_law_mix" s_mix p_mix f_mix _ := ⟨F_mix, PySem.W.mg_of X G a_mix, F_mix.binds (ps := p_mix) fun _ _ _ _ _ _ us hl => match us, hl with | [_, _], _ => rfl⟩
  have F_take := fun_mk (st := s_take) l_take c_take k_take
  have D_take : Def K mg "_law_take" s_take p_take f_take _ := ⟨F_take, PySem.W.mg_of X G a_take, F_take.binds (ps := p_take) fun _ _ _ _ _ _ us hl => match us, hl with | [_, _], _ => rfl⟩
  have F_wide := fun_mk (st := s_wide) l_wide c_wide k_wide
  have D_wide : Def K mg "_law_wide" s_wide p_wide f_wide _ := ⟨F_wide, PySem.W.mg_of X G a_wide, F_wide.binds (ps := p_wide) fun _ _ _ _ _ _ us hl => match us, hl with | [_, _], _ => rfl⟩
  have F_edge := fun_mk (st := s_edge) l_edge c_edge k_edge
  have D_edge : Def K mg "_law_edge" s_edge p_edge f_edge _ := ⟨F_edge, PySem.W.mg_of X G a_edge, F_edge.binds (ps := p_edge) fun _ _ _ _ _ _ us hl => match us, hl with | [_, _], _ => rfl⟩
  have F_pick := fun_mk (st := s_pick) l_pick c_pick k_pick
  have D_pick : Def K mg "_law_pick" s_pick p_pick f_pick _ := ⟨F_pick, PySem.W.mg_of X G a_pick, F_pick.binds (ps := p_pick) fun _ _ _ _ _ _ us hl => match us, hl with | [_, _], _ => rfl⟩
  have F_int := fun_mk (st := s_int) l_int c_int k_int
  have D_int : Def K mg "_law_int" s_int p_int f_int _ := ⟨F_int, PySem.W.mg_of X G a_int, F_int.binds (ps := p_int) fun _ _ _ _ _ _ us hl => match us, hl with | [_], _ => rfl⟩
  have F_primes := fun_mk (st := s_primes) l_primes c_primes k_primes
  have D_primes : Def K mg "_law_primes" s_primes p_primes f_primes _ := ⟨F_primes, PySem.W.mg_of X G a_primes, F_primes.binds (ps := p_primes) fun _ _ _ _ _ _ us hl => match us, hl with | [], _ => rfl⟩
  have F_prime := fun_mk (st := s_prime) l_prime c_prime k_prime
  have D_prime : Def K mg "_law_prime" s_prime p_prime f_prime _ := ⟨F_prime, PySem.W.mg_of X G a_prime, F_prime.binds (ps := p_prime) fun _ _ _ _ _ _ us hl => match us, hl with | [_], _ => rfl⟩
  have F_isint := fun_mk (st := s_isint) l_isint c_isint k_isint
  have D_isint : Def K mg "_law_isint" s_isint p_isint f_isint _ := ⟨F_isint, PySem.W.mg_of X G a_isint, F_isint.binds (ps := p_isint) fun _ _ _ _ _ _ us hl => match us, hl with | [_], _ => rfl⟩
  have F_same := fun_mk (st := s_same) l_same c_same k_same
  have D_same : Def K mg "_law_same" s_same p_same f_same _ := ⟨F_same, PySem.W.mg_of X G a_same, F_same.binds (ps := p_same) fun _ _ _ _ _ _ us hl => match us, hl with | [_, _], _ => rfl⟩
  have F_noprime := fun_mk (st := s_noprime) l_noprime c_noprime k_noprime
  have D_noprime : Def K mg "_law_noprime" s_noprime p_noprime f_noprime _ := ⟨F_noprime, PySem.W.mg_of X G a_noprime, F_noprime.binds (ps := p_noprime) fun _ _ _ _ _ _ us hl => match us, hl with | [_], _ => rfl⟩
  have F_kinds := fun_mk (st := s_kinds) l_kinds c_kinds k_kinds
  have D_kinds : Def K mg "_law_kinds" s_kinds p_kinds f_kinds _ := ⟨F_kinds, PySem.W.mg_of X G a_kinds, F_kinds.binds (ps := p_kinds) fun _ _ _ _ _ _ us hl => match us, hl with | [_], _ => rfl⟩
  have F_clean := fun_mk (st := s_clean) l_clean c_clean k_clean
  have D_clean : Def K mg "_law_clean" s_clean p_clean f_clean _ := ⟨F_clean, PySem.W.mg_of X G a_clean, F_clean.binds (ps := p_clean) fun _ _ _ _ _ _ us hl => match us, hl with | [_, _, _], _ => rfl⟩
  have F_undivided := fun_mk (st := s_undivided) l_undivided c_undivided k_undivided
  have D_undivided : Def K mg "_law_undivided" s_undivided p_undivided f_undivided _ := ⟨F_undivided, PySem.W.mg_of X G a_undivided, F_undivided.binds (ps := p_undivided) fun _ _ _ _ _ _ us hl => match us, hl with | [_], _ => rfl⟩
  have F_candidate := fun_mk (st := s_candidate) l_candidate c_candidate k_candidate
  have D_candidate : Def K mg "_law_candidate" s_candidate p_candidate f_candidate _ := ⟨F_candidate, PySem.W.mg_of X G a_candidate, F_candidate.binds (ps := p_candidate) fun _ _ _ _ _ _ us hl => match us, hl with | [_], _ => rfl⟩
  have F_binomial := fun_mk (st := s_binomial) l_binomial c_binomial k_binomial
  have D_binomial : Def K mg "_law_binomial" s_binomial p_binomial f_binomial _ := ⟨F_binomial, PySem.W.mg_of X G a_binomial, F_binomial.binds (ps := p_binomial) fun _ _ _ _ _ _ us hl => match us, hl with | [_, _], _ => rfl⟩
  have F_refusal := fun_mk (st := s_refusal) l_refusal c_refusal k_refusal
  have D_refusal : Def K mg "_law_refusal" s_refusal p_refusal f_refusal _ := ⟨F_refusal, PySem.W.mg_of X G a_refusal, F_refusal.binds (ps := p_refusal) fun _ _ _ _ _ _ us hl => match us, hl with | [_], _ => rfl⟩
  have F_needed := fun_mk (st := s_needed) l_needed c_needed k_needed
  have D_needed : Def K mg "_law_needed" s_needed p_needed f_needed _ := ⟨F_needed, PySem.W.mg_of X G a_needed, F_needed.binds (ps := p_needed) fun _ _ _ _ _ _ us hl => match us, hl with | [_], _ => rfl⟩
  have F_inverted := fun_mk (st := s_inverted) l_inverted c_inverted k_inverted
  have D_inverted : Def K mg "_law_inverted" s_inverted p_inverted f_inverted _ := ⟨F_inverted, PySem.W.mg_of X G a_inverted, F_inverted.binds (ps := p_inverted) fun _ _ _ _ _ _ us hl => match us, hl with | [_, _], _ => rfl⟩
  have F_primesright := fun_mk (st := s_primesright) l_primesright c_primesright k_primesright
  have D_primesright : Def K mg "_law_primesright" s_primesright p_primesright f_primesright _ := ⟨F_primesright, PySem.W.mg_of X G a_primesright, F_primesright.binds (ps := p_primesright) fun _ _ _ _ _ _ us hl => match us, hl with | [_], _ => rfl⟩
  have F_inverseright := fun_mk (st := s_inverseright) l_inverseright c_inverseright k_inverseright
  have D_inverseright : Def K mg "_law_inverseright" s_inverseright p_inverseright f_inverseright _ := ⟨F_inverseright, PySem.W.mg_of X G a_inverseright, F_inverseright.binds (ps := p_inverseright) fun _ _ _ _ _ _ us hl => match us, hl with | [_, _], _ => rfl⟩
  have F_chooseright := fun_mk (st := s_chooseright) l_chooseright c_chooseright k_chooseright
  have D_chooseright : Def K mg "_law_chooseright" s_chooseright p_chooseright f_chooseright _ := ⟨F_chooseright, PySem.W.mg_of X G a_chooseright, F_chooseright.binds (ps := p_chooseright) fun _ _ _ _ _ _ us hl => match us, hl with | [_, _], _ => rfl⟩
  have F_law := fun_mk (st := s_law) l_law c_law k_law
  refine ⟨PySem.W.fnOf "law" "law" (defArgs s_law) (defBody s_law) (defScope s_law) .none kV_law dc_law pm_law an_law cd_law ct_law, fun s v => .of_eq rfl, fun base _ _ => ?_⟩
  have G_store := ok_store (w := w) (base := base) T F_store 
  have G_mix := ok_mix (w := w) (base := base) T F_mix 
  have G_take := ok_take (w := w) (base := base) T F_take D_mix G_mix
  have G_pick := ok_pick (w := w) (base := base) T F_pick D_take G_take
  have G_primes := ok_primes (w := w) (base := base) T F_primes 
  have G_prime := ok_prime (w := w) (base := base) T F_prime D_take G_take D_pick G_pick D_primes G_primes
  have G_wide := ok_wide (w := w) (base := base) T F_wide D_take G_take
  have G_candidate := ok_candidate (w := w) (base := base) T F_candidate D_take G_take D_wide G_wide D_prime G_prime D_pick G_pick
  have G_is_prime := ok_is_prime (w := w) (base := base) T F_is_prime 
  have G_undivided := ok_undivided (w := w) (base := base) T F_undivided 
  have G_same := ok_same (w := w) (base := base) T F_same D_same 6
  have E_same := okE_same (w := w) (base := base) T F_same
  have G_is_whole := ok_is_whole (w := w) (base := base) T F_is_whole 
  have G_lies_within := ok_lies_within (w := w) (base := base) T F_lies_within D_is_whole G_is_whole
  have G_need_prime := ok_need_prime (w := w) (base := base) T F_need_prime D_lies_within G_lies_within D_is_prime G_is_prime
  have E_kindsP := ok_kinds_BadPrime (w := w) (base := base) T F_kinds
  have E_kindsI := ok_kinds_NoInverse (w := w) (base := base) T F_kinds
  have E_cleanP := ok_clean_BadPrime (w := w) (base := base) T F_clean D_same E_same D_kinds E_kindsP
  have E_cleanI := ok_clean_NoInverse (w := w) (base := base) T F_clean D_same E_same D_kinds E_kindsI
  have E_refusalP := ok_refusal_BadPrime (w := w) (base := base) T F_refusal D_clean E_cleanP
  have E_refusalI := ok_refusal_NoInverse (w := w) (base := base) T F_refusal D_clean E_cleanI
  have E_refusal2 := E_refusalP.or E_refusalI
  have G_needed := ok_needed (w := w) (base := base) T F_needed D_need_prime G_need_prime D_refusal E_refusalP
  have G_noprime := ok_noprime (w := w) (base := base) T F_noprime D_prime G_prime D_wide G_wide D_pick G_pick
  have G_primesright := ok_primesright (w := w) (base := base) T F_primesright D_primes G_primes D_needed G_needed D_same G_same D_noprime G_noprime D_prime G_prime
  have G_int := ok_int (w := w) (base := base) T F_int D_take G_take D_wide G_wide
  have G_inverse := ok_inverse (w := w) (base := base) T F_inverse D_need_prime G_need_prime
  have G_inverted := ok_inverted (w := w) (base := base) T F_inverted D_inverse G_inverse D_refusal E_refusal2
  have G_isint := ok_isint (w := w) (base := base) T F_isint 
  have G_inverseright := ok_inverseright (w := w) (base := base) T F_inverseright D_inverted G_inverted D_same G_same D_isint G_isint
  have G_edge := ok_edge (w := w) (base := base) T F_edge D_take G_take
  have G_binomial := ok_binomial (w := w) (base := base) T F_binomial 
  have G_choose := ok_choose (w := w) (base := base) T F_choose 
  have G_chooseright := ok_chooseright (w := w) (base := base) T F_chooseright D_binomial G_binomial D_choose G_choose D_same G_same
  exact ok_law T F_law D_store G_store D_prime G_prime D_candidate G_candidate D_is_prime G_is_prime D_undivided G_undivided D_same G_same D_primesright G_primesright D_int G_int D_inverseright G_inverseright D_noprime G_noprime D_inverted G_inverted D_take G_take D_edge G_edge D_pick G_pick D_chooseright G_chooseright
end
theorem walk {l : PySem.W.OpenLaw} {q : Program} {loose : List Str} {XP : (Str → Option Value) → Heap → Prop} {YP : World → Heap → Prop} {d : DefRec} {K : Params → PySem.W.Frag} (hn : l.most = some 63) (hdf : d.params.defaults = [])
    (hY : ∀ (w : World) (h : Heap), YP w h → (K w.params).In h)
    (F : ∀ (w : World) (mg : Str → Option Value) (fa : Addr) (h : Heap), (K w.params).In h → h.Ns mainGlobals mg → mg d.name = some (.ref fa) →
      ∃ fd : FuncData, (∀ (s : Shared) (u : Value), BindsTo s fd ⟨[u], []⟩ [("script", u)]) ∧ ∀ base : Heap, (K w.params).In base → base.Ns mainGlobals mg → FnOk l.prog w (K w.params) mg base CX0 11 fa fd ["script"] (spLaw (K w.params))) :
    PySem.W.WalkO q loose XP YP l.row.toRowW d [] (fun f vs => PySem.call f vs) :=
  L2.walk_of (n := 63) (k := 11) (x := "script") (CX := fun _ => CX0) (sp := fun w => spLaw (K w.params)) hn (by decide) hdf ⟨rfl, by decide, by decide⟩ hY F (fun _ _ a ns hl _ hS => ⟨a, ns, rfl, hS, fun _ _ => rfl⟩) fun _ _ _ _ _ z => z
end K02

open PySem PySem.W PyProof.Rows
set_option maxRecDepth 100000 in
set_option maxHeartbeats 0 in
theorem PySem.Challenge.cw_holdingsshut_k02_primes_and_binomials_holds : PySem.Challenge.rw_holdingsshut_k02_primes_and_binomials.Holds := by
  w_on; o_law; k_head; (case hw => w_witness2)
  k_fill
  refine K02.walk (l := PySem.Challenge.rw_holdingsshut_k02_primes_and_binomials) rfl rfl (fun w h Y => PySem.W.kIn_of Y) ?F
  case F =>
    intro w mg fa h KX G hmg
    refine' K02.all_mk KX G hmg ?ptop ?a_is_whole ?l_is_whole ?c_is_whole ?k_is_whole ?a_lies_within ?l_lies_within ?c_lies_within ?k_lies_within ?a_is_prime ?l_is_prime ?c_is_prime ?k_is_prime ?a_need_prime ?l_need_prime ?c_need_prime ?k_need_prime ?a_inverse ?l_inverse ?c_inverse ?k_inverse ?a_choose ?l_choose ?c_choose ?k_choose ?a_store ?l_store ?c_store ?k_store ?a_mix ?l_mix ?c_mix ?k_mix ?a_take ?l_take ?c_take ?k_take ?a_wide ?l_wide ?c_wide ?k_wide ?a_edge ?l_edge ?c_edge ?k_edge ?a_pick ?l_pick ?c_pick ?k_pick ?a_int ?l_int ?c_int ?k_int ?a_primes ?l_primes ?c_primes ?k_primes ?a_prime ?l_prime ?c_prime ?k_prime ?a_isint ?l_isint ?c_isint ?k_isint ?a_same ?l_same ?c_same ?k_same ?a_noprime ?l_noprime ?c_noprime ?k_noprime ?a_kinds ?l_kinds ?c_kinds ?k_kinds ?a_clean ?l_clean ?c_clean ?k_clean ?a_undivided ?l_undivided ?c_undivided ?k_undivided ?a_candidate ?l_candidate ?c_candidate ?k_candidate ?a_binomial ?l_binomial ?c_binomial ?k_binomial ?a_refusal ?l_refusal ?c_refusal ?k_refusal ?a_needed ?l_needed ?c_needed ?k_needed ?a_inverted ?l_inverted ?c_inverted ?k_inverted ?a_primesright ?l_primesright ?c_primesright ?k_primesright ?a_inverseright ?l_inverseright ?c_inverseright ?k_inverseright ?a_chooseright ?l_chooseright ?c_chooseright ?k_chooseright ?a_law ?l_law ?c_law ?k_law ?b_int ?b_bool ?b_isinstance ?b_range ?b_min ?b_max ?b_abs ?b_len ?b_list ?b_reversed ?b_str ?b_dict ?b_tuple ?b_ValueError ?b_super ?g_VaultError ?g_TooMany ?g_NumberError ?g_BadPrime ?g_NoInverse ?g_NoNumber ?g_BadTable ?g_BadCells ?g_TextError ?g_ShapeError ?g_PlanError ?g_CourseError ?g_KnowError ?g_PaperError ?gc_GREATEST_PRIME ?N_th ?N_sp ?N_tk ?L_lV ?L_cV ?L_tV ?L_fV ?x_b ?x_i ?x_t ?xL_BadPrime ?sa_BadPrime ?ga_BadPrime ?gg_BadPrime ?cl_BadPrime ?mo_BadPrime ?nw_BadPrime ?ex_BadPrime ?ty_BadPrime ?kp_BadPrime ?hd_BadPrime ?nn_BadPrime ?xb_BadPrime ?iC_BadPrime ?tI_BadPrime ?up_BadPrime ?lI_BadPrime ?cI_BadPrime ?lcd_BadPrime ?fl_BadPrime ?lcc_BadPrime ?me_BadPrime ?nc_value_BadPrime ?xs_BadPrime ?q_VaultError_BadPrime ?q_TooMany_BadPrime ?q_NumberError_BadPrime ?q_BadPrime_BadPrime ?q_NoInverse_BadPrime ?q_NoNumber_BadPrime ?q_BadTable_BadPrime ?q_BadCells_BadPrime ?q_TextError_BadPrime ?q_ShapeError_BadPrime ?q_PlanError_BadPrime ?q_CourseError_BadPrime ?q_KnowError_BadPrime ?q_PaperError_BadPrime ?q_Value_BadPrime ?xL_NoInverse ?sa_NoInverse ?ga_NoInverse ?gg_NoInverse ?cl_NoInverse ?mo_NoInverse ?nw_NoInverse ?ex_NoInverse ?ty_NoInverse ?kp_NoInverse ?hd_NoInverse ?nn_NoInverse ?xb_NoInverse ?iC_NoInverse ?tI_NoInverse ?up_NoInverse ?lI_NoInverse ?cI_NoInverse ?lcd_NoInverse ?fl_NoInverse ?lcc_NoInverse ?me_NoInverse ?nc_value_NoInverse ?xs_NoInverse ?q_VaultError_NoInverse ?q_TooMany_NoInverse ?q_NumberError_NoInverse ?q_BadPrime_NoInverse ?q_NoInverse_NoInverse ?q_NoNumber_NoInverse ?q_BadTable_NoInverse ?q_BadCells_NoInverse ?q_TextError_NoInverse ?q_ShapeError_NoInverse ?q_PlanError_NoInverse ?q_CourseError_NoInverse ?q_KnowError_NoInverse ?q_PaperError_NoInverse ?q_Value_NoInverse
    (case ptop => first | rfl | decide +kernel)
    (case a_is_whole => k_is)
    (case l_is_whole => k_is)
    (case c_is_whole => k_is)
    (case k_is_whole => k_is)
    (case a_lies_within => k_is)
    (case l_lies_within => k_is)
    (case c_lies_within => k_is)
    (case k_lies_within => k_is)
    (case a_is_prime => k_is)
    (case l_is_prime => k_is)
    (case c_is_prime => k_is)
    (case k_is_prime => k_is)
    (case a_need_prime => k_is)
    (case l_need_prime => k_is)
    (case c_need_prime => k_is)
    (case k_need_prime => k_is)
    (case a_inverse => k_is)
    (case l_inverse => k_is)
    (case c_inverse => k_is)
    (case k_inverse => k_is)
    (case a_choose => k_is)
    (case l_choose => k_is)
    (case c_choose => k_is)
    (case k_choose => k_is)
    (case a_store => k_is)
    (case l_store => k_is)
    (case c_store => k_is)
    (case k_store => k_is)
    (case a_mix => k_is)
    (case l_mix => k_is)
    (case c_mix => k_is)
    (case k_mix => k_is)
    (case a_take => k_is)
    (case l_take => k_is)
    (case c_take => k_is)
    (case k_take => k_is)
    (case a_wide => k_is)
    (case l_wide => k_is)
    (case c_wide => k_is)
    (case k_wide => k_is)
    (case a_edge => k_is)
    (case l_edge => k_is)
    (case c_edge => k_is)
    (case k_edge => k_is)
    (case a_pick => k_is)
    (case l_pick => k_is)
    (case c_pick => k_is)
    (case k_pick => k_is)
    (case a_int => k_is)
    (case l_int => k_is)
    (case c_int => k_is)
    (case k_int => k_is)
    (case a_primes => k_is)
    (case l_primes => k_is)
    (case c_primes => k_is)
    (case k_primes => k_is)
    (case a_prime => k_is)
    (case l_prime => k_is)
    (case c_prime => k_is)
    (case k_prime => k_is)
    (case a_isint => k_is)
    (case l_isint => k_is)
    (case c_isint => k_is)
    (case k_isint => k_is)
    (case a_same => k_is)
    (case l_same => k_is)
    (case c_same => k_is)
    (case k_same => k_is)
    (case a_noprime => k_is)
    (case l_noprime => k_is)
    (case c_noprime => k_is)
    (case k_noprime => k_is)
    (case a_kinds => k_is)
    (case l_kinds => k_is)
    (case c_kinds => k_is)
    (case k_kinds => k_is)
    (case a_clean => k_is)
    (case l_clean => k_is)
    (case c_clean => k_is)
    (case k_clean => k_is)
    (case a_undivided => k_is)
    (case l_undivided => k_is)
    (case c_undivided => k_is)
    (case k_undivided => k_is)
    (case a_candidate => k_is)
    (case l_candidate => k_is)
    (case c_candidate => k_is)
    (case k_candidate => k_is)
    (case a_binomial => k_is)
    (case l_binomial => k_is)
    (case c_binomial => k_is)
    (case k_binomial => k_is)
    (case a_refusal => k_is)
    (case l_refusal => k_is)
    (case c_refusal => k_is)
    (case k_refusal => k_is)
    (case a_needed => k_is)
    (case l_needed => k_is)
    (case c_needed => k_is)
    (case k_needed => k_is)
    (case a_inverted => k_is)
    (case l_inverted => k_is)
    (case c_inverted => k_is)
    (case k_inverted => k_is)
    (case a_primesright => k_is)
    (case l_primesright => k_is)
    (case c_primesright => k_is)
    (case k_primesright => k_is)
    (case a_inverseright => k_is)
    (case l_inverseright => k_is)
    (case c_inverseright => k_is)
    (case k_inverseright => k_is)
    (case a_chooseright => k_is)
    (case l_chooseright => k_is)
    (case c_chooseright => k_is)
    (case k_chooseright => k_is)
    (case a_law => k_is)
    (case l_law => k_is)
    (case c_law => k_is)
    (case k_law => k_is)
    (case b_int => k_is)
    (case b_bool => k_is)
    (case b_isinstance => k_is)
    (case b_range => k_is)
    (case b_min => k_is)
    (case b_max => k_is)
    (case b_abs => k_is)
    (case b_len => k_is)
    (case b_list => k_is)
    (case b_reversed => k_is)
    (case b_str => k_is)
    (case b_dict => k_is)
    (case b_tuple => k_is)
    (case b_ValueError => k_is)
    (case b_super => k_is)
    (case g_VaultError => k_is)
    (case g_TooMany => k_is)
    (case g_NumberError => k_is)
    (case g_BadPrime => k_is)
    (case g_NoInverse => k_is)
    (case g_NoNumber => k_is)
    (case g_BadTable => k_is)
    (case g_BadCells => k_is)
    (case g_TextError => k_is)
    (case g_ShapeError => k_is)
    (case g_PlanError => k_is)
    (case g_CourseError => k_is)
    (case g_KnowError => k_is)
    (case g_PaperError => k_is)
    (case gc_GREATEST_PRIME => k_is)
    (case N_th => k_is)
    (case N_sp => k_is)
    (case N_tk => k_is)
    (case x_b => k_is)
    (case x_i => k_is)
    (case x_t => k_is)
    (case xL_BadPrime => k_is)
    (case sa_BadPrime => k_is)
    (case ga_BadPrime => k_is)
    (case gg_BadPrime => k_is)
    (case cl_BadPrime => k_is)
    (case mo_BadPrime => k_is)
    (case nw_BadPrime => k_is)
    (case ex_BadPrime => k_is)
    (case ty_BadPrime => k_is)
    (case kp_BadPrime => k_is)
    (case hd_BadPrime => k_is)
    (case nn_BadPrime => k_is)
    (case xb_BadPrime => first | rfl | decide +kernel)
    (case iC_BadPrime => k_is)
    (case tI_BadPrime => k_is)
    (case up_BadPrime => ks_is)
    (case lI_BadPrime => k_is)
    (case cI_BadPrime => k_is)
    (case lcd_BadPrime => k_is)
    (case fl_BadPrime => rfl)
    (case lcc_BadPrime => k_is)
    (case me_BadPrime => k_is)
    (case nc_value_BadPrime => k_is)
    (case xs_BadPrime => k_is)
    (case q_VaultError_BadPrime => first | k_is | kit_is)
    (case q_TooMany_BadPrime => first | k_is | kit_is)
    (case q_NumberError_BadPrime => first | k_is | kit_is)
    (case q_BadPrime_BadPrime => first | k_is | kit_is)
    (case q_NoInverse_BadPrime => first | k_is | kit_is)
    (case q_NoNumber_BadPrime => first | k_is | kit_is)
    (case q_BadTable_BadPrime => first | k_is | kit_is)
    (case q_BadCells_BadPrime => first | k_is | kit_is)
    (case q_TextError_BadPrime => first | k_is | kit_is)
    (case q_ShapeError_BadPrime => first | k_is | kit_is)
    (case q_PlanError_BadPrime => first | k_is | kit_is)
    (case q_CourseError_BadPrime => first | k_is | kit_is)
    (case q_KnowError_BadPrime => first | k_is | kit_is)
    (case q_PaperError_BadPrime => first | k_is | kit_is)
    (case q_Value_BadPrime => first | k_is | kit_is)
    (case xL_NoInverse => k_is)
    (case sa_NoInverse => k_is)
    (case ga_NoInverse => k_is)
    (case gg_NoInverse => k_is)
    (case cl_NoInverse => k_is)
    (case mo_NoInverse => k_is)
    (case nw_NoInverse => k_is)
    (case ex_NoInverse => k_is)
    (case ty_NoInverse => k_is)
    (case kp_NoInverse => k_is)
    (case hd_NoInverse => k_is)
    (case nn_NoInverse => k_is)
    (case xb_NoInverse => first | rfl | decide +kernel)
    (case iC_NoInverse => k_is)
    (case tI_NoInverse => k_is)
    (case up_NoInverse => ks_is)
    (case lI_NoInverse => k_is)
    (case cI_NoInverse => k_is)
    (case lcd_NoInverse => k_is)
    (case fl_NoInverse => rfl)
    (case lcc_NoInverse => k_is)
    (case me_NoInverse => k_is)
    (case nc_value_NoInverse => k_is)
    (case xs_NoInverse => k_is)
    (case q_VaultError_NoInverse => first | k_is | kit_is)
    (case q_TooMany_NoInverse => first | k_is | kit_is)
    (case q_NumberError_NoInverse => first | k_is | kit_is)
    (case q_BadPrime_NoInverse => first | k_is | kit_is)
    (case q_NoInverse_NoInverse => first | k_is | kit_is)
    (case q_NoNumber_NoInverse => first | k_is | kit_is)
    (case q_BadTable_NoInverse => first | k_is | kit_is)
    (case q_BadCells_NoInverse => first | k_is | kit_is)
    (case q_TextError_NoInverse => first | k_is | kit_is)
    (case q_ShapeError_NoInverse => first | k_is | kit_is)
    (case q_PlanError_NoInverse => first | k_is | kit_is)
    (case q_CourseError_NoInverse => first | k_is | kit_is)
    (case q_KnowError_NoInverse => first | k_is | kit_is)
    (case q_PaperError_NoInverse => first | k_is | kit_is)
    (case q_Value_NoInverse => first | k_is | kit_is)
    (case L_lV => k_is)
    (case L_cV => k_is)
    (case L_tV => k_is)
    (case L_fV => k_is)
