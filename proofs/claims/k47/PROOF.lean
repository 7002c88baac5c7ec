import PyProof.Rows.All
import Wide.All
import OpenK.AllK
import Wide.FinOn
import KE.KTypeName
import KE.KSuper
import KE.KExcIs
import HandS.Base
import HandS.Call
import HandS.Exc
import HandS.ExcOwn
import HandS.ForExc
import HandS.Text
import HandS.ExcInit
import HandS.ForMost
import HandS.HotCalls
import HandS.ExcCtx
import HandS.IsInst
import HandS.ExcIs
import HandS.ExcField
import HandS.Comp
import HandS.Rev
import HandS.RevTup
import PyProof.ListRange
import HandS.DeepEq
import HandS.Iter
import KE.GoesEnum
import HandS.Ends
import PyProof.ReprRoads
import PyProof.StrOps2
import HandS.Wide
import PySem.Challenge.RW_holdingsshut_k47_moves_give_the_stretch
set_option Elab.async false
set_option maxRecDepth 100000
set_option Elab.async false
set_option linter.all false
set_option maxRecDepth 100000
set_option maxHeartbeats 2000000
namespace PySem
namespace VX
open PySem.W PySem.Calls PyProof.Rows PySem.HandSPX Builtin Builtin.ObjectAttr Builtin.Getset_descriptor
section
variable {prog : Program} {w : World} {A : Around} {E : Value → Shared → Prop} {R : Result → Shared → Prop} {s : Shared} {K : Frag} {C : Addr} {oC : Obj} {nm : Value}
theorem name_got (X : K.In s.heap) (hC : K.lookup C = some oC) (hs : oC.slots[2]? = some (some nm)) (ht : typeIn K (.ref C) = some (.type "type")) (h : R (.ok (.ret nm)) s) :
    codeAny (model prog w) A (.call (.builtin "getset_descriptor.__get__") ⟨[.builtin "type.__name__", .ref C, .type "type"], []⟩) R s := by
  obtain ⟨hh, g, dr, t, os⟩ := s
  have L0 : Looks (model prog w) hh (typeOf (.ref C)) (.type "type") := looks_typeIn X ht
  have L1 : Looks (model prog w) hh (isSubtype (.type "type") (.type "type")) true := Looks.of_pure (by rw [isSubtype_type]; kernel_rfl)
  have hg : hh.get? C = some oC := X _ _ hC
  refine codeAny_call_builtin KF.slot_gs.plain KF.entry_gs (KF.slot_gs.check _ _ _ _ _ _ _ _ ktyn_type (KF.args_gs _ _ _) ?_)
  unfold Builtin.«getset_descriptor.__get__» descrGet
  rw [show descrGetArgs ⟨[.builtin "type.__name__", .ref C, .type "type"], []⟩ = pure (.builtin "type.__name__", some (.ref C), given (.type "type")) from by kernel_rfl]
  refine wpAny_bind (wpAny_pure ?_)
  unfold descrGetter descrCheckInstance descrNameAndClass isInstance
  simp only [ktyn_owner]
  repeat lk
  refine ⟨Code.quiet_builtin _ (by decide +kernel), codeAny_builtin ktyn_entry ?_⟩
  unfold Builtin.«type.__name__» Builtin.keptObject slotAt
  dsimp only
  refine wpAny_bind (wpAny_bind (wpAny_loadPart_at hg ?_))
  refine wpAny_pure ?_
  rw [hs]
  first | exact wpAny_pure h | exact wpAny_pure (wpAny_pure h)
/-- self.__class__.__name__'s second step -/
theorem name_attr {expr : Bool} {Q : Value → Shared → Prop} (X : K.In s.heap) (hC : K.lookup C = some oC) (hs : oC.slots[2]? = some (some nm)) (ht : typeIn K (.ref C) = some (.type "type"))
    (ho : nsIn K cStatics "thirdparty.any" = some none) (hnm : handedIn nm = true)
    (e : findCls K (.ref C) (.type "type") "__name__" = some (.get (.builtin "getset_descriptor.__get__") (.builtin "type.__name__") (.ref C) (.type "type")))
    (h : Q nm { s with toks := s.toks + 1 }) : wpAny (model prog w) A (getAttr (.ref C) "__name__" expr) Q E s := by
  have hg : findIn K (.type "type") "__getattribute__" = some (some (.builtin "type.__getattribute__")) := type_tga
  refine cls_open X (looks_opaque X ho) (looks_typeIn X ht) hg (looks_hook X (r := none) (by rfl)) (by show subIn K _ _ = _; rfl) e ?_
  show wpAny _ _ (do ret (← holding [Value.builtin "type.__name__"] (call (.builtin "getset_descriptor.__get__") [.builtin "type.__name__", .ref C, .type "type"]))) _ _ _
  refine wpAny_bind (wpAny_holding (wpAny_call (name_got (s := { s with toks := s.toks + 1 }) X hC hs ht ?_)))
  exact wpAny_pure (handed_on hnm h)
/-- x.__class__, x an exception of the own class at C -/
theorem cls_attr {x : Addr} {ox : Obj} {od : Option Obj} {expr : Bool} {gt : Option Value} {Q : Value → Shared → Prop} (X : K.In s.heap) (I : InstAt s.heap x ox C od)
    (g1 : findIn K (.ref C) "__getattribute__" = some (some (.builtin "BaseException.__getattribute__"))) (g2 : findIn K (.ref C) "__getattr__" = some gt) (sb : subIn K (.ref C) (.type "BaseException") = some true)
    (fd : findObj K C od "__class__" = some (.bind (.builtin "getset_descriptor.__get__") (.builtin "object.__class__"))) (mo : mroIn K C (.type "object") = some true)
    (h : Q (.ref C) { s with toks := s.toks + 1 }) : wpAny (model prog w) A (getAttr (.ref x) "__class__" expr) Q E s := by
  obtain ⟨hp, gs, dn, tk, os⟩ := s
  have T := I.type (M := model prog w)
  have A1 := looks_findIn (M := model prog w) X g1
  have A2 := looks_findIn (M := model prog w) X g2
  have A3 := looks_find (M := model prog w) X I fd
  have S : Looks (model prog w) hp (isInstance (.ref x) (.type "BaseException")) true := T.andThen (looks_subIn X sb)
  have e0 : (expr && onTheHeap (Value.builtin "BaseException.__getattribute__")) = false := by
    cases expr <;> rfl
  have e1 : (onTheHeap (Value.ref C) && Value.builtin "BaseException.__getattribute__" == Value.builtin "object.__getattribute__") = false := by
    rw [show (Value.builtin "BaseException.__getattribute__" == Value.builtin "object.__getattribute__") = false from by decide +kernel]
    rfl
  unfold getAttr getAttrBy
  refine wpAny_bind (wpAny_mkText (wpAny_holding (wpAny_bind (T.at (wpAny_bind (A1.at ?_))))))
  dsimp only
  rw [e1]
  rw [if_neg Bool.false_ne_true]
  unfold getAttrByItsOwn hookBefore
  refine wpAny_bind ?_
  have eo : onTheHeap (Value.ref C) = true := rfl
  rw [if_pos eo]
  refine A2.at (wpAny_bind (wpAny_attempt (wpAny_holding ?_)))
  unfold callGetattribute
  rw [e0]
  rw [if_neg Bool.false_ne_true]
  unfold boundAndCalled
  rw [PySem.F.excAttr_ValueError.ga.bind (.ref x)]
  refine wpAny_bind (wpAny_pure ?_)
  refine wpAny_call (codeAny_call_builtin (args := ⟨[.ref x, .str "__class__" tk], []⟩) PySem.F.excAttr_ValueError.ga.plain PySem.F.entry_bexc_ga ?_)
  refine @check_slot (model prog w) _ _ ⟨hp, gs, dn, tk + 1, os⟩ "BaseException.__getattribute__" "BaseException" "__getattribute__" (.ref x) [.str "__class__" tk] [] _
    (by decide +kernel) (by decide +kernel) S (PySem.F.args_bexc_ga (.ref x) (.str "__class__" tk)) ?_
  unfold Builtin.«object.__getattribute__»
  refine wpAny_bind (wpAny_of_eq (a := ((Value.ref x : Value), [Value.str "__class__" tk])) (by first | rfl | (simp only [slotArgs]; rfl)) ?_)
  refine wpAny_bind (wpAny_pure (wpAny_bind (T.at (wpAny_bind (A3.at ?_)))))
  refine wpAny_bind (wpAny_holding (wpAny_call (class_get (s := ⟨hp, gs, dn, tk + 1, os⟩) (ox := ox) (od := od) X I mo ?_)))
  refine wpAny_pure ?_
  show wpAny _ _ (handedOut (.ref C)) _ _ _
  exact handed_on rfl h
end
end VX
end PySem

set_option Elab.async false
set_option linter.all false
set_option maxRecDepth 100000
set_option maxHeartbeats 2000000
namespace PySem
namespace VX
open PySem.W PySem.Calls PyProof.Rows PySem.HandSPX
/-! ### the texts of the two kinds of __init__ -/
def rootArgs (p : Pos) : Arguments := { posonlyargs := [], args := [{ arg := "self", annotation := none, pos := p }], vararg := none, kwonlyargs := [], kw_defaults := [], kwarg := none, defaults := [] }
def rootBody (q : Nat → Pos) : List Stmt :=
  [.Assign [.Attribute (.Name "self" (q 0)) "word" (q 1)] (.Call (.Attribute (.Attribute (.Attribute (.Name "self" (q 2)) "__class__" (q 3)) "__name__" (q 4)) "lower" (q 5)) [] [] (q 6)) (q 7)]
def rootScope : Scope := { kind := .function, names := [(PySem.Str.ofString "self", .local)], isGenerator := false, isCoroutine := false, more := [] }
/-- the root's __init__ at fV -/
structure Root (K : Frag) (fV : Addr) : Prop where
  fn : ∃ (oc : Value) (od : Option Addr) (doc pm : Value) (an : Option Addr) (cdv ct : Value) (osl : Array (Option Value)) (p : Pos) (q : Nat → Pos),
    K.lookup fV = some ⟨oc, od, .func (fnOf "__init__" "VaultError.__init__" (rootArgs p) (rootBody q) rootScope .none .none doc pm an cdv ct), osl⟩ ∧ codeIn K cdv "VaultError.__init__" = true ∧ ((q 5).endLine == (q 6).line) = true
  ty : typeIn K (.ref fV) = some (.type "function")
/-- an exception class below the root, its name nm -/
structure Kind (K : Frag) (C : Addr) (nm : Str) : Prop where
  cls : ∃ q N bs bm sn sub ab col dd k0 k1 k3 k5 tk, K.lookup C = some (excClassObj nm q C N bs bm true sn sub ab col dd k0 k1 (some (.str nm tk)) k3 k5 "ValueError.__new__") ∧ refsVE bm = true
  sa : findIn K (.ref C) "__setattr__" = some (some (.builtin "object.__setattr__"))
  ga : findIn K (.ref C) "__getattribute__" = some (some (.builtin "BaseException.__getattribute__"))
  gg : findIn K (.ref C) "__getattr__" = some none
  cl : findIn K (.ref C) "__class__" = some (some (.builtin "object.__class__"))
  sp : specialIn K (.builtin "object.__class__") "__get__" = some (some (.builtin "getset_descriptor.__get__"))
  tk : takesIn K (.builtin "object.__class__") = some true
  mo : mroIn K C (.type "object") = some true
  nw : findIn K (.ref C) "word" = some none
  ex : subIn K (.ref C) (.type "BaseException") = some true
  ty : typeIn K (.ref C) = some (.type "type")
  kp : keepIn K (.ref C) = true
  hd : hasDictIn K C = true
  nn : findCls K (.ref C) (.type "type") "__name__" = some (.get (.builtin "getset_descriptor.__get__") (.builtin "type.__name__") (.ref C) (.type "type"))
  th : nsIn K cStatics "thirdparty.any" = some none
  sz : nm.length ≤ 1000
theorem Kind.cd {K : Frag} {C : Addr} {nm : Str} (T : Kind K C nm) : ∃ cd, clsIn K C = some cd ∧ refsVE cd.mro = true ∧ cd.hasDict = true := by
  obtain ⟨q, N, bs, bm, sn, sub, ab, col, dd, k0, k1, k3, k5, tk, hC, hb⟩ := T.cls
  refine ⟨{ name := nm, bases := bs, mro := .ref C :: bm, ns := N, qualname := q, hasDict := true, slotNames := sn, subclasses := sub, abstract := ab, collection := col, hasDel := false }, ?_, hb, rfl⟩
  unfold clsIn
  rw [hC] <;> rfl
theorem Kind.some {K : Frag} {C : Addr} {nm : Str} (T : Kind K C nm) : (clsIn K C).isSome = true := by
  obtain ⟨cd, e, _⟩ := T.cd
  rw [e]
  rfl
section
variable {prog : Program} {w : World} {A : Around} {E : Value → Shared → Prop} {R : Result → Shared → Prop} {s : Shared} {K : Frag} {C fV : Addr} {nm : Str}
theorem ld {M : Model} {s : Shared} {env : Env} {m : Str → Option Value} {x : Str} {pos : Pos} {v : Value} {Q : Value → Shared → Prop} {A : Around} {E : Value → Shared → Prop} (hn : s.heap.Ns env.locals m) (hv : m x = Option.some v) (h : Q v s)
    (hk : env.scope.kind = .function := by rfl) (hl : env.kindOf x = Option.some .local := by rfl) (hd : (x == ("__debug__" : Str)) = false := by decide) : wpAny M A (eval (.Name x pos) env) Q E s :=
  wpAny_Name (wpAny_loadName_local hk hl hn hv h) hd
/-- what the root's __init__ leaves of the fresh exception at x -/
structure Begun (h h' : Heap) (x C dx t0 : Addr) (nm : Str) : Prop where
  keep : ∀ b o, b ≠ x → h.get? b = some o → h'.get? b = some o
  obj : h'.get? x = some { cls := .ref C, dict := some dx, data := .fields #[.ref t0, .none, .none, .none, .bool false, .none] }
  big : h.objs.size ≤ dx
  ne : dx ≠ x
  ns : ∃ tk, h'.Ns1 dx (fun y => if y = "word" then some (.str (Txt.lower nm) tk) else none)
theorem init_root (V : Root K fV) (T : Kind K C nm) {x t0 : Addr} (X : K.In s.heap) (hlim : s.heap.NoLimit) (hx : s.heap.get? x = some (excO C t0)) (hroom : A.depth < recursionLimit)
    (hq : ∀ h' tk dx, Begun s.heap h' x C dx t0 nm → R (.ok (.ret .none)) { s with heap := h', toks := tk }) :
    codeAny (model prog w) A (.call (.ref fV) ⟨[.ref x], []⟩) R s := by
  obtain ⟨oc, od, doc, pm, an, cdv, ct, osl, p, q, ho, hcd, hln⟩ := V.fn
  obtain ⟨cd, hcl, hre, hdi⟩ := T.cd
  obtain ⟨qq, N, bs, bm, sn, sub, ab, col, dd, k0, k1, k3, k5, tk0, hC, hb⟩ := T.cls
  refine Att.call_fn (binds := [("self", .ref x)]) X hlim ho hcd hroom (BindsTo.of_eq (by first | rfl | with_unfolding_all rfl)) (by first | rfl | decide | with_unfolding_all rfl) (fun s₁ IC => ?_) rfl rfl rfl
  obtain ⟨h₁, tk₁, rfl⟩ := IC.toInCall.same
  have k : ∀ b o, s.heap.get? b = some o → h₁.get? b = some o := IC.toInCall.keep
  have hn := IC.toInCall.ns
  have X₁ : K.In h₁ := X.keeps k
  have hx₁ := k _ _ hx
  have I : W.InstAt h₁ x (excO C t0) C none := ⟨hx₁, rfl, rfl, trivial⟩
  have fd : findObj K C none "__class__" = some (.bind (.builtin "getset_descriptor.__get__") (.builtin "object.__class__")) := findObj_dataE T.some T.cl T.sp T.tk
  show wpAny _ _ (execs _ _) _ _ _
  refine wpAny_execs_cons (plainObj_wpAny_Assign_Attribute ?_)
  refine wpAny_Call_method0_late (by first | rfl | with_unfolding_all rfl) hln ?_
  refine L2.attr_of (by first | rfl | with_unfolding_all rfl) (L2.attr_of (by first | rfl | with_unfolding_all rfl) (ld (v := .ref x) hn (by first | rfl | with_unfolding_all rfl | kernel_rfl) ?_))
  refine cls_attr X₁ I T.ga T.gg T.ex fd T.mo ?_
  refine name_attr X₁ hC (by rfl) T.ty T.th (by rfl) T.nn ?_
  refine ⟨"str", "str.lower", F.plainAttrs_str, F.slot_str_lower, F.type_str_lower, typeIs_str _ _ _, (fun _ e => nomatch e), ?_⟩
  refine Calls.callWith_builtin rfl (PySem.evalArgs_none ?_)
  refine PySem.SC.lower (PyProof.Rows.short24 (by have h1 := T.sz; have h2 := PyProof.Rows.len_lower nm; omega)) ?_
  refine ld (v := .ref x) hn (by first | rfl | with_unfolding_all rfl | kernel_rfl) ?_
  refine set_plain X₁ (ox := excO C t0) (od := none) ⟨hx₁, rfl, rfl, trivial⟩ T.sa ?_
  refine exc_osa X₁ hx₁ hcl hre hdi T.nw (fun h₃ tk₃ dx k₃ dn dne hx₃ hn₃ => ?_)
  show wpAny _ _ (execs _ _) _ _ _
  have z : s.heap.objs.size < h₁.objs.size := hn.lt
  refine wpAny_execs_nil (hq h₃ tk₃ dx ⟨fun b o hb e => k₃ b o hb (k b o e), hx₃, ?_, dne, _, hn₃⟩)
  exact Nat.le_of_lt (Nat.lt_of_lt_of_le z dn)
end
end VX
end PySem

set_option Elab.async false
set_option linter.all false
set_option maxRecDepth 100000
set_option maxHeartbeats 2000000
namespace PySem
namespace VX
open PySem.W PySem.Calls PyProof.Rows PySem.HandSPX
inductive Stores : List Str → List Stmt → Prop
  | nil : Stores [] []
  | cons {f : Str} {fs : List Str} {st : List Stmt} (p1 p2 p3 p4 : Pos) : Stores fs st → Stores (f :: fs) (.Assign [.Attribute (.Name "self" p1) f p2] (.Name f p3) p4 :: st)
def putNs : List (Str × Value) → (Str → Option Value) → Str → Option Value
  | [], m => m
  | (f, v) :: r, m => putNs r (fun y => if y = f then some v else m y)
theorem In_but {K : Frag} {h h' : Heap} {x : Addr} (X : K.In h) (hx : K.lookup x = none) (k : ∀ b o, b ≠ x → h.get? b = some o → h'.get? b = some o) : K.In h' := fun a o e =>
  k a o (fun z => by
    rw [z] at e
    rw [show List.lookup x K = none from hx] at e
    cases e) (X a o e)
theorem notIn_of {K : Frag} {h : Heap} {x : Addr} (X : K.In h) (hx : h.objs.size ≤ x) : K.lookup x = none := by
  cases e : K.lookup x with
  | none => rfl
  | some o => exact absurd (Nat.lt_of_lt_of_le (Heap.lt_size (X _ _ e)) hx) (Nat.lt_irrefl _)
section
variable {prog : Program} {w : World} {A : Around} {E : Value → Shared → Prop} {K : Frag} {C : Addr} {nm : Str}
theorem stores_ok (T : Kind K C nm) {x dx : Addr} {fv : Array Value} {env : Env} {m : Str → Option Value} {Q : Flow → Shared → Prop} (hk : env.scope.kind = .function) (hself : m "self" = some (.ref x)) (ls : env.kindOf "self" = some .local) (hKd : K.lookup dx = none) (hxd : x ≠ dx) (hLd : env.locals ≠ dx) :
    ∀ (kvs : List (Str × Value)) (body : List Stmt) (m0 : Str → Option Value) (nl : List Str) (s : Shared), Stores (kvs.map (·.1)) body →
      (∀ p ∈ kvs, m p.1 = some p.2 ∧ findIn K (.ref C) p.1 = some none ∧ env.kindOf p.1 = some .local ∧ (p.1 == ("__debug__" : Str)) = false) →
      K.In s.heap → s.heap.Ns env.locals m → s.heap.get? x = some { cls := .ref C, dict := some dx, data := .fields fv } → s.heap.Ns1 dx m0 → Within m0 nl → nl.length + kvs.length ≤ 1000 →
      (∀ h' tk, (∀ b o, b ≠ dx → s.heap.get? b = some o → h'.get? b = some o) → h'.Ns1 dx (putNs kvs m0) → Q .next { s with heap := h', toks := tk }) → wpAny (model prog w) A (execs body env) Q E s := by
  intro kvs
  induction kvs with
  | nil =>
    intro body m0 nl s hb _ X hn hx hd hw hl hq
    cases hb
    exact wpAny_execs_nil (hq s.heap s.toks (fun _ _ _ e => e) hd)
  | cons p kvs ih =>
    intro body m0 nl s hb hp X hn hx hd hw hl hq
    obtain ⟨f, v⟩ := p
    cases hb with
    | cons p1 p2 p3 p4 hb =>
      obtain ⟨e1, e2, e3, e4⟩ := hp _ List.mem_cons_self
      obtain ⟨cd, hcl, hre, hdi⟩ := T.cd
      obtain ⟨oD, _, _, hoD, _, _⟩ := hd.count hw
      obtain ⟨hp0, g, d, t, os⟩ := s
      refine wpAny_execs_cons (plainObj_wpAny_Assign_Attribute ?_)
      refine ld (v := v) hn e1 ?_ hk e3 e4
      refine ld (v := .ref x) hn hself ?_ hk ls (by decide)
      refine set_plain X (ox := { cls := .ref C, dict := some dx, data := .fields fv }) (od := some oD) ⟨hx, rfl, rfl, hoD⟩ T.sa ?_
      refine OEX.osa_old X hx hd hw (by have := hl; rw [List.length_cons] at this; omega) hcl hre hdi e2 (fun h₃ tk₃ k₃ hn₃ => ?_)
      have keepL : h₃.Ns env.locals m := hn.at fun o q => k₃ _ _ hLd q
      refine ih _ _ (f :: nl) ⟨h₃, g, d, tk₃, os⟩ hb (fun q hq' => hp q (List.mem_cons_of_mem _ hq')) (In_but X hKd k₃) keepL (k₃ _ _ hxd hx) hn₃ (Within.cons f v hw) (by rw [List.length_cons] at hl ⊢; omega) fun h' tk k' n' => ?_
      exact hq h' tk (fun b o hb' e => k' b o hb' (k₃ b o hb' e)) n'
end
end VX
end PySem

set_option Elab.async false
set_option linter.all false
set_option maxRecDepth 100000
set_option maxHeartbeats 2000000
namespace PySem
namespace VX
open PySem.W PySem.Calls PyProof.Rows PySem.HandSPX
def leafArgs (p : Pos) (fs : List (Str × Pos)) : Arguments := { posonlyargs := [], args := { arg := "self", annotation := none, pos := p } :: fs.map (fun y => { arg := y.1, annotation := none, pos := y.2 }), vararg := none, kwonlyargs := [], kw_defaults := [], kwarg := none, defaults := [] }
def leafBody (r : Nat → Pos) (st : List Stmt) : List Stmt := .Expr (.Call (.Attribute (.Call (.Name "super" (r 0)) [] [] (r 1)) "__init__" (r 2)) [] [] (r 3)) (r 4) :: st
def leafScope (fs : List Str) : Scope := { kind := .function, names := (PySem.Str.ofString "self", .local) :: (fs.map (fun f => (f, NameKind.local)) ++ [(PySem.Str.ofString "__class__", .free), (PySem.Str.ofString "super", .globalImplicit)]), isGenerator := false, isCoroutine := false, more := [] }
/-- a class that is raised: its own __init__ at fI, the cell of its __class__ at cc -/
structure Leaf (P : Program) (K : Frag) (mg : Str → Option Value) (C fV fI : Addr) (nm : Str) (fs : List Str) : Prop where
  kind : Kind K C nm
  root : Root K fV
  top : (P.main.scope.names.lookup ("super" : Str)).isSome = false
  ms : mg "super" = none
  iC : findIn K (.ref C) "__init__" = some (some (.ref fI))
  tI : typeIn K (.ref fI) = some (.type "function")
  up : ks_superIn K C C "__init__" = some (some (.ref fV))
  fV : fnIn K fV = true
  fn : ∃ (qual : Str) (oc : Value) (od : Option Addr) (doc pm : Value) (an : Option Addr) (ct : Value) (osl : Array (Option Value)) (cda cc : Addr) (p : Pos) (ps : List (Str × Pos)) (r : Nat → Pos) (st : List Stmt) (ccl : Value) (cdd : Option Addr) (ccs : Array (Option Value)) (vs : Array Value) (tf : Tok) (cl : Value) (cld : Option Addr) (csl : Array (Option Value)),
    K.lookup fI = some ⟨oc, od, .func (ksFn "__init__" qual (leafArgs p ps) (leafBody r st) (leafScope fs) .none .none doc pm an (.ref cda) ct cc), osl⟩ ∧ codeIn K (.ref cda) qual = true ∧
    K.lookup cda = some ⟨ccl, cdd, .fields vs, ccs⟩ ∧ vs[2]? = some (.str P.main.file tf) ∧ ((r 2).endLine == (r 3).line) = true ∧ K.lookup cc = some ⟨cl, cld, .cell (some (.ref C)), csl⟩ ∧ Stores fs st ∧
    (∀ (s : Shared) (x : Value) (us : List Value), us.length = fs.length → BindsTo s (ksFn "__init__" qual (leafArgs p ps) (leafBody r st) (leafScope fs) .none .none doc pm an (.ref cda) ct cc) ⟨x :: us, []⟩ ((("self" : Str) :: fs).zip (x :: us)))
  nf : ∀ f ∈ fs, findIn K (.ref C) f = some none ∧ (f == ("__debug__" : Str)) = false ∧ (leafScope fs).names.lookup f = some .local ∧ ¬ f = "self"
  nd : (("self" : Str) :: fs).Nodup
  few : fs.length ≤ 10
  ks : (leafScope fs).names.lookup ("super" : Str) = some .globalImplicit
  kc : (leafScope fs).names.lookup ("__class__" : Str) = some .free
  me : mroIn K C (.ref C) = some true
theorem look_mem {k : Str} {v : Value} : ∀ {l : List (Str × Value)}, (l.map (·.1)).Nodup → (k, v) ∈ l → l.lookup k = some v
  | [], _, h => by cases h
  | (a, b) :: l, nd, h => by
    rw [List.map_cons, List.nodup_cons] at nd
    rcases List.mem_cons.mp h with e | h
    · cases e
      simp [List.lookup]
    · have ne : ¬ k = a := fun z => nd.1 (by rw [← z]; exact List.mem_map_of_mem (f := (·.1)) h)
      have e : (k == a) = false := by simpa using ne
      show (match k == a with | true => some b | false => l.lookup k) = some v
      rw [e]
      exact look_mem nd.2 h
theorem look_rev {k : Str} {v : Value} {l : List (Str × Value)} (nd : (l.map (·.1)).Nodup) (h : (k, v) ∈ l) : l.reverse.lookup k = some v :=
  look_mem (by rw [List.map_reverse]; exact List.pairwise_reverse.mpr (nd.imp fun z => Ne.symm z)) (List.mem_reverse.mpr h)
theorem keys_zip {fs : List Str} {us : List Value} (h : us.length = fs.length) : (fs.zip us).map (·.1) = fs := by
  rw [List.map_fst_zip (by omega)]
section
variable {prog : Program} {w : World} {A : Around} {E : Value → Shared → Prop} {R : Result → Shared → Prop} {s : Shared} {K : Frag} {mg mb : Str → Option Value} {C fV fI : Addr} {nm : Str} {fs : List Str}
/-- what __init__ leaves of the fresh exception at x -/
structure Inited (h h' : Heap) (x C dx t0 : Addr) (nm : Str) (kvs : List (Str × Value)) : Prop where
  keep : ∀ b o, b ≠ x → h.get? b = some o → h'.get? b = some o
  obj : h'.get? x = some { cls := .ref C, dict := some dx, data := .fields #[.ref t0, .none, .none, .none, .bool false, .none] }
  big : h.objs.size ≤ dx
  ne : dx ≠ x
  ns : ∃ tk, h'.Ns1 dx (putNs kvs (fun y => if y = "word" then some (.str (Txt.lower nm) tk) else none))
theorem init_leaf (T : Leaf prog K mg C fV fI nm fs) (G : s.heap.Ns mainGlobals mg) (B : s.heap.Ns builtinsNs mb) (hb : mb "super" = bootBuiltins "super") {x t0 : Addr} {us : List Value} (hus : us.length = fs.length)
    (X : K.In s.heap) (hlim : s.heap.NoLimit) (hx : s.heap.get? x = some (excO C t0)) (hKx : K.lookup x = none) (hgx : mainGlobals ≠ x) (hroom : A.depth + 1 < recursionLimit)
    (hq : ∀ h' tk dx, Inited s.heap h' x C dx t0 nm (fs.zip us) → R (.ok (.ret .none)) { s with heap := h', toks := tk }) :
    codeAny (model prog w) A (.call (.ref fI) ⟨.ref x :: us, []⟩) R s := by
  obtain ⟨qual, oc, od, doc, pm, an, ct, osl, cda, cc, p, ps, r, st, ccl, cdd, ccs, vs, tf, cl, cld, csl, ho, hcd, hca, hfile, hln, hcc, hst, hbd⟩ := T.fn
  obtain ⟨cd, hcl, hre, hdi⟩ := T.kind.cd
  obtain ⟨qq, N, bs, bm, sn, sub, ab, col, dd, k0, k1, k3, k5, tk0, hC, hbm⟩ := T.kind.cls
  have hcd' : cd = { name := nm, bases := bs, mro := .ref C :: bm, ns := N, qualname := qq, hasDict := true, slotNames := sn, subclasses := sub, abstract := ab, collection := col, hasDel := false } := by
    have e := hcl
    unfold clsIn at e
    rw [hC] at e
    exact (Option.some.inj e).symm
  refine ks_codeAny_call_defAt (binds := (("self" : Str) :: fs).zip (.ref x :: us)) (by omega) (X _ _ ho) rfl hlim (codeRec_of X hcd) rfl (hbd s _ us hus) ?c1 ?c2 (fun h₁ hns hk₁ => ?_) rfl rfl rfl
  case c1 =>
    intro y hy
    have hy' : y ∈ (PySem.Str.ofString "self", NameKind.local) :: (fs.map (fun f => (f, NameKind.local)) ++ [(PySem.Str.ofString "__class__", .free), (PySem.Str.ofString "super", .globalImplicit)]) := hy
    rcases List.mem_cons.mp hy' with e | h
    · rw [e]
      exact fun z => NameKind.noConfusion z
    · rcases List.mem_append.mp h with h | h
      · obtain ⟨f, _, e⟩ := List.mem_map.mp h
        rw [← e]
        exact fun z => NameKind.noConfusion z
      · rcases List.mem_cons.mp h with e | h
        · rw [e]
          exact fun z => NameKind.noConfusion z
        · rcases List.mem_cons.mp h with e | h
          · rw [e]
            exact fun z => NameKind.noConfusion z
          · cases h
  case c2 =>
    rintro ⟨y, u⟩ hy
    rcases List.mem_cons.mp (List.of_mem_zip hy).1 with e | h
    · rw [show y = "self" from e]
      rfl
    · exact (T.nf y h).2.2.1
  have X₁ : K.In h₁ := X.keeps hk₁
  have ndz : ((((("self" : Str) :: fs).zip (.ref x :: us)).map (·.1))).Nodup := by
    rw [keys_zip (by rw [List.length_cons, List.length_cons, hus])]
    exact T.nd
  have hx₁ := hk₁ _ _ hx
  refine ks_wpAt_execs_cons (ks_wpAt_Expr_any (ks_wpAt_MethodCall (pl := ?pl) (h := ?_) (he := ?he)))
  case he =>
    rw [arm_eval_Call]
    unfold methodCall
    have hp : ∀ env : Env, methodCallPos true (.Call (.Name "super" (r 0)) [] [] (r 1)) env (r 2) (r 3) = pure (r 3) := fun env => by
      unfold methodCallPos
      simp [hln]
    have hf : ∀ (env : Env), methodCallForm 0 (backTo (r 3) (starEach [] env)) (backToKw (r 3) (keywordEach [] env)) = true := fun _ => rfl
    show (do
      let ov ← attributeBase _ _ _ _
      standAt (r 2).atName
      let (f, first) ← holding [ov] (getMethod ov "__init__" _)
      let cp ← methodCallPos true _ _ (r 2) (r 3)
      callWith cp f first _ _) = _
    simp only [hp, pure_bind]
    rfl
  refine ks_wpAt_super_base (f := fI) (cc := cda) (ar := { arg := "self", annotation := none, pos := p }) ?s1 ?s2 (by decide) rfl (X₁ _ _ ho) rfl rfl rfl (X₁ _ _ hca) rfl hfile (by simp) T.top ?_
  case s1 => exact T.ks
  case s2 => exact T.kc
  refine ks_loadName_global rfl ?s3 (loadGlobal_builtin (mb := mb) ?g1 T.ms ?g2 ?g3 ⟨rfl, ?_⟩)
  case s3 => exact T.ks
  case g1 => exact G.keeps hk₁
  case g2 => exact B.keeps hk₁
  case g3 => exact hb.trans (by first | boot_by_name | rfl | kernel_rfl)
  refine wpAny_loadName_free rfl ?s4 rfl ⟨_, X₁ _ _ hcc, rfl⟩ ?_
  case s4 => exact T.kc
  refine wpAny_loadName_local (v := .ref x) rfl ?s5 hns (look_rev ndz (by rw [List.zip_cons_cons]; exact List.mem_cons_self)) ?_
  case s5 => rfl
  have hD : h₁.get? C = _ := X₁ _ _ hC
  refine ks_wpAny_isType_cls hD rfl ⟨rfl, ?_⟩
  have hsub : Looks (model prog w) h₁ (isSubtype (.ref C) (.ref C)) true := looks_mroIn X₁ T.me
  refine ks_wpAny_call_super hD rfl hx₁ rfl (fun c e => by cases e) hsub (fun h₂ hso k₂ => ?_)
  have X₂ : K.In h₂ := X₁.keeps k₂
  have hx₂ := k₂ _ _ hx₁
  have I₂ : W.InstAt h₂ x (excO C t0) C none := ⟨hx₂, rfl, rfl, trivial⟩
  have hal : alongIn K "__init__" ((cd.mro.dropWhile (· != .ref C)).drop 1) = some (some (.ref fV)) := by
    have e := T.up
    unfold ks_superIn at e
    rw [hcl] at e
    exact e
  obtain ⟨of, hof, hofc⟩ : ∃ of, h₂.get? fV = some of ∧ of.cls = .type "function" := by
    have ht' : (K.lookup fV).map (·.cls) = some (.type "function") := T.root.ty
    cases z : K.lookup fV with
    | none => rw [z] at ht'; cases ht'
    | some of => rw [z] at ht'; exact ⟨of, X₂ _ _ z, Option.some.inj ht'⟩
  refine ks_wpAny_getMethod_super hso (looks_opaque X₂ T.kind.th) (l₀ := cd.mro) (fun A Q E s k q => wpAny_bind ((looks_clsIn X₂ hcl) A _ E s k (wpAny_pure q))) rfl X₂ hal hof hofc (ks_ne X₂ I₂ hcl) (by decide) ?_
  have k₃ : ∀ b o, h₂.get? b = some o → (h₂.push { cls := .type "method", data := .fields #[.ref fV, .ref x] }).get? b = some o := fun b o e => Heap.get?_push_of_some _ e
  have hbm' : (h₂.push { cls := .type "method", data := .fields #[.ref fV, .ref x] }).get? h₂.objs.size = some (methodObj (.ref fV) (.ref x)) := Heap.get?_push_at rfl rfl
  have X₃ := X₂.keeps k₃
  have hx₃ := k₃ _ _ hx₂
  have k13 : ∀ b o, h₁.get? b = some o → (h₂.push { cls := .type "method", data := .fields #[.ref fV, .ref x] }).get? b = some o := fun b o e => k₃ b o (k₂ b o e)
  refine callWith_of (P := MethP K h₂.objs.size fV (.ref x)) rfl (fun h X => keeps_M T.fV h X) (evalArgs_nil3 ⟨⟨hbm', X₃⟩, ?_⟩)
  refine wpAny_call (ks_codeAny_call_bound hbm' ?_)
  refine init_root T.root T.kind X₃ (hlim.keeps fun b o e => k13 b o (hk₁ b o e)) hx₃ (by exact hroom) (fun h₄ tk₄ dx BG => ?_)
  have hLx : s.heap.objs.size ≠ x := fun z => absurd (Heap.lt_size hx) (by rw [← z]; exact Nat.lt_irrefl _)
  have X₄ : K.In h₄ := In_but X₃ hKx BG.keep
  have hn₄ := (hns.keeps k13).at fun o e => BG.keep _ _ hLx e
  have hKd : K.lookup dx = none := notIn_of X₃ BG.big
  have hLd : s.heap.objs.size ≠ dx := fun z => by
    have h1 := (hns.keeps k13).lt
    have h2 := BG.big
    rw [z] at h1
    exact absurd (Nat.lt_of_lt_of_le h1 h2) (Nat.lt_irrefl _)
  obtain ⟨tw, hw⟩ := BG.ns
  have hin : ∀ p ∈ fs.zip us, p.1 ∈ fs := fun p hp => (List.of_mem_zip hp).1
  refine wpAt_of_wpAny ?_
  refine stores_ok T.kind (m := fun y => (((("self" : Str) :: fs).zip (Value.ref x :: us)).reverse.lookup y)) rfl (look_rev ndz (by rw [List.zip_cons_cons]; exact List.mem_cons_self)) rfl hKd BG.ne.symm hLd (fs.zip us) st _ ["word"] _ (by rw [keys_zip hus]; exact hst) (fun p hp => ?_) X₄ hn₄ BG.obj hw (Within.cons ("word" : Str) _ Within.nil) ?_ fun h₅ tk₅ k₅ n₅ => ?_
  · obtain ⟨a1, a2, a3, _⟩ := T.nf p.1 (hin p hp)
    exact ⟨look_rev ndz (by rw [List.zip_cons_cons]; exact List.mem_cons_of_mem _ hp), a1, a3, a2⟩
  · have h1 : (fs.zip us).length ≤ fs.length := by
      rw [List.length_zip]
      exact Nat.min_le_left _ _
    have h2 := T.few
    rw [List.length_cons, List.length_nil]
    omega
  · refine hq h₅ tk₅ dx ⟨fun b o hb e => ?_, ?_, ?_, BG.ne, tw, n₅⟩
    · have e1 := k13 b o (hk₁ b o e)
      exact k₅ b o (fun z => absurd (Heap.lt_size e1) (by rw [z]; exact Nat.not_lt.mpr BG.big)) (BG.keep b o hb e1)
    · exact k₅ _ _ BG.ne.symm BG.obj
    · have h1 := (hns.keeps k13).lt
      exact Nat.le_of_lt (Nat.lt_of_lt_of_le h1 BG.big)
end
end VX
end PySem

set_option Elab.async false
set_option linter.all false
set_option maxRecDepth 100000
set_option maxHeartbeats 2000000
namespace PySem
namespace VX
open PySem.W PySem.Calls PyProof.Rows PySem.HandSPX
section
variable {prog : Program} {w : World} {A : Around} {E : Value → Shared → Prop} {R : Result → Shared → Prop} {s : Shared} {K : Frag} {mg mb : Str → Option Value} {C fV fI : Addr} {nm : Str} {fs : List Str}
/-- a made exception -/
structure Thrown (h h' : Heap) (e C d : Addr) (nm : Str) (kvs : List (Str × Value)) : Prop where
  keep : ∀ b o, h.get? b = some o → h'.get? b = some o
  new : h.objs.size ≤ e
  obj : ∃ oe vs, h'.get? e = some oe ∧ oe.cls = .ref C ∧ oe.dict = some d ∧ oe.data = .fields vs ∧ vs[1]? = some .none ∧ vs[2]? = some .none
  big : h.objs.size ≤ d
  ne : d ≠ e
  ns : ∃ tk, h'.Ns1 d (putNs kvs (fun y => if y = "word" then some (.str (Txt.lower nm) tk) else none))
theorem leaf_made (T : Leaf prog K mg C fV fI nm fs) (G : s.heap.Ns mainGlobals mg) (B : s.heap.Ns builtinsNs mb) (hb : mb "super" = bootBuiltins "super") {us : List Value} (hus : us.length = fs.length)
    (X : K.In s.heap) (hlim : s.heap.NoLimit) (hroom : A.depth + 2 < recursionLimit)
    (hq : ∀ h' tk e d, Thrown s.heap h' e C d nm (fs.zip us) → R (.ok (.ret (.ref e))) { s with heap := h', toks := tk }) :
    codeAny (model prog w) A (.call (.ref C) ⟨us, []⟩) R s := by
  obtain ⟨qq, N, bs, bm, sn, sub, ab, col, dd, k0, k1, k3, k5, tk0, hC, hbm⟩ := T.kind.cls
  obtain ⟨hp, g, dr, tk, os⟩ := s
  have k : ∀ b o, hp.get? b = some o → ((hp.push (kdv_tup us)).push (excO C hp.objs.size)).get? b = some o := fun b o e => Heap.get?_push_of_some _ (Heap.get?_push_of_some _ e)
  have hget : ((hp.push (kdv_tup us)).push (excO C hp.objs.size)).get? (hp.objs.size + 1) = some (excO C hp.objs.size) := by heap_get
  have hnx : K.lookup (hp.objs.size + 1) = none := notIn_of X (Nat.le_succ _)
  have hsz : us.length ≤ sizeLine := by
    rw [hus, sizeLine_eq]
    have := T.few
    omega
  refine call_own F.excBase_ValueError (fun Y => refsVE_contains Y bm hbm) (X _ _ hC) (looks_findIn X T.iC) (fun self => bind_fn X self T.tI) hsz ?_
  refine init_leaf (s := ⟨(hp.push (kdv_tup us)).push (excO C hp.objs.size), g, dr, tk, os⟩) T (G.keeps k) (B.keeps k) hb hus (X.keeps k) (hlim.keeps k) hget hnx (fun z => ?_) ?_ fun h' tk' dx M => ?_
  · have h1 := G.lt
    rw [z] at h1
    exact absurd (Nat.lt_of_succ_lt h1) (Nat.lt_irrefl _)
  · rw [L2.make_depth]
    omega
  · have old : ∀ b o, hp.get? b = some o → h'.get? b = some o := fun b o e => M.keep b o (Nat.ne_of_lt (Nat.lt_succ_of_lt (Heap.lt_size e))) (k b o e)
    have z : hp.objs.size + 1 + 1 ≤ dx := by
      have q := M.big
      rw [Heap.size_push, Heap.size_push] at q
      exact q
    exact ⟨rfl, hq h' tk' (hp.objs.size + 1) dx ⟨old, Nat.le_succ _, ⟨_, _, M.obj, rfl, rfl, rfl, rfl, rfl⟩, Nat.le_trans (Nat.le_trans (Nat.le_succ _) (Nat.le_succ _)) z, M.ne, M.ns⟩⟩
end
end VX
end PySem
namespace L2
open PySem PySem.Spec PyProof.Rows
/-- the exception's own dict: the fields laid one by one -/
def putV : List (Str × V) → List (Str × V) → List (Str × V)
  | [], l => l
  | (f, v) :: r, l => putV r ((f, v) :: l)
theorem relO_putV : ∀ {fs : List Str} {vs : List V} {us : List Value} {l : List (Str × V)} {m : Str → Option Value}, Vals vs us → (∀ g, RelO (l.lookup g) (m g)) → ∀ g, RelO ((putV (fs.zip vs) l).lookup g) (PySem.VX.putNs (fs.zip us) m g)
  | [], vs, us, l, m, _, h, g => by
    rw [List.zip_nil_left, List.zip_nil_left]
    exact h g
  | f :: fs, _, _, l, m, .nil, h, g => by
    rw [List.zip_nil_right, List.zip_nil_right]
    exact h g
  | f :: fs, _, _, l, m, .cons r t, h, g => by
    rw [List.zip_cons_cons, List.zip_cons_cons]
    exact relO_putV t (relO_put r h) g
section
variable {X : Cx} {C fV fI : Addr} {nm : Str} {fs : List Str}
def excD (fs : List Str) (nm : Str) (vs : List V) : List (Str × V) := putV (fs.zip vs) [(("word" : Str), V.str (Txt.lower nm))]
/-- C(e, ..) -/
def tMkL (C : Addr) (fs : List Str) (nm : Str) (ta : TA) : St → Hp → XK → Prop := fun σ H Q => ta σ H fun vs H1 => vs.length = fs.length ∧ ∀ d, H1 d = none → Q (.ref C) (some d) (upd H1 d (.xd (excD fs nm vs)))
theorem pmk_leaf {x : Str} {a : Expr} {es : List Expr} {ta : TA} {p pos : Pos} {k : Nat} (T : PySem.VX.Leaf X.prog X.K X.mg C fV fI nm fs) (hr : Room k X.A) (ha : PA X (a :: es) ta) (hg : Gl X x) (hm : X.mg x = some (.ref C)) (hdb : (x == ("__debug__" : Str)) = false := by decide)
    (he : starEach (a :: es) X.env = (false, eval a X.env) :: starEach es X.env := by rfl) (hpl : (backTo pos (starEach es X.env)).any (·.1) = false := by rfl) :
    PMk X (.Call (.Name x p) (a :: es) [] pos) (tMkL C fs nm ta) := by
  intro pins s σ H Q I h
  refine wpAny_Call_Name_kw (ld_glob I hg hm ?_ hdb)
  refine PySem.W.callWith_K (h₀ := X.base) I.ok.mod.kin T.kind.kp (thn (ha.run pos pins s σ H _ I h) fun us s1 hh => ?_) he hpl
  obtain ⟨vs, H1, I1, r1, hl, q1⟩ := hh
  refine ⟨I1.kIn, ?_⟩
  show wpAny _ _ (call (.ref C) us) _ _ _
  have hlim := I1.nolimit
  obtain ⟨mb, hmb, hbb⟩ := I1.ok.mod.blt
  have hus : us.length = fs.length := by rw [← r1.length, hl]
  have KI := I1.kIn
  have Gs := I1.ok.mod.glob.keeps I1.bk
  have Bs := hmb.keeps I1.bk
  obtain ⟨hp, g, dr, tk, os⟩ := s1
  refine wpAny_call (PySem.VX.leaf_made T Gs Bs (hbb _ (by decide)) hus KI hlim (by have := hr.dp; omega) fun h' tk' e d M => ?_)
  show MkP X pins σ Q (.ref e) ⟨h', g, dr, tk', os⟩
  obtain ⟨oe, fv, hoe, hc, hd, hdat, h1, _⟩ := M.obj
  obtain ⟨tw, hns⟩ := M.ns
  obtain ⟨G', g1, g2⟩ := restrict h' fun b => decide (b ≠ e)
  have gk : ∀ b, b ≠ e → G'.get? b = h'.get? b := fun b hb => g1 b (decide_eq_true hb)
  have ge : G'.get? e = none := g2 e (by simp)
  have old : ∀ b o, hp.get? b = some o → G'.get? b = some o := fun b o q => (gk b (Nat.ne_of_lt (Nat.lt_of_lt_of_le (Heap.lt_size q) M.new))).trans (M.keep b o q)
  have ob : ObjOk X.prog X.w (upd H1 d (.xd (excD fs nm vs))) G' d (.xd (excD fs nm vs)) :=
    ⟨_, hns.at (fun o q => (gk d M.ne).trans q), relO_putV r1 (relO_put (fs := []) ⟨tw, rfl⟩ fun g => True.intro)⟩
  have J : Inv X pins σ (upd H1 d (.xd (excD fs nm vs))) ⟨G', g, dr, tk', os⟩ := I1.laid (t' := tk') old M.big ob
  refine ⟨e, oe, fv, ⟨G', g, dr, tk', os⟩, _, .ref C, some d, rfl, J, fun b o q => ?_, ge, hoe, ⟨hc, hd⟩, hdat, h1, ?_, rfl, I1.bare, raises_own T.kind.ex T.kind.ty, q1 d (I1.hok.fresh M.big)⟩
  · by_cases hb : b = e
    · have q' : G'.get? b = some o := q
      rw [hb, ge] at q'
      cases q'
    · exact (gk b hb).symm.trans q
  · rw [upd_ne (Ne.symm M.ne)]
    exact I1.hok.fresh M.new
/-- raise C(e, ..) -/
def tRaiseL (C : Addr) (fs : List Str) (nm : Str) (W : WX) (ta : TA) : TS := fun _ σ H => tMkL C fs nm ta σ H fun cls d H' => W cls d σ H'
theorem ps_raiseL {x : Str} {a : Expr} {es : List Expr} {ta : TA} {W : WX} {p pos pos2 : Pos} {k : Nat} (hc : X.calm = true) (T : PySem.VX.Leaf X.prog X.K X.mg C fV fI nm fs) (hr : Room k X.A) (tk : Takes X W) (hm : X.mg x = some (.ref C)) (ha : PA X (a :: es) ta) (hg : Gl X x := by rfl)
    (hdb : (x == ("__debug__" : Str)) = false := by decide) (he : starEach (a :: es) X.env = (false, eval a X.env) :: starEach es X.env := by rfl) (hpl : (backTo pos (starEach es X.env)).any (·.1) = false := by rfl) :
    PS X (.Raise (some (.Call (.Name x p) (a :: es) [] pos)) none pos2) (tRaiseL C fs nm W ta) := ps_raise hc tk (pmk_leaf T hr ha hg hm hdb he hpl)
end
end L2

set_option Elab.async false
set_option linter.all false
set_option maxRecDepth 100000
set_option maxHeartbeats 2000000
/-! ### raise, with the context told -/
namespace L2
open PySem PySem.Spec PyProof.Rows
section
variable {X : Cx} {C fV fI : Addr} {nm : Str} {fs : List Str}
theorem pmk_leafN {x : Str} {a : Expr} {es : List Expr} {ta : TA} {p pos : Pos} {k : Nat} (T : PySem.VX.Leaf X.prog X.K X.mg C fV fI nm fs) (hr : Room k X.A) (ha : PA X (a :: es) ta) (hg : Gl X x) (hm : X.mg x = some (.ref C)) (hdb : (x == ("__debug__" : Str)) = false := by decide)
    (he : starEach (a :: es) X.env = (false, eval a X.env) :: starEach es X.env := by rfl) (hpl : (backTo pos (starEach es X.env)).any (·.1) = false := by rfl) :
    L2N.PMk X (.Call (.Name x p) (a :: es) [] pos) (tMkL C fs nm ta) := by
  intro pins s σ H Q I h
  refine wpAny_Call_Name_kw (ld_glob I hg hm ?_ hdb)
  refine PySem.W.callWith_K (h₀ := X.base) I.ok.mod.kin T.kind.kp (thn (ha.run pos pins s σ H _ I h) fun us s1 hh => ?_) he hpl
  obtain ⟨vs, H1, I1, r1, hl, q1⟩ := hh
  refine ⟨I1.kIn, ?_⟩
  show wpAny _ _ (call (.ref C) us) _ _ _
  have hlim := I1.nolimit
  obtain ⟨mb, hmb, hbb⟩ := I1.ok.mod.blt
  have hus : us.length = fs.length := by rw [← r1.length, hl]
  have KI := I1.kIn
  have Gs := I1.ok.mod.glob.keeps I1.bk
  have Bs := hmb.keeps I1.bk
  obtain ⟨hp, g, dr, tk, os⟩ := s1
  refine wpAny_call (PySem.VX.leaf_made T Gs Bs (hbb _ (by decide)) hus KI hlim (by have := hr.dp; omega) fun h' tk' e d M => ?_)
  show L2N.MkP X pins σ Q (.ref e) ⟨h', g, dr, tk', os⟩
  obtain ⟨oe, fv, hoe, hc, hd, hdat, h1, h2⟩ := M.obj
  obtain ⟨tw, hns⟩ := M.ns
  obtain ⟨G', g1, g2⟩ := restrict h' fun b => decide (b ≠ e)
  have gk : ∀ b, b ≠ e → G'.get? b = h'.get? b := fun b hb => g1 b (decide_eq_true hb)
  have ge : G'.get? e = none := g2 e (by simp)
  have old : ∀ b o, hp.get? b = some o → G'.get? b = some o := fun b o q => (gk b (Nat.ne_of_lt (Nat.lt_of_lt_of_le (Heap.lt_size q) M.new))).trans (M.keep b o q)
  have ob : ObjOk X.prog X.w (upd H1 d (.xd (excD fs nm vs))) G' d (.xd (excD fs nm vs)) :=
    ⟨_, hns.at (fun o q => (gk d M.ne).trans q), relO_putV r1 (relO_put (fs := []) ⟨tw, rfl⟩ fun g => True.intro)⟩
  have J : Inv X pins σ (upd H1 d (.xd (excD fs nm vs))) ⟨G', g, dr, tk', os⟩ := I1.laid (t' := tk') old M.big ob
  refine ⟨e, oe, fv, ⟨G', g, dr, tk', os⟩, _, .ref C, some d, rfl, J, fun b o q => ?_, ge, hoe, ⟨hc, hd, fun vs e => ?_⟩, hdat, h1, ?_, rfl, I1.bare, raises_own T.kind.ex T.kind.ty, q1 d (I1.hok.fresh M.big)⟩
  · by_cases hb : b = e
    · have q' : G'.get? b = some o := q
      rw [hb, ge] at q'
      cases q'
    · exact (gk b hb).symm.trans q
  · rw [hdat] at e
    cases e
    exact h2
  · rw [upd_ne (Ne.symm M.ne)]
    exact I1.hok.fresh M.new
theorem ps_raiseN {x : Str} {a : Expr} {es : List Expr} {ta : TA} {W : WX} {p pos pos2 : Pos} {k : Nat} (hc : X.calm = true) (T : PySem.VX.Leaf X.prog X.K X.mg C fV fI nm fs) (hr : Room k X.A) (tk : L2N.Takes X W) (hm : X.mg x = some (.ref C)) (ha : PA X (a :: es) ta) (hg : Gl X x := by rfl)
    (hdb : (x == ("__debug__" : Str)) = false := by decide) (he : starEach (a :: es) X.env = (false, eval a X.env) :: starEach es X.env := by rfl) (hpl : (backTo pos (starEach es X.env)).any (·.1) = false := by rfl) :
    PS X (.Raise (some (.Call (.Name x p) (a :: es) [] pos)) none pos2) (tRaiseL C fs nm W ta) := L2N.ps_raise hc tk (pmk_leafN T hr ha hg hm hdb he hpl)
end
/-! ### defs that are handed the handled exception, within its suite -/
open L2H
/-- as FnOk, the handled exception p told to the promise -/
structure FnE (P : Program) (w : World) (K : PySem.W.Frag) (mg : Str → Option Value) (base : Heap) (k : Nat) (f : Addr) (fd : FuncData) (ps : List Str) (sp : Addr × Obj → Sp) : Prop where
  len : ∀ p vs H Q E, sp p vs H Q E → vs.length = ps.length
  run : ∀ (A : Around) (outer : List Env) (s : Shared) (H : Hp) (args : Args) (us : List Value) (vs : List V) (Q : VK) (E : XK) (p : Addr × Obj), RoomH k A → Hot1 A p → PinOk outer H s p → Env0 P w K mg base A outer s H → BindsTo s fd args (ps.zip us) → Vals vs us → sp p vs H Q E →
    codeAny (model P w) A (.call (.ref f) args) (CR CX0 outer P w H s Q E) s
theorem Fun.okE {P : Program} {w : World} {K : PySem.W.Frag} {mg : Str → Option Value} {base : Heap} {x qual : Str} {st : Stmt} {f : Addr} {fd : FuncData} {N ps : List Str} {k : Nat} {sp : Addr × Obj → Sp} (F : Fun K x qual st f fd) (S : FnScope N ps (defScope st)) (len : ∀ p vs H Q E, sp p vs H Q E → vs.length = ps.length)
    (hbody : ∀ (cdv : Value) (A : Around) (outer : List Env) (s : Shared) (H : Hp) (vs : List V) (Q : VK) (E : XK) (p : Addr × Obj), Hot1 A p → RoomH k (A.deeper (envOfC qual (defScope st) s.heap.objs.size f cdv)) → sp p vs H Q E →
      ∃ t, PSs (cxH CX0 P w K mg base N qual (defScope st) f cdv A outer s H E p).nox (defBody st) t ∧ t { nx := fun _ H' => Q .non H', rt := Q } (start N vs) H) : FnE P w K mg base (k + 1) f fd ps sp := by
  obtain ⟨oc, od, kV, doc, pm, an, cdv, ct, osl, rfl, lk, hcd⟩ := F.ex
  refine ⟨len, fun A outer s H args us vs Q E p hr hot hpin e0 hb r hsp => ?_⟩
  have hl := len _ _ _ _ _ hsp
  have KX : K.In s.heap := e0.mod.kin.keeps fun b o e => (e0.bs b o e).1
  have lim : s.heap.NoLimit := e0.mod.nolimit.keeps fun b o e => (e0.bs b o e).1
  have hkind : ∀ y ∈ ps.zip us, (defScope st).names.lookup y.1 = some .local ∨ ((defScope st).names.lookup y.1 = some .cell ∧ ((cellsFrom (s.heap.objs.size + 1) (defScope st).names []).lookup y.1).isSome = true) := fun ⟨n, v⟩ hy =>
    (S.par n (List.of_mem_zip hy).1).elim .inl fun q => .inr ⟨q, PySem.W.cellsFrom_some _ _ _ (.inl q)⟩
  refine codeAny_call_function hr.depth (KX _ _ lk) rfl S.co S.gen rfl (PySem.W.codeRec_of KX hcd) (hb _ _ _ _ ?_)
  refine wpAny_newFunctionEnv_cells S.kind hkind fun env he s1 y => ?_
  subst he
  refine ⟨lim.keeps y.toInCall.keep, codeAny_func ?_⟩
  obtain ⟨t, ht, hq⟩ := hbody cdv A outer s H vs Q E p hot (hr.deeper _) hsp
  have I := inv_startH (CX := CX0) (E := E) S hpin e0 hl r y
  refine wpAny_mono (ht.nox.run [] s1 (start N vs) H _ I hq) (fun fl s' hs => ?_) fun e s' hs => hs
  cases fl with
  | ret u =>
    obtain ⟨v, σ', H', J, rv, q⟩ := hs
    exact ⟨v, H', J.os, J.bare, J.base, J.hok, rv, q⟩
  | next =>
    obtain ⟨σ', H', J, q⟩ := hs
    exact ⟨V.non, H', J.os, J.bare, J.base, J.hok, rfl, q⟩
  | brk =>
    obtain ⟨_, _, _, q⟩ := hs
    exact False.elim q
  | cont =>
    obtain ⟨_, _, _, q⟩ := hs
    exact False.elim q
section
variable {X : Cx} {k : Nat} {f : Addr} {fd : FuncData} {ps : List Str} {sp : Addr × Obj → Sp} {x : Str} {q pos : Pos} {e : Expr} {es : List Expr} {t : TA}
/-- f(e, ..) within the suite (or within a def called there); p the handled exception -/
def tCallE (sp : Addr × Obj → Sp) (p : Addr × Obj) (t : TA) : TE := fun σ H Q => t σ H fun vs H1 => sp p vs H1 Q E0
theorem pe_callE {p : Addr × Obj} (F : FnE X.prog X.w X.K X.mg X.base k f fd ps sp) (hr : RoomH k X.A) (hot : Hot1 X.A p) (hp : p ∈ X.pn) (hg : Gl X x) (hm : X.mg x = some (.ref f)) (hk : PySem.W.keepIn X.K (.ref f) = true) (hb : Binds X.K fd ps [])
    (ha : PA X (e :: es) t) (hdb : (x == ("__debug__" : Str)) = false := by decide) (he : starEach (e :: es) X.env = (false, eval e X.env) :: starEach es X.env := by rfl) (hpl : (backTo pos (starEach es X.env)).any (·.1) = false := by rfl) :
    PE X (.Call (.Name x q) (e :: es) [] pos) (tCallE sp p t) := by
  refine ⟨fun pins s σ H Q I h => ?_⟩
  refine wpAny_Call_Name_kw (ld_glob I hg hm ?_ hdb)
  refine PySem.W.callWith_K (h₀ := X.base) I.ok.mod.kin hk (thn (ha.run pos pins s σ H _ I h) fun us s1 ⟨vs, H1, J, r, hsp⟩ => ⟨J.kIn, ?_⟩) he hpl
  have hl : us.length = ps.length := by rw [← r.length]; exact F.len _ _ _ _ _ hsp
  have b := hb s1 us J.kIn (by rw [List.append_nil]; exact hl)
  rw [List.append_nil] at b
  have P1 := J.pin p (List.mem_append_left _ hp)
  have hpin : PinOk X.stack H1 s1 p := ⟨P1.1, P1.2.1, fun hm => (List.mem_cons.mp (J.stkSub p.1 hm)).elim P1.2.2.1 P1.2.2.2.1, P1.2.2.2.2⟩
  refine wpAny_call (codeAny_mono (F.run X.A X.stack s1 H1 ⟨us, []⟩ us vs Q E0 p hr hot hpin J.env0 b r hsp) fun r s' hq => ?_)
  cases r with
  | error e => exact False.elim hq
  | ok fl =>
    cases fl with
    | ret u => exact J.after hq
    | next => exact False.elim hq
    | brk => exact False.elim hq
    | cont => exact False.elim hq
/-! ### the handled exception's class and fields -/
/-- p is an exception of the class at C, its dict at d -/
def ExP (C d : Addr) (p : Addr × Obj) : Prop := Zc (.ref C) (some d) p.2 ∧ ∃ vs, p.2.data = .fields vs
theorem ExP.inst {C d : Addr} {p : Addr × Obj} {fs : List (Str × V)} {pins : List (Addr × Obj)} {σ : St} {H : Hp} {s : Shared} (z : ExP C d p) (hp : p ∈ X.pn) (I : Inv X pins σ H s) (hd : H d = some (.xd fs)) :
    ∃ od, PySem.W.InstAt s.heap p.1 p.2 C (some od) ∧ ∀ f v, fs.lookup f = some v → ∃ u, PySem.W.lookIn f od = some (some u) ∧ RelV v u := by
  obtain ⟨⟨h1, h2⟩, vs, h3⟩ := z
  have e := (I.pin p (List.mem_append_left _ hp)).1
  have hx : ObjOk X.prog X.w H s.heap d (.xd fs) := I.hok d _ hd
  obtain ⟨mA, hns, hr⟩ := hx
  obtain ⟨od, ho, hl⟩ := lookIn_ns hns
  refine ⟨od, ⟨e, h1, by unfold PySem.W.notCls; rw [h3] <;> rfl, by rw [h2]; exact ho⟩, fun f v hv => ?_⟩
  obtain ⟨u, hu, ru⟩ := RelO.some_of (v := v) (o := mA f) (by rw [← hv]; exact hr f)
  exact ⟨u, by rw [hl, hu], ru⟩
/-- isinstance(e, c), e the pinned exception -/
def rIsP (K : PySem.W.Frag) (C d : Addr) (p : Addr × Obj) : List V → Hp → VK → Prop := fun xs H Q => ∃ (c : V) (cv : Value) (b : Bool) (fs : List (Str × V)), xs = [.ref p.1, c] ∧ (∀ u, RelV c u → u = cv) ∧ PySem.W.kitOne K (.ref C) cv = some b ∧ H d = some (.xd fs) ∧ Q (.bl b) H
theorem call_isP {p : Addr × Obj} {C d : Addr} {nm : Str} (hp : p ∈ X.pn) (T : PySem.VX.Kind X.K C nm) (z : ExP C d p) : CallR X (.builtin "isinstance") (rIsP X.K C d p) := by
  intro pins s σ H xs us Q I r h
  obtain ⟨c, cv, b, fs, rfl, hcv, e, hd, q⟩ := h
  cases r with
  | cons rx rr =>
    cases rr with
    | cons rt rr =>
      cases rr
      cases rx
      have ec := hcv _ rt
      subst ec
      obtain ⟨od, J, _⟩ := z.inst hp I hd
      exact PySem.W.kia_one (PySem.W.kitx_exc T.some T.ga T.gg T.ex T.cl T.sp T.tk T.mo) I.kIn J e (fun z => nomatch z) fun tk => ⟨.bl b, H, I.kept (t' := tk) fun _ _ z => z, rfl, q⟩
/-- e.f, e the pinned exception -/
def tXp (C d : Addr) (p : Addr × Obj) (f : Str) (te : TE) : TE := fun σ H Q => te σ H fun x H1 => x = .ref p.1 ∧ ∃ (fs : List (Str × V)) (v : V), H1 d = some (.xd fs) ∧ fs.lookup f = some v ∧ Q v H1
theorem pe_xp {p : Addr × Obj} {C d : Addr} {nm : Str} {e : Expr} {te : TE} {pos : Pos} {n : Str} (hp : p ∈ X.pn) (T : PySem.VX.Kind X.K C nm) (z : ExP C d p) (hno : PySem.W.findIn X.K (.ref C) n = some none) (he : PE X e te) (hb : attributeBase e n X.env (eval e X.env) = eval e X.env := by rfl) :
    PE X (.Attribute e n pos) (tXp C d p n te) := by
  refine ⟨fun pins s σ H Q I h => ?_⟩
  refine attr_of hb (thn (he.run pins s σ H _ I h) fun u s1 hh => ?_)
  obtain ⟨x, H1, J, rx, ex, fs, v, hd, l, q⟩ := hh
  subst ex
  obtain rfl : u = Value.ref p.1 := rx
  obtain ⟨od, ia, look⟩ := z.inst hp J hd
  obtain ⟨w', hw, rw'⟩ := look n v l
  exact PySem.HandSPX.exc_get J.kIn ia T.ga T.gg T.ex (PySem.W.findObj_own T.hd hno rfl hw) (handed_of rw') ⟨v, H1, J.tok _, rw', q⟩
end
end L2

set_option Elab.async false
set_option linter.all false
set_option maxRecDepth 100000
set_option maxHeartbeats 2000000
namespace HotL
open PySem PySem.Spec PyProof.Rows HotX
section
variable {prog : Program} {w : World} {A : Around} {E : Value → Shared → Prop} {s : Shared}
/-- the end of a list's iterator, an exception being handled -/
theorem list_end_hot {it l x1 : Addr} {i : Nat} {items : Array Value} {Q : Option Value → Shared → Prop} (hot : HotAt A x1 s.heap) (h1i : x1 ≠ it) (hit : s.heap.IsListIter it l i) (hl : s.heap.IsList l items) (hx : items[i]? = none)
    (hQ : ∀ h', (∀ b o, b ≠ it → s.heap.get? b = some o → h'.get? b = some o) → Q none { s with heap := h' }) : wpAny (model prog w) A (pyNext (.ref it)) Q E s := by
  obtain ⟨o, ho, hc, hd⟩ := id hit
  obtain ⟨ol, hol, _, nl, hdl⟩ := hl
  obtain ⟨hh, o1, vs1, h1, d1, c1⟩ := hot
  unfold pyNext
  refine wpAny_bind (wpAny_attempt (wpAny_callSpecial?_slot (name := Str.ofString "__next__") hit.typeIs slot_listiter_next
    (wpAny_call_entry slot_listiter_next hit.typeIs entry_listiter_next ?_ (args_listiter_next _))))
  show wpAny _ _ (field (.ref it) 0 >>= _) _ _ s
  refine wpAny_bind (wpAny_field ho hd (x := .ref l) rfl ?_)
  show wpAny _ _ (if (Value.ref l == Value.none) = true then _ else _) _ _ s
  rw [if_neg (show ¬ ((Value.ref l == Value.none) = true) from Bool.false_ne_true)]
  show wpAny _ _ (field (.ref it) 1 >>= _) _ _ s
  refine wpAny_bind (wpAny_field ho hd (x := .int i 0) rfl ?_)
  show wpAny _ _ (seqItems? (.ref l) >>= _) _ _ s
  refine wpAny_bind (wpAny_seqItems hol hdl ?_)
  simp only [Int.toNat_natCast, hx]
  refine wpAny_bind (wpAny_rule (wpAny_bind (wpAny_setField ho hd (by simp) ?_)))
  show wpAny _ _ (newExc (.type "StopIteration") [] >>= _) _ _ _
  refine wpAny_bind ?_
  simp only [newExc, newTuple]
  refine wpAny_bind (wpAny_newObj_type ?_ (by size_fits))
  refine wpAny_bind (m := firstArgMember _ _) (wpAny_of_eq (a := Value.none) (by first | rfl | (simp only [firstArgMember]; rfl)) ?_)
  refine wpAny_newObj_type ?_ (by size_fits)
  have keep0 : ∀ b u, b ≠ it → s.heap.get? b = some u → (s.heap.update it (Obj.mapFields (·.setIfInBounds 0 .none))).get? b = some u := fun b u hb e => (Heap.get?_update_other _ _ (Ne.symm hb)).trans e
  have h1' := keep0 _ _ h1i h1
  refine raiseNew_hot ⟨hh, o1, vs1, Heap.get?_push_of_some _ (Heap.get?_push_of_some _ h1'), d1, c1⟩ (Nat.ne_of_lt (Heap.lt_size (Heap.get?_push_of_some _ h1'))) (Heap.get?_push_size _ rfl) rfl (by first | (simp; done) | (simp; omega) | (simp only [Array.size_append]; simp; omega)) ?_
  refine wpAny_bind (wpAny_isInstance (T := "StopIteration") (b := true) ⟨_, Heap.get?_update_self _ (Heap.get?_push_size _ rfl) rfl, rfl⟩ isSubtype_stop ?_)
  refine wpAny_pure (hQ _ fun b u hb e => ?_)
  rw [Heap.get?_update_other _ _ (Nat.ne_of_gt (Heap.lt_size (Heap.get?_push_of_some _ (keep0 _ _ hb e))))]
  exact Heap.get?_push_of_some _ (Heap.get?_push_of_some _ (keep0 _ _ hb e))
end
end HotL
namespace L2
open PySem PySem.Spec PyProof.Rows L2H HotX
section
variable {X : Cx}
/-- [elt for tg in iter if ..] over a list, while the exception of p is handled -/
theorem pe_lcE {p : Addr × Obj} {elt tg iter : Expr} {ifs : List Expr} {scope : Scope} {own : List (Str × Nat)} {pos : Pos} {tl : TE} {g : TG} {tt : TT} {te : TE} (hot : Hot1 X.A p) (hp : p ∈ X.pn) (hN : X.N.Nodup) (hl : PE X iter tl) (ok : BlkOk X.N X.env.scope scope own)
    (hg : ∀ (s : Shared) (H : Hp) (C : Addr) (cl : List (Str × Addr)) (fp : List Addr), PG (X.blk s H scope (compEnvC scope cl C X.env) fp) tg g) (ht : ∀ (s : Shared) (H : Hp) (C : Addr) (cl : List (Str × Addr)) (fp : List Addr), PTs (X.blk s H scope (compEnvC scope cl C X.env) fp) ifs tt)
    (he : ∀ (s : Shared) (H : Hp) (C : Addr) (cl : List (Str × Addr)) (fp : List Addr), PE (X.blk s H scope (compEnvC scope cl C X.env) fp) elt te) (hs : ∀ x, foldedSetIterable iter X.env x = pure x := by intro _; rfl) :
    PE X (.ListComp elt [⟨tg, iter, ifs, 0⟩] scope pos) (tLc (iList X.K tl) g tt te (own.map (·.2))) := by
  refine ⟨fun pins s σ H Q I h => ?_⟩
  rw [eval_ListComp]
  obtain ⟨hhd, hvs, hdat, hctx⟩ := hot
  have hfree : ∀ y ∈ scope.names, y.2 = .free → ∃ c, X.env.cells.lookup y.1 = some c := fun y hy e => (ok.free y hy e).elim (fun k => I.ok.has _ (.inl k)) fun k => I.ok.has _ (.inr k)
  refine wpAny_comprehension_free (use := none) rfl hs (closure_ok hfree) ok.kind (fun y hy e => by rw [ok.uniq y hy, e]) (thn (hl.run pins s σ H _ I h) fun v s1 ⟨xv, H1, I1, r1, q1⟩ => ?_)
  obtain ⟨a, ea, ⟨xs0, hq0⟩, q⟩ := q1
  subst ea
  cases r1
  obtain ⟨its0, rv0, pl0, hz0⟩ := I1.list hq0
  refine wpAny_pyIter_list pl0.isList ?_
  generalize hit0 : s1.heap.objs.size = it
  generalize hs2 : ({ s1 with heap := s1.heap.push { cls := .type "list_iterator", data := .fields #[.ref a, .int 0 0] } } : Shared) = s2
  have h2 : s2.heap = s1.heap.push { cls := .type "list_iterator", data := .fields #[.ref a, .int 0 0] } := by rw [← hs2]
  have I2 : Inv X pins σ H1 s2 := by
    rw [← hs2]
    exact I1.kept (t' := s1.toks) fun b o e => Heap.get?_push_of_some _ e
  have st2 : s2.heap.IsListIter it a 0 := by
    rw [h2, ← hit0]
    exact ⟨_, Heap.get?_push_size _ rfl, rfl, rfl⟩
  have f2 : FpOk X pins H1 it := by
    rw [← hit0]
    exact I1.fpOk (Nat.le_refl _) (I1.hok.fresh (Nat.le_refl _))
  refine wpAny_newObj_type (newEnv_comp ?_) (by show 0 ≤ sizeLine; decide)
  generalize hD : s2.heap.objs.size = D
  have hDn : H1 D = none := I2.hok.fresh (Nat.le_of_eq hD)
  obtain ⟨W, ⟨m0, w0⟩, turn⟩ := q D hDn
  generalize hs3 : ({ s2 with heap := s2.heap.push { cls := .type "list", data := .seq ([] : List Value).toArray } } : Shared) = s3
  have h3 : s3.heap = s2.heap.push { cls := .type "list", data := .seq ([] : List Value).toArray } := by rw [← hs3]
  have I3 : Inv X pins σ (upd H1 D (.lst [])) s3 := by
    rw [← hs3]
    refine I2.laid (t' := s2.toks) (fun b o e => Heap.get?_push_of_some _ e) (Nat.le_of_eq hD) ⟨Nat.zero_le _, [], 0, .nil, ?_⟩
    rw [← hD]
    exact Heap.get?_push_size _ rfl
  have itlt : it < s2.heap.objs.size := by
    obtain ⟨o, e, _⟩ := id st2
    exact Heap.lt_size e
  have itD : it ≠ D := by rw [← hD]; exact Nat.ne_of_lt itlt
  have f3 : ∀ b ∈ [it], FpOk X pins (upd H1 D (.lst [])) b ∧ b < s3.heap.objs.size := fun b hb => by
    obtain rfl : b = it := by simpa using hb
    exact ⟨⟨by rw [upd_ne itD]; exact f2.1, f2.2⟩, by rw [h3, Heap.size_push]; exact Nat.lt_succ_of_lt itlt⟩
  have st3 : s3.heap.IsListIter it a 0 := st2.at fun o e => by rw [h3]; exact Heap.get?_push_of_some _ e
  have I4 := block_start I3 ok hN f3
  have pg := hg s3 (upd H1 D (.lst [])) s3.heap.objs.size (cellsFrom (s3.heap.objs.size + 1) scope.names (cloFrom X.env.cells scope.names [])) [it]
  have pt := ht s3 (upd H1 D (.lst [])) s3.heap.objs.size (cellsFrom (s3.heap.objs.size + 1) scope.names (cloFrom X.env.cells scope.names [])) [it]
  have pe := he s3 (upd H1 D (.lst [])) s3.heap.objs.size (cellsFrom (s3.heap.objs.size + 1) scope.names (cloFrom X.env.cells scope.names [])) [it]
  show codeAny _ _ (.compStart (.ListComp elt [⟨tg, iter, ifs, 0⟩] scope pos) 0 (.ref it) (.ref D) (compEnvC scope (cellsFrom (s3.heap.objs.size + 1) scope.names (cloFrom X.env.cells scope.names [])) s3.heap.objs.size X.env)) (compPost (model X.prog X.w) X.A X.xe none _ (.ref D) s3.heap.objs.size) { s3 with heap := pushCells (s3.heap.push { cls := .type "dict", data := .dict #[] }) scope.names }
  have nit : (upd H1 D (.lst [])) it = none := (f3 it (by simp)).1.1
  generalize hce : compEnvC scope (cellsFrom (s3.heap.objs.size + 1) scope.names (cloFrom X.env.cells scope.names [])) s3.heap.objs.size X.env = ce at I4 pg pt pe ⊢
  have cL : ce.locals = s3.heap.objs.size := by subst hce; rfl
  generalize hH3 : upd H1 D (.lst []) = H3 at I3 I4 pg pt pe w0 nit f3
  generalize hs4 : ({ s3 with heap := pushCells (s3.heap.push { cls := .type "dict", data := .dict #[] }) scope.names } : Shared) = s4 at I4 ⊢
  have k34 : ∀ b o, s3.heap.get? b = some o → s4.heap.get? b = some o := fun b o e => by rw [← hs4]; exact pushCells_keeps _ _ _ _ (Heap.get?_push_of_some _ e)
  have st4 : s4.heap.IsListIter it a 0 := st3.at fun o e => k34 _ _ e
  -- the handled exception stands beside
  have P3 := I3.pin p (List.mem_append_left _ hp)
  have plt : p.1 < s3.heap.objs.size := Heap.lt_size P3.1
  have pne : p.1 ≠ it := fun z => (f2.2.2.2.2.2 p (List.mem_append_left _ hp)) z
  have I4' : Inv (X.blk s3 H3 scope ce [it]) [p] (wipe σ (own.map (·.2))) H3 s4 := I4.pins_of fun y hy => by
    obtain rfl : y = p := by simpa using hy
    refine ⟨k34 _ _ P3.1, P3.2.1, ?_, ?_, P3.2.2.2.2⟩
    · show y.1 ≠ ce.locals
      rw [cL]
      exact Nat.ne_of_lt plt
    · intro hm
      have hm' : y.1 ∈ frs X.stack := hm
      exact (List.mem_cons.mp (I3.stkSub y.1 hm')).elim P3.2.2.1 P3.2.2.2.1
  have stat : ∀ {σ' : St} {H' : Hp} {s' : Shared}, Inv (X.blk s3 H3 scope ce [it]) [p] σ' H' s' → H' it = none → FpOk (X.blk s3 H3 scope ce [it]) [p] H' it := fun {σ' H' s'} I' hn =>
    ⟨hn, (I'.ok.exf it (by simp)).1, I'.ok.exfs it (by simp), .inl (by simp), fun x c e => (I'.ok.exf it (by simp)).2 x c e, fun y hy => by
      obtain rfl : y = p := by simpa using hy
      exact pne⟩
  have loop : codeAny (model X.prog X.w) X.A (.compLoop (.ListComp elt [⟨tg, iter, ifs, 0⟩] scope pos) 0 (.ref it) (.ref D) ce) (compPost (model X.prog X.w) X.A X.xe none (EP X pins σ Q) (.ref D) s3.heap.objs.size) s4 := by
    refine compLoop_any (fun n s' => ∃ i H', Inv (X.blk s3 H3 scope ce [it]) [p] (wipe σ (own.map (·.2))) H' s' ∧ s'.heap.IsListIter it a i ∧ H' it = none ∧ W i n H') ?_ m0 ⟨0, H3, I4', st4, nit, w0⟩
    rintro n s5 ⟨i, H5, I5, st5, n5, w5⟩
    obtain ⟨g0, g1, g2, g3, g4, g5⟩ := stat I5 n5
    rcases turn i n H5 w5 with ⟨⟨xs, hq, hx⟩, qq⟩ | ⟨⟨xs, x0, hq, hx⟩, Nx, hNx, step⟩
    · obtain ⟨its, rv, pl, hz⟩ := I5.list hq
      have hl5 := rv.length
      have P5 := (I5.pin p (by simp)).1
      refine HotL.list_end_hot (A := X.A) ⟨hhd, p.2, hvs, P5, hdat, hctx⟩ pne st5 pl.isList (by simp; omega) fun h' eb => ?_
      have I6 := I5.turned (h' := h') (t' := s5.toks) (fun b o hb e => eb b o hb e) g0 g1 g3 g4 g5
      have I7 : Inv X pins σ H5 { s5 with heap := h' } := I3.call' (ch := [it]) I6.os I6.base I6.hok I6.bare fun b hb => ⟨(f3 b hb).1.2.2.2.1, (f3 b hb).1.2.1, (f3 b hb).1.2.2.2.2.1, (f3 b hb).1.2.2.2.2.2⟩
      have nC : H5 s3.heap.objs.size = none := by
        have z : H5 ce.locals = none := I6.free
        rw [cL] at z
        exact z
      obtain ⟨m, hn, _⟩ := I6.loc
      have hn : h'.Ns ce.locals m := hn
      rw [cL] at hn
      obtain ⟨e0, e1, e2, e3, e4, e5⟩ := I3.fpOk (Nat.le_refl _) nC
      exact ⟨m, hn, fun h'' sb => ⟨.ref D, H5, I7.turned (t' := s5.toks) (fun b o hb e => (sb.2 b hb).trans e) e0 e1 e3 e4 e5, rfl, qq⟩⟩
    · obtain ⟨its, rv, pl, hz⟩ := I5.list hq
      obtain ⟨u, hu, ru⟩ := rv.get hx
      refine wpAny_pyNext_list_item st5 pl.isList (x := u) (by simpa using hu) fun h' st' sb => ?_
      have I6 : Inv (X.blk s3 H3 scope ce [it]) [p] (wipe σ (own.map (·.2))) H5 { s5 with heap := h' } := I5.turned (t' := s5.toks) (fun b o hb e => (sb.2 b hb).trans e) g0 g1 g3 g4 g5
      obtain ⟨oi, ei, ci, di⟩ := id st'
      refine go_of (s := { s5 with heap := h' }) ei ci di (by decide) ?_
      have I7 : Inv (X.blk s3 H3 scope ce [it]) ([p] ++ pinsAt [it] h') (wipe σ (own.map (·.2))) H5 { s5 with heap := h' } := I6.pinned (fun b hb => by
        obtain rfl : b = it := by simpa using hb
        exact stat I6 n5) fun b hb => by
        obtain rfl : b = it := by simpa using hb
        exact ⟨oi, ei, fun v z => by rw [di] at z; cases z⟩
      refine thnF (pg.run _ _ _ H5 x0 u _ I7 ru (step x0 H5 ⟨rfl, fun ys hy => by rw [I6.list_inj hy hq]; exact hx⟩)) fun _ s8 ⟨σ8, H8, I8, hw8, q8⟩ => ?_
      refine thnF (pt.run _ s8 σ8 H8 _ I8 q8) fun b s9 ⟨H9, I9, q9⟩ => ?_
      have fin : ∀ {s' : Shared} {H' : Hp}, Inv (X.blk s3 H3 scope ce [it]) ([p] ++ pinsAt [it] h') σ8 H' s' → Nx H' → ∃ m, m < n ∧ ∃ i H', Inv (X.blk s3 H3 scope ce [it]) [p] (wipe σ (own.map (·.2))) H' s' ∧ s'.heap.IsListIter it a i ∧ H' it = none ∧ W i m H' := fun {s' H'} I' nx => by
        obtain ⟨m', hm, w'⟩ := hNx H' nx
        have pin' : ∀ o, h'.get? it = some o → s'.heap.get? it = some o ∧ H' it = none := fun o e =>
          let z := I'.pin (it, o) (List.mem_append_right _ (List.mem_append_right _ (mem_pinsAt (by simp) e)))
          ⟨z.1, z.2.1⟩
        have hl : (wipe σ (own.map (·.2))).length = σ8.length := by rw [← hw8, wipe_length]
        refine ⟨m', hm, i + 1, H', (I'.unpinned (pins := [p])).weak hl (fun j v e => ?_), st'.at fun o e => (pin' o e).1, (pin' oi ei).2, w'⟩
        rw [← hw8] at e
        exact (wipe_some e).1
      cases b with
      | false =>
        simp only [Bool.false_eq_true, if_false] at q9 ⊢
        exact fin I9 q9
      | true =>
        simp only [if_true] at q9 ⊢
        refine thnF (pe.run _ s9 σ8 H9 _ I9 q9) fun z s10 ⟨yv, H10, I10, r10, acc, hD10, hz10, nx⟩ => ?_
        exact app_ok (X := X.blk s3 H3 scope ce [it]) I10 hD10 hz10 r10 fun s11 I11 => fin I11 nx
  exact codeAny_compStart_list loop (wpAny_pyIter_listiter st4 loop)
end
end L2

set_option Elab.async false
set_option linter.all false
set_option maxRecDepth 100000
set_option maxHeartbeats 2000000
namespace VLR
open PySem PySem.Spec PyProof.Rows RT
section
variable {prog : Program} {w : World} {A : Around} {E : Value → Shared → Prop} {s : Shared}
/-- list.__init__(S, reversed list iterator) on an empty list S -/
theorem init_rev {R : Result → Shared → Prop} {it l S : Addr} {items : Array Value} (hh : A.handled = none) (hit : s.heap.IsRevIter it l ((items.size : Int) - 1)) (hl : s.heap.IsList l items) (hne : l ≠ it) (hn : items.size ≤ sizeLine)
    (hS : s.heap.get? S = some { cls := .type "list", data := .seq #[] }) (hSi : S ≠ it) (hSl : S ≠ l)
    (hR : ∀ (h' : Heap) (tk : Nat) (acc : Array Value) (c : Nat), (∀ b o, b ≠ S → b ≠ it → s.heap.get? b = some o → h'.get? b = some o) → h'.get? S = some { cls := .type "list", dict := none, data := .seq acc c, slots := #[] } →
      ItemsOf (fun i v => items[items.size - 1 - i]? = some v) acc items.size → R (.ok (.ret .none)) { s with heap := h', toks := tk }) :
    wpAny (model prog w) A.in1 (Builtin.«list.__init__» ⟨[.ref S, .ref it], []⟩)
      (fun fin s' => match fin with | .done f => R (.ok f) s' | .again c' => c'.quiet = true ∧ codeAny (model prog w) A c' R s') (fun e s' => R (.error e) s') s := by
  have hSf : S ∉ [it, l] := by simp only [List.mem_cons, List.not_mem_nil, or_false, not_or]; exact ⟨hSi, hSl⟩
  have W := (Walks.listRev (prog := prog) (w := w) (A := A.in1) hh it l hne items).toS
  show wpAny _ _ (Builtin.List.listItems (.ref S) >>= fun old => Builtin.List.listUpdate (.ref S) (fun _ => #[]) >>= fun _ => letGo old.toList.reverse >>= fun _ => Builtin.List.listExtendWith (.ref S) (.ref it) .none) _ _ s
  refine wpAny_bind ?_
  unfold Builtin.List.listItems
  refine wpAny_bind (wpAny_seqItems hS rfl (wpAny_pure ?_))
  refine wpAny_bind (m := updateSeq S (fun _ => #[])) (wpAny_updateSeq hS rfl ?_)
  have hS₂ := Heap.get?_update_self (Obj.mapSeq (fun _ => (#[] : Array Value))) hS rfl
  have other : ∀ b o, b ≠ S → s.heap.get? b = some o → (s.heap.update S (Obj.mapSeq (fun _ => (#[] : Array Value)))).get? b = some o := fun b o hb e => (Heap.get?_update_other _ _ (Ne.symm hb)).trans e
  refine wpAny_bind (wpAny_letGo ?_)
  obtain ⟨oi, hoi, ci, di⟩ := id hit
  have hit2 : (s.heap.update S (Obj.mapSeq (fun _ => (#[] : Array Value)))).IsRevIter it l ((items.size : Int) - 1) := hit.at fun o e => other _ _ (Ne.symm hSi) e
  have hl2 : (s.heap.update S (Obj.mapSeq (fun _ => (#[] : Array Value)))).IsList l items := by
    obtain ⟨ol, hol, r⟩ := id hl
    exact ⟨ol, other _ _ (Ne.symm hSl) hol, r⟩
  have hT : ({ s with heap := s.heap.update S (Obj.mapSeq (fun _ => (#[] : Array Value))) } : Shared).TypeIs (.ref it) "list_reverseiterator" := Heap.IsRevIter.typeIs (s := { s with heap := s.heap.update S (Obj.mapSeq (fun _ => (#[] : Array Value))) }) hit2
  have h1 : Builtin.List.listSameRef (.ref S) (.ref it) = false := by simp [Builtin.List.listSameRef, hSi]
  unfold Builtin.List.listExtendWith
  refine wpAny_bind (wpAny_typeOf hT ?_)
  rw [if_neg (by rw [h1]; decide)]
  refine wpAny_bind (wpAny_pyIter_revIter (s := { s with heap := s.heap.update S (Obj.mapSeq (fun _ => (#[] : Array Value))) }) hit2 ?_)
  refine wpAny_bind (wpAny_holding ?_)
  unfold Builtin.List.listLengthHint
  refine wpAny_bind (wpAny_specialOf hT nolen_lri ?_)
  show wpAny _ A.in1 (specialOf (Value.ref it) (Str.ofString "__length_hint__") >>= _) _ _ _
  refine wpAny_bind (wpAny_specialOf hT hint_lri ?_)
  generalize hid : ("list_reverseiterator.__length_hint__" : String) = id0
  wp_delta
  rw [show splitId id0 = some ("list_reverseiterator", "__length_hint__") from by subst hid; decide +kernel]
  subst hid
  refine wpAny_bind (wpAny_isInstance (b := true) hT (by rw [isSubtype_type]; kernel_rfl) ?_)
  refine wpAny_pure ?_
  rw [if_neg (by decide)]
  have e0 : ((items.size : Nat) : Int) - 1 - ((0 : Nat) : Int) = (items.size : Int) - 1 := by omega
  refine wpAny_pure ⟨plainId_quiet F.plain_extend_loop _, codeAny_extend_loopS W hn S hSf _ items.size 0 _ _ _ rfl (Nat.zero_le _) ⟨Nat.zero_le _, by rw [e0]; exact hit2, hl2⟩ hS₂ (ItemsOf.nil _) fun s' acc' c' hm hS' hacc => ?_⟩
  rw [Moved.eq_with hm]
  refine hR s'.heap s'.toks acc' c' (fun b o hb hi e => hm.heap b o (fun hmem => ?_) (other b o hb e)) hS' hacc
  rcases List.mem_cons.mp hmem with e' | hmem
  · exact hb e'
  · exact hi (List.mem_singleton.mp hmem)
theorem call_list_rev {it l : Addr} {items : Array Value} {Q : Value → Shared → Prop} (hh : A.handled = none) (hit : s.heap.IsRevIter it l ((items.size : Int) - 1)) (hl : s.heap.IsList l items) (hne : l ≠ it) (hn : items.size ≤ sizeLine)
    (hQ : ∀ (h' : Heap) (tk : Nat) (acc : Array Value) (c : Nat), (∀ b o, b ≠ it → s.heap.get? b = some o → h'.get? b = some o) → h'.get? s.heap.objs.size = some { cls := .type "list", dict := none, data := .seq acc c, slots := #[] } →
      ItemsOf (fun i v => items[items.size - 1 - i]? = some v) acc items.size → Q (.ref s.heap.objs.size) { s with heap := h', toks := tk }) :
    wpAny (model prog w) A (call (.type "list") [.ref it]) Q E s := by
  refine callType_codes (Q₁ := fun obj s₁ => obj = .ref s.heap.objs.size ∧ s₁ = { s with heap := s.heap.push { cls := .type "list", data := .seq #[] } }) F.called_list (F.typeCall_list_1 _) F.entry_list_init
    (code_list_new _ ⟨rfl, rfl⟩) fun obj s₁ h₁ => ?_
  obtain ⟨rfl, rfl⟩ := h₁
  have hS : (s.heap.push { cls := .type "list", data := .seq #[] }).get? s.heap.objs.size = some { cls := .type "list", data := .seq #[] } := Heap.get?_push_size _ rfl
  obtain ⟨oi, hoi, _⟩ := id hit
  obtain ⟨ol, hol, _⟩ := id hl
  refine ⟨⟨_, hS, rfl⟩, F.args_list_init_2 _ _, init_rev (A := A.in1) hh (hit.at fun o e => Heap.get?_push_of_some _ e) (hl.push _) hne hn hS (Nat.ne_of_gt (Heap.lt_size hoi)) (Nat.ne_of_gt (Heap.lt_size hol)) fun h' tk acc c k hS' hacc => ?_⟩
  exact ⟨rfl, hQ h' tk acc c (fun b o hb e => k b o (Nat.ne_of_lt (Heap.lt_size e)) hb (Heap.get?_push_of_some _ e)) hS' hacc⟩
end
end VLR
namespace L2
open PySem PySem.Spec PyProof.Rows RT
def tLstRev (K : PySem.W.Frag) (te : TE) : TE := fun σ H Q => te σ H fun v H1 => ∃ (a : Addr) (xs : List V), v = .ref a ∧ SqL K H1 a xs ∧ ∀ p, H1 p = none → Q (.ref p) (upd H1 p (.lst xs.reverse))
section
variable {X : Cx}
theorem pe_lstRev {e : Expr} {te : TE} {p p2 pos pos2 : Pos} (hc : X.calm = true) (hg : Gl X "list") (hm : X.mg "list" = none) (hg2 : Gl X "reversed") (hm2 : X.mg "reversed" = none) (he : PE X e te)
    (hs : starEach [e] X.env = (false, eval e X.env) :: starEach [] X.env := by rfl)
    (hs2 : starEach [.Call (.Name "reversed" p2) [e] [] pos2] X.env = (false, eval (.Call (.Name "reversed" p2) [e] [] pos2) X.env) :: starEach [] X.env := by rfl) :
    PE X (.Call (.Name "list" p) [.Call (.Name "reversed" p2) [e] [] pos2] [] pos) (tLstRev X.K te) := by
  refine ⟨fun pins s σ H Q I h => ?_⟩
  refine Call_ (ld_blt I hg hm boot_list (PyProof.Rows.callWith_type1 (args_cons (Call_ (ld_blt I hg2 hm2 PyProof.Rows.boot_reversed (PyProof.Rows.callWith_type1 (args_cons (thn (he.run pins s σ H _ I h) fun u s1 ⟨v, H1, I1, r1, q1⟩ => args_nil ?_) hs) hs rfl))) hs2) hs2 rfl))
  obtain ⟨a, xs, ev, hq, q⟩ := q1
  subst ev
  obtain rfl : u = Value.ref a := r1
  obtain ⟨its, rv, p', hz⟩ := I1.list hq
  refine call_reversed_list p'.isList (args_nil ?_)
  have k0 : ∀ b o, s1.heap.get? b = some o → (s1.heap.push (revObj a ((its.toArray.size : Int) - 1))).get? b = some o := fun b o e => Heap.get?_push_of_some _ e
  have I2 : Inv X pins σ H1 { s1 with heap := s1.heap.push (revObj a ((its.toArray.size : Int) - 1)) } := I1.kept (t' := s1.toks) k0
  obtain ⟨f0, f1, f2, f3, f4, f5⟩ := I1.fpOk (H' := H1) (b := s1.heap.objs.size) (Nat.le_refl _) (I1.hok.fresh (Nat.le_refl _))
  have hl := p'.isList
  obtain ⟨ol, hol, _⟩ := id hl
  have hne : a ≠ s1.heap.objs.size := Nat.ne_of_lt (Heap.lt_size hol)
  have hn : its.toArray.size ≤ sizeLine := by rw [List.size_toArray, ← rv.length]; exact hz
  have hsz : (s1.heap.push (revObj a ((its.toArray.size : Int) - 1))).objs.size = s1.heap.objs.size + 1 := Heap.size_push _ _
  refine VLR.call_list_rev (s := { s1 with heap := s1.heap.push (revObj a ((its.toArray.size : Int) - 1)) }) (I1.ok.hd hc) ⟨_, Heap.get?_push_size _ rfl, rfl, rfl⟩ (hl.push _) hne hn fun h' tk acc c hk hS hi => ?_
  have k1 : ∀ b o, s1.heap.get? b = some o → h'.get? b = some o := fun b o e => hk b o (Nat.ne_of_lt (Heap.lt_size e)) (k0 b o e)
  have hS' : h'.get? (s1.heap.objs.size + 1) = some { cls := .type "list", data := .seq acc.toList.toArray c } := by
    rw [Array.toArray_toList, ← hsz]
    exact hS
  have J : Inv X pins σ (upd H1 (s1.heap.objs.size + 1) (.lst xs.reverse)) { s1 with heap := h', toks := tk } :=
    I1.laid (t' := tk) k1 (Nat.le_succ _) (show ObjOk X.prog X.w _ _ _ (.lst xs.reverse) from ⟨by rw [List.length_reverse]; exact hz, acc.toList, c, vals_rev rv hi, hS'⟩)
  refine ⟨.ref (s1.heap.objs.size + 1), _, J, ?_, q _ (I1.hok.fresh (Nat.le_succ _))⟩
  show Value.ref (s1.heap.push (revObj a ((its.toArray.size : Int) - 1))).objs.size = _
  rw [hsz]
end
end L2

set_option Elab.async false
set_option linter.all false
set_option maxRecDepth 100000
set_option maxHeartbeats 2000000
namespace L2
open PySem PySem.Spec PyProof.Rows
/-- a def of the text: its function, its name in the module, how its arguments bind -/
structure Def (K : PySem.W.Frag) (mg : Str → Option Value) (x : Str) (st : Stmt) (ps : List Str) (f : Addr) (fd : FuncData) : Prop where
  fn : Fun K x x st f fd
  g : mg x = some (.ref f)
  b : Binds K fd ps []
theorem takesN0 {X : Cx} : L2N.Takes X (fun _ _ _ _ => False) := fun _ _ x => by
  obtain ⟨_, _, _, _, _, _, _, _, _, _, _, _, _, _, _, _, z⟩ := x
  exact z.elim
theorem Fun.okN {P : Program} {w : World} {K : PySem.W.Frag} {mg : Str → Option Value} {base : Heap} {x qual : Str} {st : Stmt} {f : Addr} {fd : FuncData} {N ps : List Str} {k : Nat} {sp : Sp} (F : Fun K x qual st f fd) (S : FnScope N ps (defScope st)) (len : ∀ vs H Q E, sp vs H Q E → vs.length = ps.length)
    (hbody : ∀ (cdv : Value) (A : Around) (outer : List Env) (s : Shared) (H : Hp) (vs : List V) (Q : VK) (E : XK), Room k (A.deeper (envOfC qual (defScope st) s.heap.objs.size f cdv)) → sp vs H Q E →
      ∃ t, PSs (cxOf (L2N.CX P w) P w K mg base N qual (defScope st) f cdv A outer s H E) (defBody st) t ∧ t { nx := fun _ H' => Q .non H', rt := Q } (start N vs) H) : FnOk P w K mg base (L2N.CX P w) (k + 1) f fd ps sp := by
  obtain ⟨oc, od, kV, doc, pm, an, cdv, ct, osl, rfl, lk, hcd⟩ := F.ex
  exact fn_of lk hcd S len fun A outer s H vs Q E hr hsp => hbody cdv A outer s H vs Q E hr hsp
/-- all but the list at st stands as it stood -/
def But (st : Addr) (H H' : Hp) : Prop := ∀ b o, b ≠ st → H b = some o → H' b = some o
theorem But.refl {st : Addr} {H : Hp} : But st H H := fun _ _ _ h => h
theorem But.trans {st : Addr} {H H1 H2 : Hp} (a : But st H H1) (b : But st H1 H2) : But st H H2 := fun c o n h => b c o n (a c o n h)
theorem But.set {st : Addr} {H : Hp} {o : HO} : But st H (upd H st o) := fun b u n e => by rw [upd_ne n]; exact e
theorem But.new {st p : Addr} {H : Hp} {o : HO} (h : H p = none) : But st H (upd H p o) := fun b u n e => by rw [upd_ne (ne_of_none e h)]; exact e
theorem But.of {st : Addr} {H H' : Hp} (h : Same H H') : But st H H' := fun b o _ e => h b o e
/-- the script's cells and the drawer's counters: a list of a list and ints -/
structure Store (H : Hp) (st : Addr) : Prop where
  ex : ∃ (cl : Addr) (ns : List Int) (a b c d e g : Int), H st = some (.lst [.ref cl, .int a, .int b, .int c, .int d, .int e, .int g]) ∧ H cl = some (.lst (ns.map V.int)) ∧ 0 ≤ a ∧ ns.length ≤ 63 ∧ cl ≠ st
theorem Store.some {H : Hp} {st : Addr} (S : Store H st) : ∃ o, H st = some o := by
  obtain ⟨_, _, _, _, _, _, _, _, h, _⟩ := S.ex
  exact ⟨_, h⟩
theorem Store.keep {H H' : Hp} {st : Addr} (S : Store H st) (h : Same H H') : Store H' st := by
  obtain ⟨cl, ns, a, b, c, d, e, g, h1, h2, h3⟩ := S.ex
  exact ⟨cl, ns, a, b, c, d, e, g, h _ _ h1, h _ _ h2, h3⟩
theorem But.free {st : Addr} {H H' : Hp} (a : But st H H') (S : Store H' st) {l : Addr} (h : H' l = Option.none) : H l = Option.none := by
  cases q : H l with
  | none => rfl
  | some o =>
    obtain ⟨u, hu⟩ := S.some
    have ne : l ≠ st := fun z => by rw [z, hu] at h; cases h
    rw [a l o ne q] at h
    cases h
theorem same_new {H : Hp} {p : Addr} {o : HO} (h : H p = none) : Same H (upd H p o) := fun b u e => by rw [upd_ne (ne_of_none e h)]; exact e
theorem of_dec {p : Prop} [Decidable p] (h : decide p = true) : p := of_decide_eq_true h
theorem of_ndec {p : Prop} [Decidable p] (h : ¬ decide p = true) : ¬ p := fun z => h (decide_eq_true z)
end L2
namespace L2
open PySem PySem.Spec PyProof.Rows
/-! ### sizes -/
theorem fm_lo {a m : Int} (h : 0 < m) : 0 ≤ a.fmod m := by
  rw [Int.fmod_eq_emod_of_nonneg _ (Int.le_of_lt h)]
  exact Int.emod_nonneg _ (by omega)
theorem fm_hi {a m : Int} (h : 0 < m) : a.fmod m < m := by
  rw [Int.fmod_eq_emod_of_nonneg _ (Int.le_of_lt h)]
  exact Int.emod_lt_of_pos _ h
theorem cm_fmod {a m b : Int} (h : 0 < m) (h2 : m ≤ 2 ^ 64) : CMul (a.fmod m) b := .inl ⟨by have := fm_lo (a := a) h; omega, by have := fm_hi (a := a) h; omega⟩
theorem cm_l {a b : Int} (h : -(2 ^ 64) < a) (h2 : a < 2 ^ 64) : CMul a b := .inl ⟨h, h2⟩
theorem cm_r {a b : Int} (h : -(2 ^ 64) < b) (h2 : b < 2 ^ 64) : CMul a b := .inr ⟨h, h2⟩
end L2
namespace L2
open PySem PySem.Spec PyProof.Rows
theorem Same.mut {H H' : Hp} {D : Addr} {o : HO} (e : Same H H') (h : H D = none) : Same H (upd H' D o) := fun b u z => by
  rw [upd_ne (ne_of_none z h)]
  exact e b u z
theorem take_one {α : Type} {l : List α} {i : Nat} {x : α} (h : l[i]? = some x) : l.take (i + 1) = l.take i ++ [x] := by
  rw [List.take_succ, h]
  rfl
end L2
namespace L2
open PySem PySem.Spec PyProof.Rows
/-- between a statement and the rest: a word Mid, from which the rest is shown once -/
def tMid (t u : TS) : TS := fun D σ H => ∃ R : St → Hp → Prop, t { D with nx := R } σ H ∧ ∀ σ' H', R σ' H' → u D σ' H'
theorem pss_mid {X : Cx} {st : Stmt} {more : List Stmt} {t u : TS} (a : PS X st t) (b : PSs X more u) : PSs X (st :: more) (tMid t u) := ⟨fun pins s σ H D I ⟨_, hm, hu⟩ =>
  wpAny_execs_cons (thn (a.run pins s σ H _ I hm) fun f s1 q => match f, q with
    | .next, ⟨σ', H', J, q⟩ => b.run pins s1 σ' H' D J (hu σ' H' q)
    | .ret _, q => q
    | .brk, q => q
    | .cont, q => q)⟩
/-- what the store holds at its places; reading and writing it -/
theorem upd2 {H : Hp} {a : Addr} {o u : HO} : upd (upd H a o) a u = upd H a u := upd_upd
end L2

set_option Elab.async false
set_option linter.all false
set_option maxRecDepth 100000
set_option maxHeartbeats 2000000
namespace L2
open PySem PySem.Spec PyProof.Rows
theorem pss_cut {X : Cx} {st : Stmt} {more : List Stmt} {t : TS} (a : PS X st t) : PSs X (st :: more) (fun D σ H => t { D with nx := fun _ _ => False } σ H) := ⟨fun pins s σ H D I h =>
  wpAny_execs_cons (thn (a.run pins s σ H _ I h) fun f s1 q => match f, q with
    | .next, ⟨_, _, _, q⟩ => q.elim
    | .ret _, q => q
    | .brk, q => q
    | .cont, q => q)⟩
theorem hu64 {k : Nat} {A : Around} (r : L2H.RoomH k A) : A.units + 64 < cLine := by
  have := r.un
  omega
theorem roomH_as {k : Nat} {A B : Around} (r : L2H.RoomH k A) (h1 : B.depth = A.depth) (h2 : B.units = A.units) : L2H.RoomH k B := ⟨by rw [h1]; exact r.dp, by rw [h2]; exact r.un⟩
theorem hot_of {a : Addr} {oe : Obj} {cls : Value} {d : Option Addr} {A' : Around} (hz : L2N.Zn cls d oe) (hf : ∃ vs : Array Value, oe.data = .fields vs) (h : A'.handled = some (.ref a) := by rfl) : L2H.Hot1 A' (a, oe) := ⟨h, hf.elim fun vs e => ⟨vs, e, hz.2.2 vs e⟩⟩
section
open L2H
variable {X : Cx} {k : Nat} {f : Addr} {fd : FuncData} {ps : List Str} {sp : Addr × Obj → Sp} {x : Str} {q pos : Pos} {e : Expr} {es : List Expr} {t : TA}
/-- f(e, ..) within the suite, by a promise that does not name the exception's record -/
def tCallZ (sp' : Sp) (t : TA) : TE := fun σ H Q => t σ H fun vs H1 => sp' vs H1 Q E0
theorem pe_callZ {p : Addr × Obj} {sp' : Sp} (F : FnE X.prog X.w X.K X.mg X.base k f fd ps sp) (hc : ∀ vs H Q E, sp' vs H Q E → sp p vs H Q E) (hr : RoomH k X.A) (hot : Hot1 X.A p) (hp : p ∈ X.pn) (hg : Gl X x) (hm : X.mg x = some (.ref f)) (hk : PySem.W.keepIn X.K (.ref f) = true) (hb : Binds X.K fd ps [])
    (ha : PA X (e :: es) t) (hdb : (x == ("__debug__" : Str)) = false := by decide) (he : starEach (e :: es) X.env = (false, eval e X.env) :: starEach es X.env := by rfl) (hpl : (backTo pos (starEach es X.env)).any (·.1) = false := by rfl) :
    PE X (.Call (.Name x q) (e :: es) [] pos) (tCallZ sp' t) := by
  refine ⟨fun pins s σ H Q I h => ?_⟩
  refine wpAny_Call_Name_kw (ld_glob I hg hm ?_ hdb)
  refine PySem.W.callWith_K (h₀ := X.base) I.ok.mod.kin hk (thn (ha.run pos pins s σ H _ I h) fun us s1 ⟨vs, H1, J, r, hsp0⟩ => ⟨J.kIn, ?_⟩) he hpl
  have hsp := hc _ _ _ _ hsp0
  have hl : us.length = ps.length := by rw [← r.length]; exact F.len _ _ _ _ _ hsp
  have b := hb s1 us J.kIn (by rw [List.append_nil]; exact hl)
  rw [List.append_nil] at b
  have P1 := J.pin p (List.mem_append_left _ hp)
  have hpin : PinOk X.stack H1 s1 p := ⟨P1.1, P1.2.1, fun hm => (List.mem_cons.mp (J.stkSub p.1 hm)).elim P1.2.2.1 P1.2.2.2.1, P1.2.2.2.2⟩
  refine wpAny_call (codeAny_mono (F.run X.A X.stack s1 H1 ⟨us, []⟩ us vs Q E0 p hr hot hpin J.env0 b r hsp) fun r s' hq => ?_)
  cases r with
  | error e => exact False.elim hq
  | ok fl =>
    cases fl with
    | ret u => exact J.after hq
    | next => exact False.elim hq
    | brk => exact False.elim hq
    | cont => exact False.elim hq
end
end L2
namespace L2
open PySem PySem.Spec PyProof.Rows L2H
theorem pairedAt {α β : Type} {R : α → β → Prop} {xs : List α} {ys : List β} (h : Paired R xs ys) : ∀ {i : Nat} {x : α}, xs[i]? = some x → ∃ y, ys[i]? = some y ∧ R x y := by
  induction h with
  | nil => intro i x e; cases e
  | cons a k ih =>
    intro i x e
    cases i with
    | zero => cases e; exact ⟨_, rfl, a⟩
    | succ i => exact ih e
theorem FnE.or {P : Program} {w : World} {K : PySem.W.Frag} {mg : Str → Option Value} {base : Heap} {k : Nat} {f : Addr} {fd : FuncData} {ps : List Str} {sp1 sp2 : Addr × Obj → Sp} (a : FnE P w K mg base k f fd ps sp1) (b : FnE P w K mg base k f fd ps sp2) :
    FnE P w K mg base k f fd ps (fun p vs H Q E => sp1 p vs H Q E ∨ sp2 p vs H Q E) :=
  ⟨fun p vs H Q E h => h.elim (a.len p vs H Q E) (b.len p vs H Q E), fun A outer s H args us vs Q E p hr hot hpin e0 hb r hsp => hsp.elim (a.run A outer s H args us vs Q E p hr hot hpin e0 hb r) (b.run A outer s H args us vs Q E p hr hot hpin e0 hb r)⟩
theorem bnot_t {b : Bool} (h : (!b) = true) : b = false := by
  cases b
  · rfl
  · cases h
theorem bnot_f {b : Bool} (h : ¬ (!b) = true) : b = true := by
  cases b
  · exact absurd rfl h
  · rfl
end L2

set_option Elab.async false
set_option linter.all false
set_option maxRecDepth 100000
namespace PySem
open Sem (wp)
set_option maxHeartbeats 1000000 in
theorem vo_meets_enumerate {v : Value} {o : Obj} {H : Heap → Prop} (B : Begins v o H) :
    Meets (Builtin.«enumerate.__new__» ⟨[.type "enumerate", v], []⟩) (fun _ R s => H s.heap ∧
      R (.ok (.ret (.ref (s.heap.push o).objs.size))) { s with heap := (s.heap.push o).push { cls := .type "enumerate", data := .fields #[.none, .bool false, .ref s.heap.objs.size, rawInt 0, .none, .none] } }) :=
  .of_wp fun prog w A R s h => by
    obtain ⟨hp, g, d, tk, os⟩ := s; obtain ⟨h1, h⟩ := h
    have hsub := sub_enumerate
    have q1 : ∀ {A' : Around} {E : Value → Shared → Prop} {Q : Value → Shared → Prop}, Q (.ref hp.objs.size) ⟨hp.push o, g, d, tk, os⟩ → wpAny (model prog w) A' (pyIter v) Q E ⟨hp, g, d, tk, os⟩ :=
      fun q => B.iter prog w _ _ ⟨hp, g, d, tk, os⟩ _ h1 q
    wp_walk using q1
    refine wpAny_stack_any fun st => wpAny_pure ?_
    split
    · rename_i c _ _ _ _ _
      cases (c == Value.type "enumerate")
      · wp_walk using q1
        exact ⟨_, rfl, h⟩
      · wp_walk using q1
        exact ⟨_, rfl, h⟩
    · wp_walk using q1
      exact ⟨_, rfl, h⟩
section
variable {prog : Program} {w : World} {A : Around} {E : Value → Shared → Prop} {s : Shared}
theorem vo_call_enumerate {v : Value} {o : Obj} {H : Heap → Prop} {Q : Value → Shared → Prop} (B : Begins v o H) (h1 : H s.heap)
    (h : ∀ h', IsEnum h' (s.heap.objs.size + 1) s.heap.objs.size 0 .none → h'.get? s.heap.objs.size = some o → h'.objs.size = s.heap.objs.size + 2 →
      (∀ b o, s.heap.get? b = some o → h'.get? b = some o) → Q (.ref (s.heap.objs.size + 1)) { s with heap := h' }) :
    wpAny (model prog w) A (call (.type "enumerate") [v]) Q E s := by
  refine callType_new F.called_enumerate (by decide) (F.typeCall_enumerate_1 _) (F.newCall_enumerate_1 _) (fun obj => F.args_object_init_2 obj _) F.entry_enumerate_new
    (vo_meets_enumerate B) ⟨h1, ?_⟩
  have hz : (s.heap.push o).objs.size = s.heap.objs.size + 1 := Heap.size_push ..
  show _ ∧ _
  rw [hz]
  have he : IsEnum ((s.heap.push o).push { cls := .type "enumerate", data := .fields #[.none, .bool false, .ref s.heap.objs.size, rawInt 0, .none, .none] }) (s.heap.objs.size + 1) s.heap.objs.size 0 .none := by
    have := Heap.get?_push_size (s.heap.push o) (o := { cls := .type "enumerate", data := .fields #[.none, .bool false, .ref s.heap.objs.size, rawInt 0, .none, .none] }) rfl
    rw [hz] at this; exact this
  refine ⟨⟨_, he, rfl⟩, h _ he (Heap.get?_push_of_some _ (Heap.get?_push_size _ B.free)) (by rw [Heap.size_push, hz]) fun b o x => Heap.get?_push_of_some _ (Heap.get?_push_of_some _ x)⟩
theorem vo_next_tup_end {e it t : Addr} {i : Nat} {k : Int} {items : Array Value} {old : Value} {Q : Option Value → Shared → Prop} (hh : A.handled = none)
    (he : IsEnum s.heap e it k old) (hit : s.heap.IsTupleIter it t i) (ht : s.heap.IsTuple t items) (hx : items[i]? = none)
    (hQ : ∀ h', Heap.ExtBut it s.heap h' → Q none { s with heap := h' }) : wpAny (model prog w) A (pyNext (.ref e)) Q E s := by
  have hT : s.TypeIs (.ref e) "enumerate" := ⟨_, he, rfl⟩
  unfold pyNext
  refine wpAny_bind (wpAny_attempt (wpAny_callSpecial?_slot (name := Str.ofString "__next__") hT F.slot_enumerate_next
    (wpAny_call_entry F.slot_enumerate_next hT F.entry_enumerate_next ?_ (F.args_enumerate_next_1 _))))
  show wpAny _ _ (field (.ref e) 2 >>= _) _ _ _
  refine wpAny_bind (wpAny_field he rfl (x := .ref it) rfl ?_)
  refine wpAny_bind (wpAny_nextOf_tuple_end hh hit ht hx fun h' x he' hx' => ?_)
  obtain ⟨o, ho, hc⟩ := hx'
  refine wpAny_bind (wpAny_isInstance (T := "StopIteration") (b := true) ⟨o, ho, hc⟩ isSubtype_stop ?_)
  exact wpAny_pure (hQ _ he')
end
end PySem
namespace L2
open PySem PySem.Spec PyProof.Rows
/-- the tuple at a, each item in a new pair -/
def Itte (K : PySem.W.Frag) (a : Addr) : It :=
  ⟨fun i H => ∃ (xs : List V) (x : V), SqT K H a xs ∧ xs[i]? = some x, fun i H v H' => ∃ T x, v = .ref T ∧ H T = none ∧ H' = upd H T (.tup [.int (i : Nat), x]) ∧ ∀ xs, SqT K H a xs → xs[i]? = some x, fun i H => ∃ xs : List V, SqT K H a xs ∧ xs.length ≤ i⟩
theorem turn_enumT {P : Program} {w : World} {K : PySem.W.Frag} {elts : List Expr} {kk : Nat} {tpos : Pos} (a e it : Addr) :
    Turn P w K (.Tuple elts kk tpos) (Itte K a) [e, it] e (fun i h => (∃ old, IsEnum h e it ((i : Nat) : Int) old) ∧ h.IsTupleIter it a i ∧ e ≠ it) where
  mem := by simp
  obj := fun i h st b hb => by
    obtain ⟨⟨old, he⟩, ⟨o, ho, hc, hd⟩, _⟩ := st
    have e' : b = e ∨ b = it := by simpa using hb
    rcases e' with z | z
    · rw [z]; exact ⟨_, he, fun v q => nomatch q⟩
    · rw [z]; exact ⟨o, ho, fun v q => by rw [hd] at q; cases q⟩
  keep := fun i h h' st k => let ⟨⟨old, he⟩, hi, hne⟩ := st; ⟨⟨old, k e (by simp) _ he⟩, hi.at fun o q => k it (by simp) o q, hne⟩
  item := by
    intro X hP hw hK hc i pins s σ H E I hf st hg
    subst hP hw hK
    obtain ⟨⟨old, he⟩, hit, hne⟩ := st
    obtain ⟨xs, x, hq, hx⟩ := hg
    obtain ⟨its, rv, p, hz⟩ := I.tuple hq
    obtain ⟨u, hu, ru⟩ := rv.get hx
    have pt : s.heap.IsTuple a its.toArray := p
    have hea : e ≠ a := fun z => by
      obtain ⟨o, ho, hc, _⟩ := pt
      rw [← z, he] at ho
      cases ho
      exact absurd (show Value.type "enumerate" = Value.type "tuple" from hc) (by decide)
    have hia : a ≠ it := fun z => by
      obtain ⟨o, ho, hc, _⟩ := pt
      obtain ⟨o2, ho2, hc2, _⟩ := hit
      rw [z, ho2] at ho
      cases ho
      rw [hc2] at hc
      exact absurd hc (by decide)
    have hel : e < s.heap.objs.size := Heap.lt_size he
    have hil : it < s.heap.objs.size := by obtain ⟨_, q, _⟩ := hit; exact Heap.lt_size q
    have hlt : i < its.toArray.size := by
      have := (List.getElem?_eq_some_iff.mp hu).1
      simpa using this
    refine wpAny_pyNext_enum_itemD (Draws.tuple (prog := X.prog) (w := X.w) (A := X.A.in1) (I.ok.hd hc) it a hia its.toArray) he ⟨hit, pt⟩ hlt hne (by simp [hne, hea]) fun x' h' tk hx' ho st' hT hsz hk => ?_
    obtain rfl : x' = u := by
      have h1 : its[i]? = some x' := by simpa using hx'
      rw [hu] at h1
      exact (Option.some.inj h1).symm
    obtain ⟨hit', _⟩ := st'
    refine ⟨_, rfl, wpAny_letOwnedTupleGo_enum (s := { s with heap := h', toks := tk + 1 }) ho fun h'' he' sb => ?_⟩
    have hT2 : h''.get? s.heap.objs.size = some { cls := .type "tuple", data := .seq #[.int i tk, x'] } := (sb.2 _ (Nat.ne_of_gt hel)).trans hT
    have new : ObjOk X.prog X.w (upd H s.heap.objs.size (.tup [.int (i : Nat), x])) h'' s.heap.objs.size (.tup [.int (i : Nat), x]) :=
      ⟨by show 2 ≤ sizeLine; decide, [.int i tk, x'], .cons ⟨_, rfl⟩ (.cons ru .nil), ⟨_, hT2, rfl, _, rfl⟩⟩
    have I1 : Inv X pins σ (upd H s.heap.objs.size (.tup [.int (i : Nat), x])) { s with heap := h'', toks := tk + 1 } :=
      I.turnedNew (ch := [e, it]) (fun b ob hb q => (sb.2 b (fun z => hb (by simp [z]))).trans (hk b ob (fun z => hb (by simp [z])) (fun z => hb (by simp [z])) q)) hf (Nat.le_refl _) new
    refine ⟨.ref s.heap.objs.size, _, I1, rfl, ⟨_, x, rfl, I.hok.fresh (Nat.le_refl _), rfl, fun ys hy => by rw [I.tuple_inj hy hq]; exact hx⟩, ⟨⟨x', ?_⟩, hit'.at fun o q => (sb.2 it (Ne.symm hne)).trans q, hne⟩, fun b hb => ?_⟩
    · have e1 : ((i + 1 : Nat) : Int) = (i : Int) + 1 := by omega
      rw [e1]; exact he'
    · have hb' : b < s.heap.objs.size := by
        have e' : b = e ∨ b = it := by simpa using hb
        rcases e' with z | z
        · rw [z]; exact hel
        · rw [z]; exact hil
      rw [upd_ne (Nat.ne_of_lt hb')]
      exact (hf b hb).1
  done := by
    intro X hP hw hK hc i pins s σ H E I hf st hg
    subst hP hw hK
    obtain ⟨⟨old, he⟩, hit, hne⟩ := st
    obtain ⟨xs, hq, hx⟩ := hg
    obtain ⟨its, rv, p, hz⟩ := I.tuple hq
    obtain ⟨f0, f1, f2, f3, f4, f5⟩ := hf it (by simp)
    have hl := rv.length
    exact vo_next_tup_end (I.ok.hd hc) he hit (show s.heap.IsTuple a its.toArray from p) (by simp; omega) fun h' eb => ⟨rfl, I.turned (t' := s.toks) (fun b o hb q => eb b o hb q) f0 f1 f3 f4 f5⟩
  self := fun A i s Q E st h => let ⟨⟨_, he⟩, _⟩ := st; wpAny_pyIter_enum he h
/-- enumerate over a list or a tuple -/
def iEnum2 (K : PySem.W.Frag) (ta : TA) : TI := fun σ H R => ta σ H fun vs H1 => ∃ a, vs = [.ref a] ∧ ((∃ xs, SqL K H1 a xs) ∧ R (Ite K a) H1 ∨ (∃ xs, SqT K H1 a xs) ∧ R (Itte K a) H1)
theorem pi_enum2 {X : Cx} {e : Expr} {ta : TA} {p pos tpos : Pos} {elts : List Expr} {kk : Nat} (hg : Gl X "enumerate") (hm : X.mg "enumerate" = none) (ha : PA X [e] ta) (hs : starEach [e] X.env = [(false, eval e X.env)] := by rfl) :
    PI X (.Tuple elts kk tpos) (.Call (.Name "enumerate" p) [e] [] pos) (iEnum2 X.K ta) := by
  refine ⟨fun pins s σ H R I h => ?_⟩
  refine Call_ (ld_blt I hg hm boot_enumerate (PyProof.Rows.callWith_type1 (thn (ha.run pos pins s σ H _ I h) fun us s1 ⟨vs, H1, I1, r1, q1⟩ => ?_) hs rfl))
  obtain ⟨a, ex, q⟩ := q1
  subst ex
  cases r1 with
  | cons r rr =>
    cases rr
    cases r
    have two : ∀ b, (b = s1.heap.objs.size + 1 ∨ b = s1.heap.objs.size) → s1.heap.objs.size ≤ b := by
      rintro b (z | z)
      · rw [z]; exact Nat.le_add_right _ _
      · rw [z]; exact Nat.le_refl _
    rcases q with ⟨⟨xs, hq⟩, q⟩ | ⟨⟨xs, hq⟩, q⟩
    · obtain ⟨its, rv, p', hz⟩ := I1.list hq
      refine call_enumerate_list p'.isList fun h' he hit hsz hk => wpAny_pyIter_enum he ?_
      have I2 : Inv X pins σ H1 { s1 with heap := h' } := I1.kept (t' := s1.toks) hk
      refine ⟨s1.heap.objs.size + 1, [s1.heap.objs.size + 1, s1.heap.objs.size], _, _, H1, rfl, I2, turn_enum a (s1.heap.objs.size + 1) s1.heap.objs.size, ⟨⟨.none, he⟩, hit, Nat.succ_ne_self _⟩, fun b hb => ?_, q⟩
      have hle := two b (by simpa using hb)
      exact I1.fpOk hle (I1.hok.fresh hle)
    · obtain ⟨its, rv, p', hz⟩ := I1.tuple hq
      have pt : s1.heap.IsTuple a its.toArray := p'
      refine vo_call_enumerate (begins_tuple a its.toArray) pt fun h' he hit hsz hk => wpAny_pyIter_enum he ?_
      have I2 : Inv X pins σ H1 { s1 with heap := h' } := I1.kept (t' := s1.toks) hk
      refine ⟨s1.heap.objs.size + 1, [s1.heap.objs.size + 1, s1.heap.objs.size], _, _, H1, rfl, I2, turn_enumT a (s1.heap.objs.size + 1) s1.heap.objs.size, ⟨⟨.none, he⟩, ⟨_, hit, rfl, rfl⟩, Nat.succ_ne_self _⟩, fun b hb => ?_, q⟩
      have hle := two b (by simpa using hb)
      exact I1.fpOk hle (I1.hok.fresh hle)
theorem for_enumL {K : PySem.W.Frag} {a : Addr} {xs : List V} {g : TG} {tb : TS} {D : Ends} {σ : St} {H : Hp} (Pv : Nat → St → Hp → Prop) (h0 : Pv 0 σ H) (hl : ∀ i σ H, i ≤ xs.length → Pv i σ H → SqL K H a xs)
    (hs : ∀ i x T σ H, xs[i]? = some x → H T = none → Pv i σ H → g (.ref T) σ (upd H T (.tup [.int (i : Nat), x])) fun σ2 H2 => tb { D with nx := Pv (i + 1), ct := Pv (i + 1), bk := D.nx } σ2 H2) (hd : ∀ σ H, Pv xs.length σ H → D.nx σ H) :
    ∃ W : Nat → Nat → St → Hp → Prop, (∃ m, W 0 m σ H) ∧ ∀ i m σ H, W i m σ H →
      ((Ite K a).stop i H ∧ D.nx σ H) ∨ ((Ite K a).go i H ∧ ∃ N : St → Hp → Prop, (∀ σ' H', N σ' H' → ∃ m', m' < m ∧ W (i + 1) m' σ' H') ∧ ∀ x H', (Ite K a).yld i H x H' → g x σ H' fun σ2 H2 => tb { D with nx := N, ct := N, bk := D.nx } σ2 H2) := by
  refine ⟨fun i m σ H => m = xs.length - i ∧ i ≤ xs.length ∧ Pv i σ H, ⟨xs.length, by simp, Nat.zero_le _, h0⟩, ?_⟩
  rintro i m σ H ⟨rfl, hi, p⟩
  have q := hl i σ H hi p
  by_cases hlt : i < xs.length
  · refine .inr ⟨⟨xs, xs[i], q, by simp [hlt]⟩, Pv (i + 1), fun σ' H' p' => ⟨xs.length - (i + 1), by omega, rfl, hlt, p'⟩, fun x H' y => ?_⟩
    obtain ⟨T, x, rfl, hT, rfl, y⟩ := y
    exact hs i x T σ _ (y xs q) hT p
  · have e : i = xs.length := by omega
    subst e
    exact .inl ⟨⟨xs, q, Nat.le_refl _⟩, hd σ H p⟩
theorem for_enumT {K : PySem.W.Frag} {a : Addr} {xs : List V} {g : TG} {tb : TS} {D : Ends} {σ : St} {H : Hp} (Pv : Nat → St → Hp → Prop) (h0 : Pv 0 σ H) (hl : ∀ i σ H, i ≤ xs.length → Pv i σ H → SqT K H a xs)
    (hs : ∀ i x T σ H, xs[i]? = some x → H T = none → Pv i σ H → g (.ref T) σ (upd H T (.tup [.int (i : Nat), x])) fun σ2 H2 => tb { D with nx := Pv (i + 1), ct := Pv (i + 1), bk := D.nx } σ2 H2) (hd : ∀ σ H, Pv xs.length σ H → D.nx σ H) :
    ∃ W : Nat → Nat → St → Hp → Prop, (∃ m, W 0 m σ H) ∧ ∀ i m σ H, W i m σ H →
      ((Itte K a).stop i H ∧ D.nx σ H) ∨ ((Itte K a).go i H ∧ ∃ N : St → Hp → Prop, (∀ σ' H', N σ' H' → ∃ m', m' < m ∧ W (i + 1) m' σ' H') ∧ ∀ x H', (Itte K a).yld i H x H' → g x σ H' fun σ2 H2 => tb { D with nx := N, ct := N, bk := D.nx } σ2 H2) := by
  refine ⟨fun i m σ H => m = xs.length - i ∧ i ≤ xs.length ∧ Pv i σ H, ⟨xs.length, by simp, Nat.zero_le _, h0⟩, ?_⟩
  rintro i m σ H ⟨rfl, hi, p⟩
  have q := hl i σ H hi p
  by_cases hlt : i < xs.length
  · refine .inr ⟨⟨xs, xs[i], q, by simp [hlt]⟩, Pv (i + 1), fun σ' H' p' => ⟨xs.length - (i + 1), by omega, rfl, hlt, p'⟩, fun x H' y => ?_⟩
    obtain ⟨T, x, rfl, hT, rfl, y⟩ := y
    exact hs i x T σ _ (y xs q) hT p
  · have e : i = xs.length := by omega
    subst e
    exact .inl ⟨⟨xs, q, Nat.le_refl _⟩, hd σ H p⟩
end L2

set_option Elab.async false
set_option linter.all false
set_option maxRecDepth 100000
set_option maxHeartbeats 2000000
namespace L2
open PySem PySem.Spec PyProof.Rows
/-! ### repr of lists and tuples of small things -/
mutual
/-- the value v of the heap H is the data d (no dicts) -/
inductive RdV (H : Hp) : V → PyData → Prop
  | non : RdV H .non .none
  | bl (b : Bool) : RdV H (.bl b) (.bool b)
  | int (i : Int) : RdV H (.int i) (.int i)
  | str (x : Str) : RdV H (.str x) (.str x)
  | lst {a : Addr} {xs : List V} {ds : List PyData} (h : H a = some (.lst xs)) (r : RdVs H xs ds) : RdV H (.ref a) (.list ds)
  | tup {a : Addr} {xs : List V} {ds : List PyData} (h : H a = some (.tup xs)) (r : RdVs H xs ds) : RdV H (.ref a) (.tuple ds)
inductive RdVs (H : Hp) : List V → List PyData → Prop
  | nil : RdVs H [] []
  | cons {x : V} {xs : List V} {d : PyData} {ds : List PyData} (h : RdV H x d) (r : RdVs H xs ds) : RdVs H (x :: xs) (d :: ds)
end
mutual
theorem RdV.keep {H H' : Hp} (s : Same H H') : ∀ {x : V} {d : PyData}, RdV H x d → RdV H' x d
  | _, _, .non => .non
  | _, _, .bl b => .bl b
  | _, _, .int i => .int i
  | _, _, .str x => .str x
  | _, _, .lst h r => .lst (s _ _ h) (RdVs.keep s r)
  | _, _, .tup h r => .tup (s _ _ h) (RdVs.keep s r)
theorem RdVs.keep {H H' : Hp} (s : Same H H') : ∀ {xs : List V} {ds : List PyData}, RdVs H xs ds → RdVs H' xs ds
  | _, _, .nil => .nil
  | _, _, .cons h r => .cons (RdV.keep s h) (RdVs.keep s r)
end
section
variable {X : Cx} {pins : List (Addr × Obj)} {σ : St} {H : Hp} {s : Shared}
mutual
theorem RdV.reads (I : Inv X pins σ H s) : ∀ {x : V} {d : PyData}, RdV H x d → ∀ {u : Value}, RelV x u → ∃ as, Reads s.heap u d as
  | _, _, .non, u, r => ⟨[], by rw [show u = Value.none from r]; exact .none⟩
  | _, _, .bl b, u, r => ⟨[], by rw [show u = Value.bool b from r]; exact .bool b⟩
  | _, _, .int i, u, r => by
    obtain ⟨t, e⟩ : ∃ t, u = Value.int i t := r
    exact ⟨[], by rw [e]; exact .int i t⟩
  | _, _, .str x, u, r => by
    obtain ⟨t, e⟩ : ∃ t, u = Value.str x t := r
    exact ⟨[], by rw [e]; exact .str x t⟩
  | _, _, .lst (a := a) h q, u, r => by
    have e : u = Value.ref a := r
    obtain ⟨its, rv, p, hz⟩ := I.list (SqL.of h)
    obtain ⟨o, ho, hc, n, hd⟩ := p.isList
    obtain ⟨as, z⟩ := RdVs.reads I q rv
    exact ⟨a :: as, by rw [e]; exact .list ho hc hd (by simpa using z)⟩
  | _, _, .tup (a := a) h q, u, r => by
    have e : u = Value.ref a := r
    obtain ⟨its, rv, p, hz⟩ := I.tuple (SqT.of h)
    obtain ⟨o, ho, hc, n, hd⟩ := (show s.heap.IsTuple a its.toArray from p)
    obtain ⟨as, z⟩ := RdVs.reads I q rv
    exact ⟨as, by rw [e]; exact .tuple ho hc hd (by simpa using z)⟩
theorem RdVs.reads (I : Inv X pins σ H s) : ∀ {xs : List V} {ds : List PyData}, RdVs H xs ds → ∀ {us : List Value}, Vals xs us → ∃ as, ReadsAll s.heap us ds as
  | _, _, .nil, _, .nil => ⟨[], .nil⟩
  | _, _, .cons h q, _, .cons r rr => by
    obtain ⟨as, z⟩ := RdV.reads I h r
    obtain ⟨bs, zs⟩ := RdVs.reads I q rr
    exact ⟨as ++ bs, .cons z zs⟩
end
end
/-- repr(xs) where no other repr is under way -/
def rRepr : List V → Hp → VK → Prop := fun xs H Q => ∃ (a : Addr) (d : PyData), xs = [.ref a] ∧ RdV H (.ref a) d ∧ d.showable = true ∧ d.hasDict = false ∧ d.depth ≤ 20 ∧ d.shown.length ≤ sizeLine ∧ Q (.str d.shown) H
theorem call_repr_of {X : Cx} (hg : X.A.guards = some []) (hu : X.A.units + 64 < cLine) : CallR X (.builtin "repr") rRepr := by
  intro pins s σ H xs us Q I r h
  obtain ⟨a, d, rfl, hd, h1, h2, h3, h4, q⟩ := h
  cases r with
  | cons rx rr =>
    cases rr
    obtain ⟨as, z⟩ := hd.reads I rx
    cases rx
    exact repr_of_reads' z h1 (fun z => by rw [h2] at z; cases z) hg (by omega) (fun _ _ z => z) (fun h' u tk hk => ⟨.str d.shown, H, I.kept (t' := tk) hk, ⟨_, rfl⟩, q⟩) h4
/-! ### defs that want to know that no repr is under way -/
/-- as FnOk, called where no repr is under way -/
structure FnG (P : Program) (w : World) (K : PySem.W.Frag) (mg : Str → Option Value) (base : Heap) (k : Nat) (f : Addr) (fd : FuncData) (ps : List Str) (sp : Sp) : Prop where
  len : ∀ vs H Q E, sp vs H Q E → vs.length = ps.length
  run : ∀ (A : Around) (outer : List Env) (s : Shared) (H : Hp) (args : Args) (us : List Value) (vs : List V) (Q : VK) (E : XK), A.guards = some [] → Room k A → Env0 P w K mg base A outer s H → BindsTo s fd args (ps.zip us) → Vals vs us → sp vs H Q E →
    codeAny (model P w) A (.call (.ref f) args) (CR CX0 outer P w H s Q E) s
theorem Fun.okG {P : Program} {w : World} {K : PySem.W.Frag} {mg : Str → Option Value} {base : Heap} {x qual : Str} {st : Stmt} {f : Addr} {fd : FuncData} {N ps : List Str} {k : Nat} {sp : Sp} (F : Fun K x qual st f fd) (S : FnScope N ps (defScope st)) (len : ∀ vs H Q E, sp vs H Q E → vs.length = ps.length)
    (hbody : ∀ (cdv : Value) (A : Around) (outer : List Env) (s : Shared) (H : Hp) (vs : List V) (Q : VK) (E : XK), (A.deeper (envOfC qual (defScope st) s.heap.objs.size f cdv)).guards = some [] → Room k (A.deeper (envOfC qual (defScope st) s.heap.objs.size f cdv)) → sp vs H Q E →
      ∃ t, PSs (cxOf CX0 P w K mg base N qual (defScope st) f cdv A outer s H E).nox (defBody st) t ∧ t { nx := fun _ H' => Q .non H', rt := Q } (start N vs) H) : FnG P w K mg base (k + 1) f fd ps sp := by
  obtain ⟨oc, od, kV, doc, pm, an, cd, ct, osl, hfd, lk, hcd⟩ := F.ex
  refine ⟨len, fun A outer s H args us vs Q E gd room e0 bound rel want => ?_⟩
  rw [hfd] at lk bound
  have inS : K.In s.heap := e0.mod.kin.keeps fun b o e => (e0.bs b o e).1
  have kinds : ∀ y ∈ ps.zip us, (defScope st).names.lookup y.1 = some .local ∨ ((defScope st).names.lookup y.1 = some .cell ∧ ((cellsFrom (s.heap.objs.size + 1) (defScope st).names []).lookup y.1).isSome = true) := by
    rintro ⟨n, v⟩ hy
    exact (S.par n (List.of_mem_zip hy).1).elim .inl fun q => .inr ⟨q, PySem.W.cellsFrom_some _ _ _ (.inl q)⟩
  obtain ⟨t, term, now⟩ := hbody cd A outer s H vs Q E gd (room.deeper _) want
  refine codeAny_call_function room.depth (inS _ _ lk) rfl S.co S.gen rfl (PySem.W.codeRec_of inS hcd) (bound _ _ _ _ (wpAny_newFunctionEnv_cells S.kind kinds ?_))
  rintro env rfl s1 laid
  refine ⟨(e0.mod.nolimit.keeps fun b o e => (e0.bs b o e).1).keeps laid.toInCall.keep, codeAny_func (wpAny_mono (term.nox.run [] s1 (start N vs) H _ (inv_start S room.hd e0 (len _ _ _ _ want) rel laid) now) ?_ fun e s' hs => hs)⟩
  intro fl s' hs
  cases fl with
  | ret u =>
    obtain ⟨v, _, H', J, rv, q⟩ := hs
    exact ⟨v, H', J.os, J.bare, J.base, J.hok, rv, q⟩
  | next =>
    obtain ⟨_, H', J, q⟩ := hs
    exact ⟨V.non, H', J.os, J.bare, J.base, J.hok, rfl, q⟩
  | brk => exact hs.elim fun _ z => z.elim fun _ z => z.2.elim
  | cont => exact hs.elim fun _ z => z.elim fun _ z => z.2.elim
section
variable {X : Cx} {k : Nat} {f : Addr} {fd : FuncData} {ps : List Str} {sp : Sp} {x : Str} {q pos : Pos} {e : Expr} {es : List Expr} {t : TA}
theorem pe_callG (F : FnG X.prog X.w X.K X.mg X.base k f fd ps sp) (gd : X.A.guards = some []) (hr : Room k X.A) (hg : Gl X x) (hm : X.mg x = some (.ref f)) (hk : PySem.W.keepIn X.K (.ref f) = true) (hb : Binds X.K fd ps [])
    (ha : PA X (e :: es) t) (hdb : (x == ("__debug__" : Str)) = false := by decide) (he : starEach (e :: es) X.env = (false, eval e X.env) :: starEach es X.env := by rfl) (hpl : (backTo pos (starEach es X.env)).any (·.1) = false := by rfl) :
    PE X (.Call (.Name x q) (e :: es) [] pos) (tCall sp [] E0 t) := by
  refine ⟨fun pins s σ H Q I h => wpAny_Call_Name_kw (ld_glob I hg hm (PySem.W.callWith_K (h₀ := X.base) I.ok.mod.kin hk (thn (ha.run pos pins s σ H _ I h) ?_) he hpl) hdb)⟩
  rintro us s1 ⟨vs, H1, J, r, want⟩
  rw [List.append_nil] at want
  have b := hb s1 us J.kIn (by rw [List.append_nil, ← r.length]; exact F.len _ _ _ _ want)
  rw [List.append_nil] at b
  refine ⟨J.kIn, wpAny_call (codeAny_mono (F.run X.A X.stack s1 H1 ⟨us, []⟩ us vs Q E0 gd hr J.env0 b r want) ?_)⟩
  intro r s' hq
  rcases r with e | fl
  · exact False.elim hq
  · cases fl with
    | ret u => exact J.after hq
    | _ => exact False.elim hq
end
/-- a def that may raise, called where it does not -/
theorem passF {P : Program} {w : World} {X : Cx} : Passes (L2N.CX P w) X E0 := by
  rintro pins σ H s e s' I ⟨_, _, _, _, _, _, _, _, _, _, _, _, z⟩
  exact z.elim
end L2

set_option Elab.async false
set_option linter.all false
set_option maxRecDepth 100000
set_option maxHeartbeats 2000000
namespace L2
open PySem PySem.Spec PyProof.Rows
section
variable {P : Program} {w : World} {K : PySem.W.Frag} {mg mb : Str → Option Value} {k : Nat} {fa a : Addr} {fd : FuncData} {x : Str} {sp : Sp} {s : Shared} {vs : List Value} {ns : List Int}
/-- the law's def runs from the caller's own place, over a heap in which nothing but the script is told -/
theorem enterG (KX : K.In s.heap) (hns : s.heap.Ns mainGlobals mg) (hb : s.heap.Ns builtinsNs mb) (hbb : ∀ x : Str, x ≠ "__name__" → mb x = bootBuiltins x) (hlim : s.heap.NoLimit) (hg : s.gens = #[])
    (ha : s.heap.get? a = some { cls := .type "list", data := .seq vs.toArray }) (hr : Room k callerA)
    (F : ∀ base : Heap, K.In base → base.Ns mainGlobals mg → FnG P w K mg base k fa fd [x] sp) (hbind : ∀ (s : Shared) (u : Value), BindsTo s fd ⟨[u], []⟩ [(x, u)])
    (hsp : ∀ H : Hp, Only H → SqL K H a (ns.map V.int) → sp [.ref a] H (fun v _ => v = .bl true) fun _ _ _ => False)
    (H : Hp) (hO : Only H) (hS : SqL K H a (ns.map V.int)) (hok : HOk P w H s.heap) (hA : ∀ b, H b ≠ none → b = a) (hK : H a ≠ none → K.lookup a = none) :
    codeAny (model P w) callerA (.call (.ref fa) ⟨[.ref a], []⟩) (fun r t => r = .ok (.ret (.bool true)) ∧ OldK s.heap t.heap ∧ t.os = s.os ∧ AllBare t.gens) s := by
  -- no namespace is told, nothing of the written part is
  have free : ∀ {b : Addr}, b ≠ a → H b = none := fun {b} n => by
    cases e : H b with
    | none => rfl
    | some u => exact absurd (hA b (by rw [e]; exact fun z => nomatch z)) n
  have seen : ∀ {b : Addr} {o : Obj}, s.heap.get? b = some o → H b = none → (hidT s.heap H).get? b = some o := fun e n => hidT_get e n
  have names : ∀ {b : Addr} {m : Str → Option Value}, s.heap.Ns b m → (hidT s.heap H).Ns b m := by
    rintro b m ⟨o, es, ep, e, d, r⟩
    refine ⟨o, es, ep, seen e (free fun z => ?_), d, r⟩
    subst z
    rw [ha] at e
    cases e
    cases (show Data.seq vs.toArray _ = Data.dict es ep from d)
  have kin : K.In (hidT s.heap H) := by
    intro b o e
    refine seen (KX b o e) ?_
    by_cases z : b = a
    · subst z
      cases q : H b with
      | none => rfl
      | some u =>
        rw [hK (by rw [q]; exact fun z => nomatch z)] at e
        cases e
    · exact free z
  obtain ⟨mc, lim1, lim2⟩ := hlim
  have e0 : Env0 P w K mg (hidT s.heap H) callerA [] s H := ⟨rfl, ⟨kin, names hns, ⟨mb, names hb, hbb⟩, ⟨mc, names lim1, lim2⟩⟩, fun _ _ e => of_hidT e, Nat.le_of_eq (hidT_size _ _), trivial, fun b z => absurd (show b ∈ ([] : List Addr) from z) (by simp), hok, .of_eq hg⟩
  have run := (F _ kin (names hns)).run callerA [] s H ⟨[.ref a], []⟩ [.ref a] [.ref a] _ _ rfl hr e0 (hbind s (.ref a)) (.cons rfl .nil) (hsp H hO hS)
  refine codeAny_mono run ?_
  rintro (e | fl) t h
  · exact h.elim
  cases fl with
  | ret u =>
    obtain ⟨v, H', os, bare, un, ok', rv, qv⟩ := h
    obtain rfl : v = .bl true := qv
    obtain rfl : u = Value.bool true := rv
    refine ⟨rfl, OldK.of_keep fun b o e => ?_, os, bare⟩
    rcases hO b with z | ⟨ob, ys, z⟩
    · exact un.keep b o e z (fun z => absurd (show b ∈ ([] : List Addr) from z) (by simp)) (by simp)
    · obtain ⟨e1, _⟩ := hok b _ z
      obtain ⟨e2, _⟩ := ok' b _ (un.frzs b ob _ z)
      rw [e] at e1
      cases e1
      exact e2
  | _ => exact h.elim
theorem callG (KX : K.In s.heap) (hns : s.heap.Ns mainGlobals mg) (hb : s.heap.Ns builtinsNs mb) (hbb : ∀ x : Str, x ≠ "__name__" → mb x = bootBuiltins x) (hlim : s.heap.NoLimit) (hg : s.gens = #[])
    (ha : s.heap.get? a = some { cls := .type "list", data := .seq vs.toArray }) (hi : IntsAre vs ns) (hl : ns.length ≤ sizeLine) (hr : Room k callerA)
    (F : ∀ base : Heap, K.In base → base.Ns mainGlobals mg → FnG P w K mg base k fa fd [x] sp) (hbind : ∀ (s : Shared) (u : Value), BindsTo s fd ⟨[u], []⟩ [(x, u)])
    (hsp : ∀ H : Hp, Only H → SqL K H a (ns.map V.int) → sp [.ref a] H (fun v _ => v = .bl true) fun _ _ _ => False) :
    codeAny (model P w) callerA (.call (.ref fa) ⟨[.ref a], []⟩) (fun r t => r = .ok (.ret (.bool true)) ∧ OldK s.heap t.heap ∧ t.os = s.os ∧ AllBare t.gens) s := by
  have rv := vals_ints hi
  cases hk : K.lookup a with
  | some o =>
    have e := KX a o hk
    rw [ha] at e
    cases e
    have told : SqL K (fun _ => none) a (ns.map V.int) := .inr ⟨_, vs.toArray, _, hk, rfl, rfl, rfl, by rw [List.size_toArray, hi.length]; exact hl, by simpa using rv⟩
    exact enterG KX hns hb hbb hlim hg ha hr F hbind hsp _ (fun _ => .inl rfl) told (fun b u z => nomatch (show (none : Option HO) = some u from z)) (fun b z => absurd rfl z) fun z => absurd rfl z
  | none =>
    obtain ⟨H, here, away⟩ : ∃ H : Hp, H a = some (.frz { cls := .type "list", data := .seq vs.toArray } (.lst (ns.map V.int))) ∧ ∀ b, b ≠ a → H b = none := ⟨fun b => if b = a then _ else none, if_pos rfl, fun b n => if_neg n⟩
    refine enterG KX hns hb hbb hlim hg ha hr F hbind hsp H (fun b => ?_) (.inl (.inr ⟨_, here⟩)) (fun b u z => ?_) (fun b z => ?_) fun _ => hk
    · by_cases n : b = a
      · exact .inr ⟨_, _, by rw [n]; exact here⟩
      · exact .inl (away b n)
    · by_cases n : b = a
      · subst n
        rw [here] at z
        cases z
        exact ⟨ha, by rw [List.length_map]; exact hl, vs, _, rv, ha⟩
      · rw [away b n] at z
        cases z
    · exact Decidable.byContradiction fun n => z (away b n)
end
/-- the end, from the law's promise over defs that want to know that no repr is under way -/
theorem walk_ofG {l : PySem.W.OpenLaw} {n k : Nat} {q : Program} {loose : List Str} {XP : (Str → Option Value) → Heap → Prop} {YP : World → Heap → Prop} {d : DefRec} {K : Params → PySem.W.Frag} {sp : World → Sp} {x : Str}
    (hn : l.most = some n) (hn2 : n ≤ sizeLine) (hdf : d.params.defaults = []) (hr : Room k callerA)
    (hY : ∀ (w : World) (h : Heap), YP w h → (K w.params).In h)
    (F : ∀ (w : World) (mg : Str → Option Value) (fa : Addr) (h : Heap), (K w.params).In h → h.Ns mainGlobals mg → mg d.name = some (.ref fa) →
      ∃ fd : FuncData, (∀ (s : Shared) (u : Value), BindsTo s fd ⟨[u], []⟩ [(x, u)]) ∧ ∀ base : Heap, (K w.params).In base → base.Ns mainGlobals mg → FnG l.prog w (K w.params) mg base k fa fd [x] (sp w))
    (hsp : ∀ (w : World) (H : Hp) (a : Addr) (ns : List Int), ns.length ≤ n → Only H → SqL (K w.params) H a (ns.map V.int) → sp w [.ref a] H (fun v _ => v = .bl true) fun _ _ _ => False) :
    PySem.W.WalkO q loose XP YP l.row.toRowW d [] (fun f vs => PySem.call f vs) := by
  refine Att.attach_call hn hdf fun w _ s mg mb fa _ _ _ _ a vs ns G Y _ _ _ hmg hobj hints hlen hg => ?_
  obtain ⟨fd, hb, hF⟩ := F w mg fa _ (hY w _ Y) G.T.g hmg
  exact callG (hY w _ Y) G.T.g G.T.b G.T.builtins G.T.nolimit hg hobj hints (Nat.le_trans hlen hn2) hr hF hb fun H hO hS => hsp w H a ns hlen hO hS
end L2

set_option Elab.async false
set_option linter.all false
set_option maxRecDepth 100000
set_option maxHeartbeats 2000000
namespace L2
open PySem PySem.Spec PyProof.Rows
section
variable {X : Cx} {tg : Expr}
/-- a list or a tuple that is walked -/
def iSeq2 (K : PySem.W.Frag) (tl : TE) : TI := fun σ H R => tl σ H fun x H1 => ∃ a, x = .ref a ∧ ((∃ xs, SqL K H1 a xs) ∧ R (Itl K a) H1 ∨ (∃ xs, SqT K H1 a xs) ∧ R (Itt K a) H1)
theorem pi_seq2 {l : Expr} {tl : TE} (hl : PE X l tl) : PI X tg l (iSeq2 X.K tl) := by
  refine ⟨fun pins s σ H R I h => thn (hl.run pins s σ H _ I h) ?_⟩
  rintro v s1 ⟨x, H1, I1, r1, a, rfl, w⟩
  cases r1
  rcases w with ⟨⟨xs, hq⟩, q⟩ | ⟨⟨xs, hq⟩, q⟩
  · obtain ⟨its, rv, p, hz⟩ := I1.list hq
    exact wpAny_pyIter_list p.isList (pi_one (tk := s1.toks) I1 _ (turn_list a _) ⟨_, Heap.get?_push_size _ rfl, rfl, rfl⟩ q)
  · obtain ⟨its, rv, p, hz⟩ := I1.tuple hq
    exact wpAny_pyIter_tuple (show s1.heap.IsTuple a its.toArray from p) (pi_one (tk := s1.toks) I1 _ (turn_tuple a _) ⟨_, Heap.get?_push_size _ rfl, rfl, rfl⟩ q)
/-- isinstance(e, (c1, c2, ..)), e the pinned exception -/
def rIsPT (K : PySem.W.Frag) (C d : Addr) (p : Addr × Obj) : List V → Hp → VK → Prop := fun xs H Q => ∃ (tp : Addr) (cs : List V) (us : List Value) (b : Bool) (fs : List (Str × V)), xs = [.ref p.1, .ref tp] ∧ H tp = some (.tup cs) ∧ Paired ClsV cs us ∧
  PySem.W.kitAny K (.ref C) us = some b ∧ H d = some (.xd fs) ∧ Q (.bl b) H
theorem call_isPT {p : Addr × Obj} {C d : Addr} {nm : Str} (hp : p ∈ X.pn) (T : PySem.VX.Kind X.K C nm) (z : ExP C d p) : CallR X (.builtin "isinstance") (rIsPT X.K C d p) := by
  intro pins s σ H xs us Q I r h
  obtain ⟨tp, cs, ws, b, fs, rfl, hT, k, e, hd, q⟩ := h
  obtain ⟨u1, u2, rfl, r1, r2⟩ := vals2 r
  cases (show u1 = Value.ref p.1 from r1)
  cases (show u2 = Value.ref tp from r2)
  obtain ⟨od, J, _⟩ := z.inst hp I hd
  obtain ⟨_, its, rv, o, h1, h2, n, h3⟩ := (show ObjOk X.prog X.w H s.heap tp (.tup cs) from I.hok tp _ hT)
  have e3 := ClsV.all k rv
  subst e3
  obtain ⟨oc, od', dt, sl⟩ := o
  simp only at h2 h3
  subst h2 h3
  exact PySem.W.kia_tup (PySem.W.kitx_exc T.some T.ga T.gg T.ex T.cl T.sp T.tk T.mo) I.kIn J h1 e (fun z => nomatch z) fun tk => ⟨.bl b, H, I.kept (t' := tk) fun _ _ z => z, rfl, q⟩
end
end L2

set_option Elab.async false
set_option linter.all false
set_option maxRecDepth 100000
set_option maxHeartbeats 2000000
namespace L2
open PySem PySem.Spec PyProof.Rows
/-- the arguments of a call with keyword-only ones; nothing where their number is wrong -/
def catK {α : Type} (ps ks : List Str) (us ws : List α) : List α := cond (Nat.beq us.length (ps.length - ks.length) && Nat.beq ws.length ks.length) (us ++ ws) []
theorem catK_of {α : Type} {ps ks : List Str} {us ws : List α} (h : (catK ps ks us ws).length = ps.length) (h0 : 0 < ps.length) : us.length = ps.length - ks.length ∧ ws.length = ks.length ∧ catK ps ks us ws = us ++ ws := by
  unfold catK at h ⊢
  cases e : (Nat.beq us.length (ps.length - ks.length) && Nat.beq ws.length ks.length) with
  | false =>
    rw [e] at h
    exact absurd h (Nat.ne_of_lt h0)
  | true =>
    have e2 := Bool.and_eq_true_iff.mp e
    exact ⟨Nat.eq_of_beq_eq_true e2.1, Nat.eq_of_beq_eq_true e2.2, rfl⟩
/-- a def with keyword-only parameters ks behind its others, called by all of them -/
structure DefK (K : PySem.W.Frag) (mg : Str → Option Value) (x : Str) (st : Stmt) (ps ks : List Str) (f : Addr) (fd : FuncData) : Prop where
  fn : Fun K x x st f fd
  g : mg x = some (.ref f)
  b : KBinds K fd ps ks (catK ps ks) (catK ps ks)
theorem Fun.kbinds {K : PySem.W.Frag} {x qual : Str} {st : Stmt} {f : Addr} {fd : FuncData} {ps ks : List Str} (F : Fun K x qual st f fd) (h0 : 0 < ps.length)
    (h : ∀ (kV doc pm : Value) (an : Option Addr) (cdv ct : Value) (us ws : List Value), us.length = ps.length - ks.length → ws.length = ks.length → bindArgs (PySem.W.fnOf x qual (defArgs st) (defBody st) (defScope st) .none kV doc pm an cdv ct) ⟨us, ks.zip ws⟩ = pure (ps.zip (us ++ ws))) :
    KBinds K fd ps ks (catK ps ks) (catK ps ks) := by
  obtain ⟨oc, od, kV, doc, pm, an, cdv, ct, osl, rfl, lk, hcd⟩ := F.ex
  refine ⟨fun s us ws _ hl => ?_, fun {vs us zs ws} r rz => ?_⟩
  · obtain ⟨h1, h2, h3⟩ := catK_of hl h0
    rw [h3]
    exact .of_eq (h kV doc pm an cdv ct us ws h1 h2)
  · unfold catK
    rw [r.length, rz.length]
    cases Nat.beq us.length (ps.length - ks.length) && Nat.beq ws.length ks.length
    · exact .nil
    · exact r.append rz
section
variable {X : Cx} {CX : CXT} {k : Nat} {f : Addr} {fd : FuncData} {ps ks : List Str} {sp : Sp} {E : St → XK} {x : Str} {p pos : Pos} {e : Expr} {es : List Expr} {kws : List Keyword} {t tk : TA}
/-- f(e, .., k = v, ..) that may raise -/
def tCallSK (ps ks : List Str) (sp : Sp) (E : St → XK) (t tk : TA) : TE := fun σ H Q => t σ H fun vs H1 => tk σ H1 fun zs H2 => sp (catK ps ks vs zs) H2 Q (E σ)
theorem pe_callSK (F : FnOk X.prog X.w X.K X.mg X.base CX k f fd ps sp) (hr : Room k X.A) (hg : Gl X x) (hm : X.mg x = some (.ref f)) (hk : PySem.W.keepIn X.K (.ref f) = true) (hb : KBinds X.K fd ps ks (catK ps ks) (catK ps ks)) (hx : ∀ σ, PassesAt CX X σ (E σ))
    (ha : PA X (e :: es) t) (hkw : PK X kws tk) (hall : (backToKw pos (keywordEach kws X.env)).all (·.1.isSome) = true := by rfl) (hks : (backToKw pos (keywordEach kws X.env)).filterMap (·.1) = ks := by rfl)
    (hdb : (x == ("__debug__" : Str)) = false := by decide) (he : starEach (e :: es) X.env = (false, eval e X.env) :: starEach es X.env := by rfl)
    (hpl : ((backTo pos (starEach (e :: es) X.env)).any (·.1) || (backToKw pos (keywordEach kws X.env)).any (·.1.isNone)) = false := by rfl) :
    PE X (.Call (.Name x p) (e :: es) kws pos) (tCallSK ps ks sp E t tk) := by
  refine ⟨fun pins s σ H Q I h => wpAny_Call_Name_kw (ld_glob I hg hm (PySem.W.callWith_KW (h₀ := X.base) I.ok.mod.kin hk hall (thn (ha.run pos pins s σ H _ I h) ?_) hpl he) hdb)⟩
  rintro us s1 ⟨vs, H1, I1, r, w⟩
  refine thn (hkw.run pos pins s1 σ H1 _ I1 w) ?_
  rintro ws s2 ⟨zs, H2, I2, rz, want⟩
  rw [hks]
  have both : Vals (catK ps ks vs zs) (catK ps ks us ws) := hb.rel r rz
  refine ⟨I2.kIn, wpAny_call (codeAny_mono (F.run X.A X.stack s2 H2 ⟨us, ks.zip ws⟩ (catK ps ks us ws) (catK ps ks vs zs) Q (E σ) hr I2.env0 (hb.to s2 us ws I2.kIn (both.length.symm.trans (F.len _ _ _ _ want))) both want) ?_)⟩
  rintro (e | fl) s' hq
  · exact hx σ pins H2 s2 e s' I2 hq
  · cases fl with
    | ret u => exact I2.after hq
    | _ => exact False.elim hq
end
end L2

set_option Elab.async false
set_option linter.all false
set_option maxRecDepth 100000
set_option maxHeartbeats 2000000
namespace L2
open PySem PySem.Spec PyProof.Rows
theorem foldl_size {α : Type} (b : Array α) : ∀ (m : Nat) (acc : Array α), (List.foldl (fun x1 x2 => x1 ++ x2) acc (List.replicate m b)).size = acc.size + m * b.size
  | 0, acc => by
    rw [Nat.zero_mul]
    rfl
  | m + 1, acc => by
    rw [List.replicate_succ, List.foldl_cons, foldl_size b m, Array.size_append, Nat.succ_mul]
    omega
section
variable {X : Cx}
/-- a text of one letter, several times -/
def rMulS : R2 := fun x y H Q => ∃ (a : Str) (k : Int), x = .str a ∧ y = .int k ∧ a.length = 1 ∧ 2 ≤ k ∧ k ≤ 1000 ∧ ∀ z, Q (.str z) H
theorem op_mulS : OpR X (binaryOp .Mult) rMulS := by
  intro pins s σ H x y v u Q I rx ry h
  obtain ⟨a, k, rfl, rfl, hl, k2, k3, q⟩ := h
  obtain ⟨t, rfl⟩ := rx
  obtain ⟨t2, rfl⟩ := ry
  refine P.mul_str (by rw [decide_eq_false (by omega), decide_eq_false (by omega)]; rfl) (fun _ _ => ?_) (fun _ _ => ?_) ?_
  · rw [hl]
    have : (1 : Int) ≤ (2 ^ 63 - 1) / k := (Int.le_ediv_iff_mul_le (by omega)).mpr (by omega)
    exact Int.not_lt.mpr this
  · rw [hl]
    exact decide_eq_false (Nat.not_lt.mpr (Nat.le_trans (by omega : 1 * k.toNat ≤ 1000) (Nat.le_of_ble_eq_true rfl)))
  · have hb : (k == 1 || a.length == 0) = false := by
      rw [hl, beq_eq_false_iff_ne.mpr (by omega : k ≠ 1)]
      rfl
    rw [if_neg (by omega), hb, if_neg Bool.false_ne_true]
    dsimp only [Made.post]
    refine ⟨?_, .str _, H, I.tok _, ⟨_, rfl⟩, q _⟩
    have e : a.cps.size = 1 := hl
    show (List.foldl (fun x1 x2 => x1 ++ x2) #[] (List.replicate k.toNat a.cps)).size ≤ sizeLine
    rw [foldl_size, e]
    exact Nat.le_trans (by show 0 + k.toNat * 1 ≤ 1000; omega) (Nat.le_of_ble_eq_true rfl)
end
end L2

set_option Elab.async false
set_option linter.all false
set_option maxRecDepth 100000
set_option maxHeartbeats 2000000
namespace L2N
open PySem PySem.Spec PyProof.Rows L2
/-- a clause's suite, by the exception that stands in flight -/
abbrev Sui := Addr → Value → Option Addr → TS
/-- the ends behind a clause that binds slot i: the slot is empty then -/
def offE (i : Nat) (D : Ends) : Ends := { nx := fun z G => D.nx (z.set i none) G, rt := D.rt, bk := fun z G => D.bk (z.set i none) G, ct := fun z G => D.ct (z.set i none) G }
/-- what clauses, some with a name, wish of the body's exception -/
def wHds (K : PySem.W.Frag) (Wo : WX) (D : Ends) : List (Value × Option Nat × Sui) → WX
  | [] => Wo
  | (c, o, ts) :: r => fun cls d z G => ∃ b, PySem.W.exmOne K cls c = some b ∧
      (b = true → ∀ x, G x = none → (match o with | none => ts x cls d D z G | some i => ts x cls d (offE i D) (z.set i (some (.ref x))) G)) ∧ (b = false → wHds K Wo D r cls d z G)
inductive HdN (X : Cx) : List ExceptHandler → List (Value × Option Nat × Sui) → Prop
  | nil : HdN X [] []
  | bare {y : Str} {c : Value} {ts : Sui} {b0 : Stmt} {bs : List Stmt} {p1 p2 : Pos} {hs : List ExceptHandler} {l : List (Value × Option Nat × Sui)} (nm : Names X y c)
      (su : ∀ (x : Addr) (ox : Obj) (cls : Value) (d : Option Addr) (pn : List (Addr × Obj)), Zn cls d ox → (∃ vs, ox.data = .fields vs) → PSs (X.suite x ((x, ox) :: pn)) (b0 :: bs) (ts x cls d)) (r : HdN X hs l) :
      HdN X (.ExceptHandler (some (.Name y p1)) none (b0 :: bs) p2 :: hs) ((c, none, ts) :: l)
  | named {y n : Str} {i : Nat} {c : Value} {ts : Sui} {b0 : Stmt} {bs : List Stmt} {p1 p2 : Pos} {hs : List ExceptHandler} {l : List (Value × Option Nat × Sui)} (nm : Names X y c) (hi : X.N[i]? = some n) (hk : X.env.kindOf n = some .local)
      (su : ∀ (x : Addr) (ox : Obj) (cls : Value) (d : Option Addr) (pn : List (Addr × Obj)), Zn cls d ox → (∃ vs, ox.data = .fields vs) → PSs (X.suite x ((x, ox) :: pn)) (b0 :: bs) (ts x cls d)) (r : HdN X hs l) :
      HdN X (.ExceptHandler (some (.Name y p1)) (some n) (b0 :: bs) p2 :: hs) ((c, some i, ts) :: l)
theorem exz {C a d' : Addr} {cls : Value} {d : Option Addr} {oe : Obj} (hz : Zn cls d oe) (hf : ∃ vs : Array Value, oe.data = .fields vs) (h : cls = .ref C ∧ d = some d') : ExP C d' (a, oe) := by
  obtain ⟨rfl, rfl⟩ := h
  exact ⟨hz.zc, hf⟩
/-- an expression whose rule wants something of a thing that the promise names -/
theorem pe_ex {ι : Type} {X : Cx} {e : Expr} {p : ι → Prop} {t : ι → TE} (k : ∀ i, p i → PE X e (t i)) : PE X e (fun z G Q => ∃ i, p i ∧ t i z G Q) := ⟨fun pins s z G Q I ⟨i, pi, h⟩ => (k i pi).run pins s z G Q I h⟩
/-- isinstance(e, (..)), e at address a -/
def rIsPA (K : PySem.W.Frag) (C d a : Addr) : List V → Hp → VK → Prop := fun xs G Q => ∃ (tp : Addr) (cs : List V) (us : List Value) (b : Bool) (fs : List (Str × V)), xs = [.ref a, .ref tp] ∧ G tp = some (.tup cs) ∧ Paired ClsV cs us ∧ PySem.W.kitAny K (.ref C) us = some b ∧ G d = some (.xd fs) ∧ Q (.bl b) G
theorem call_isPA {X : Cx} {K : PySem.W.Frag} {a C d : Addr} {oe : Obj} {nm : Str} (hK : X.K = K) (hp : (a, oe) ∈ X.pn) (T : PySem.VX.Kind X.K C nm) (z : ExP C d (a, oe)) : CallR X (.builtin "isinstance") (rIsPA K C d a) := by
  subst hK
  exact call_isPT hp T z
/-- isinstance(e, C), e at address a -/
def rIsOA (K : PySem.W.Frag) (C d a : Addr) : List V → Hp → VK → Prop := fun xs G Q => ∃ (c : V) (cv : Value) (b : Bool) (fs : List (Str × V)), xs = [.ref a, c] ∧ (∀ u, RelV c u → u = cv) ∧ PySem.W.kitOne K (.ref C) cv = some b ∧ G d = some (.xd fs) ∧ Q (.bl b) G
theorem call_isOA {X : Cx} {K : PySem.W.Frag} {a C d : Addr} {oe : Obj} {nm : Str} (hK : X.K = K) (hp : (a, oe) ∈ X.pn) (T : PySem.VX.Kind X.K C nm) (z : ExP C d (a, oe)) : CallR X (.builtin "isinstance") (rIsOA K C d a) := by
  subst hK
  exact call_isP hp T z
/-- e.f, e at address a -/
def tXa (d a : Addr) (f : Str) (te : TE) : TE := fun z G Q => te z G fun x G1 => x = .ref a ∧ ∃ (fs : List (Str × V)) (v : V), G1 d = some (.xd fs) ∧ fs.lookup f = some v ∧ Q v G1
theorem pe_xa {X : Cx} {a C d : Addr} {oe : Obj} {nm : Str} {e : Expr} {te : TE} {pos : Pos} {n : Str} (hp : (a, oe) ∈ X.pn) (T : PySem.VX.Kind X.K C nm) (z : ExP C d (a, oe)) (hno : PySem.W.findIn X.K (.ref C) n = some none) (he : PE X e te) (hb : attributeBase e n X.env (eval e X.env) = eval e X.env := by rfl) :
    PE X (.Attribute e n pos) (tXa d a n te) := pe_xp hp T z hno he hb
section
variable {X : Cx} {body : List Stmt} {g0 : ExceptHandler} {gs : List ExceptHandler} {l : List (Value × Option Nat × Sui)} {pos : Pos} {tb : WX → TS} {Wo : WX}
theorem sp_leave {pins : List (Addr × Obj)} {D : Ends} {fl : Flow} {s1 : Shared} {pn : List (Addr × Obj)} {xe : Value → Shared → Prop} (hsp : SP (X.tr pn xe) [] D fl s1) (hq : ∀ {z G} {Q : Prop}, Inv (X.tr pn xe) [] z G s1 → (Inv X pins z G s1 → Q) → Q) : SP X pins D fl s1 := by
  cases fl with
  | next => obtain ⟨z, G, J, q⟩ := hsp; exact hq J fun J' => ⟨z, G, J', q⟩
  | brk => obtain ⟨z, G, J, q⟩ := hsp; exact hq J fun J' => ⟨z, G, J', q⟩
  | cont => obtain ⟨z, G, J, q⟩ := hsp; exact hq J fun J' => ⟨z, G, J', q⟩
  | ret u => obtain ⟨v, z, G, J, r, q⟩ := hsp; exact hq J fun J' => ⟨v, z, G, J', r, q⟩
theorem ps_tryH (nd : X.N.Nodup) (hs : X.stack = X.env :: X.outer) (hf : X.env.frame = some X.env.locals) (tk : Takes X Wo)
    (hb : ∀ (W : WX) (pn : List (Addr × Obj)) (xe : Value → Shared → Prop), Takes (X.tr pn xe) W → PassesOwn (model X.prog X.w) X.A X.env xe → PSs (X.tr pn xe) body (tb W))
    (hh : HdN X (g0 :: gs) l) : PS X (.Try body (g0 :: gs) [] [] pos) (fun D z G => tb (wHds X.K Wo D l) D z G) := by
  refine ⟨fun pins s z0 G0 D I h => ?_⟩
  have ok := I.ok
  have hfr : X.A.frames = some (X.env :: X.outer) := hs ▸ ok.frames
  refine wpAny_Try_except ?_
  have run := (hb (wHds X.K Wo D l) (X.pn ++ pins) (fun e t => wpAny (model X.prog X.w) X.A (noteFrame e X.env) (fun _ t => wpAny (model X.prog X.w) X.A (setFlight e none)
      (fun _ t => wpAny (model X.prog X.w) X.A (handleBy e X.env (g0 :: gs)) (SP X pins D) X.xe t) X.xe t) X.xe t) (fun u t xx => ?_) PassesOwn.looking).run [] s z0 G0 D (I.toTry _) h
  · refine wpAny_mono run (fun fl t hsp => ?_) fun _ _ q => q
    have back : SP X pins D fl t := sp_leave hsp fun J q => q (J.ofTry ok)
    cases fl with
    | next => exact wpAny_execs_nil back
    | brk => exact back
    | cont => exact back
    | ret u => exact back
  obtain ⟨x, B, sI, pins', z, G, cls, d, rfl, J0, nb, up, sky, na, os, ag, w⟩ := xx
  have J : Inv X pins z G sI := J0.ofTry ok
  rw [hs] at sky
  show wpAny (model X.prog X.w) X.A (noteFrame (.ref x) X.env) _ _ _
  refine Sky.land Zn.steady hfr hf sky fun h3 f3 up3 => ?_
  have J3 : Inv X pins z G { t with heap := h3 } := J.landed nb f3.1 (up.trans up3) os ag
  obtain ⟨o3, w3, e3, z3, d3⟩ := f3.there
  have nfr : x ∉ frs (X.env :: X.outer) := fun hm => by
    obtain ⟨_, o', e', hn⟩ := f3.2.2.1.mem hm
    have : o' = o3 := Option.some.inj (e'.symm.trans e3)
    exact hn _ (this ▸ d3)
  have nL : x ≠ X.env.locals := fun q => nfr (List.mem_filterMap.mpr ⟨X.env, .head _, by rw [hf, q]⟩)
  have nF : x ∉ X.fs := fun hm => by
    obtain ⟨e, he, q⟩ := List.mem_filterMap.mp hm
    exact nfr (List.mem_filterMap.mpr ⟨e, .tail _ he, q⟩)
  have S3 := J3.suite e3 d3 na nL nF
  -- the class of a clause is read
  have reads : ∀ {y : Str} {c : Value} {p : Pos} {Q E : Value → Shared → Prop}, Names X y c → Q c { t with heap := h3 } → wpAny (model X.prog X.w) (X.A.mark (some (.ref x))) (eval (.Name y p) X.env) Q E { t with heap := h3 } := fun nm q => by
    obtain ⟨a1, a2, a3 | ⟨a3, a4, a5⟩⟩ := nm
    · exact ld_glob (X := X.suite x ((x, o3) :: (X.pn ++ pins))) S3 a1 a3 q a2
    · exact ld_blt (X := X.suite x ((x, o3) :: (X.pn ++ pins))) S3 a1 a3 a4 q a5 a2
  have looks : PySem.W.Looks (model X.prog X.w) h3 (typeOf (.ref x)) cls := fun A Q E s k q => wpAny_typeOf_ref (k _ _ e3) (z3.1 ▸ q)
  suffices go : ∀ {hds : List ExceptHandler} {l' : List (Value × Option Nat × Sui)}, HdN X hds l' → wHds X.K Wo D l' cls d z G → wpAny (model X.prog X.w) X.A (handleBy (.ref x) X.env hds) (SP X pins D) X.xe { t with heap := h3 } from go hh w
  clear w hh
  intro hds l' hk
  induction hk with
  | nil =>
    intro w
    refine wpAny_handleBy_nil ?_
    obtain ⟨_, _, _, oe, vs, T, _, _, he, _, hd, h1, _⟩ := id f3
    unfold PySem.passOn
    refine wpAny_bind (wpAny_field he hd h1 ?_)
    rw [if_neg (by simp : ¬ ((Value.ref T == Value.none) = true))]
    have fin : wpAny (model X.prog X.w) X.A (setFlight (.ref x) X.env.frame) (fun _ t4 => wpAny (model X.prog X.w) X.A (throw (.ref x) : Sem Flow) (SP X pins D) X.xe t4) X.xe { t with heap := h3 } := by
      rw [hf]
      exact HandSPX.setFlight_upZ f3 fun h4 q4 up4 => wpAny_throw (tk _ _ ⟨x, B, sI, pins, z, G, cls, d, rfl, J, nb, (up.trans up3).trans up4, .inr (.inr (hs ▸ q4)), na, os, ag, w⟩)
    first
      | exact wpAny_bind (wpAny_pure (wpAny_bind fin))
      | exact wpAny_bind fin
  | bare nm su r ih =>
    rintro ⟨b, w1, yes, no⟩
    refine wpAny_handleBy_cons (codeAny_handlers_test ?_) (by intro q; cases q)
    refine reads nm ((PySem.W.exm_one (M := model X.prog X.w) J3.kIn looks w1).here ?_)
    cases b with
    | false => exact ih (no rfl)
    | true =>
      refine codeAny_handlers_suite (HandSPX.lands_againZ f3 fun h4 f4 up4 => ?_)
      obtain ⟨o4, w4, e4, z4, d4⟩ := f4.there
      have J4 : Inv X pins z G { t with heap := h4 } := J.landed nb f4.1 ((up.trans up3).trans up4) os ag
      have S4 := J4.suite e4 d4 na nL nF
      refine wpAny_mono ((su x o4 cls d (X.pn ++ pins) z4 ⟨_, d4⟩).run [] _ _ G _ S4 (yes rfl x na)) (fun fl t6 hsp => ?_) fun _ _ q => q.elim
      cases fl with
      | next => exact ⟨_, _, hsp.choose_spec.choose_spec.1.unsuite ok, hsp.choose_spec.choose_spec.2⟩
      | brk => exact ⟨_, _, hsp.choose_spec.choose_spec.1.unsuite ok, hsp.choose_spec.choose_spec.2⟩
      | cont => exact ⟨_, _, hsp.choose_spec.choose_spec.1.unsuite ok, hsp.choose_spec.choose_spec.2⟩
      | ret u =>
        obtain ⟨v6, z6, G6, S6, r6, q6⟩ := hsp
        exact ⟨v6, z6, G6, S6.unsuite ok, r6, q6⟩
  | @named y n i c ts b0 bs p1 p2 hs2 l2 nm hi hk su r ih =>
    rintro ⟨b, w1, yes, no⟩
    refine wpAny_handleBy_cons (codeAny_handlers_test ?_) (by intro q; cases q)
    refine reads nm ((PySem.W.exm_one (M := model X.prog X.w) J3.kIn looks w1).here ?_)
    cases b with
    | false => exact ih (no rfl)
    | true =>
      refine codeAny_handlers_suite_as (HandSPX.lands_againZ f3 fun h4 f4 up4 => ?_)
      obtain ⟨o4, w4, e4, z4, d4⟩ := f4.there
      have J4 : Inv X pins z G { t with heap := h4 } := J.landed nb f4.1 ((up.trans up3).trans up4) os ag
      have S4 := J4.suite e4 d4 na nL nF
      refine store_ok (X := X.suite x ((x, o4) :: (X.pn ++ pins))) (v := .ref x) S4 nd hi (.inl hk) rfl (fun t5 S5 => ?_) (.inr hk)
      refine wpAny_mono ((su x o4 cls d (X.pn ++ pins) z4 ⟨_, d4⟩).run [] t5 _ G _ S5 (yes rfl x na)) (fun fl t6 hsp => ?_) fun _ _ q => q.elim
      have off : ∀ {z6 : St} {G6 : Hp} {Q : Shared → Prop}, Inv (X.suite x ((x, o4) :: (X.pn ++ pins))) [] z6 G6 t6 → (∀ t7, Inv X pins (z6.set i none) G6 t7 → Q t7) →
          wpAny (model X.prog X.w) X.A (do bindName X.env n .none; unbindBehindTheSuite X.env n p2) (fun _ t7 => Q t7) X.xe t6 := fun S6 hq => gone_ok (S6.unsuite ok) nd hi hk hq
      cases fl with
      | next => exact off hsp.choose_spec.choose_spec.1 fun t7 J7 => ⟨_, _, J7, hsp.choose_spec.choose_spec.2⟩
      | brk => exact off hsp.choose_spec.choose_spec.1 fun t7 J7 => ⟨_, _, J7, hsp.choose_spec.choose_spec.2⟩
      | cont => exact off hsp.choose_spec.choose_spec.1 fun t7 J7 => ⟨_, _, J7, hsp.choose_spec.choose_spec.2⟩
      | ret u =>
        obtain ⟨v6, z6, G6, S6, r6, q6⟩ := hsp
        exact off S6 fun t7 J7 => ⟨v6, _, _, J7, r6, q6⟩
end
end L2N

set_option Elab.async false
set_option linter.all false
set_option maxRecDepth 100000
set_option maxHeartbeats 2000000
namespace K47
open PySem PySem.Spec PyProof.Rows L2
def top (i : Nat) : Stmt := PySem.Challenge.pw_holdingsshut_k47_moves_give_the_stretch.main.body.getD i (.Pass ⟨0, 0, 0, 0⟩)
abbrev s_is_whole : Stmt := top 11
abbrev N_is_whole : List Str := ["value"]
abbrev p_is_whole : List Str := ["value"]
theorem sc_is_whole : FnScope N_is_whole p_is_whole (defScope s_is_whole) := ⟨rfl, rfl, rfl, by decide +kernel, rfl, by decide +kernel, by decide +kernel⟩
abbrev s_lies_within : Stmt := top 12
abbrev N_lies_within : List Str := ["value", "low", "high"]
abbrev p_lies_within : List Str := ["value", "low", "high"]
theorem sc_lies_within : FnScope N_lies_within p_lies_within (defScope s_lies_within) := ⟨rfl, rfl, rfl, by decide +kernel, rfl, by decide +kernel, by decide +kernel⟩
abbrev s_is_prime : Stmt := top 13
abbrev N_is_prime : List Str := ["n", "divisor"]
abbrev p_is_prime : List Str := ["n"]
theorem sc_is_prime : FnScope N_is_prime p_is_prime (defScope s_is_prime) := ⟨rfl, rfl, rfl, by decide +kernel, rfl, by decide +kernel, by decide +kernel⟩
abbrev s_need_prime : Stmt := top 14
abbrev N_need_prime : List Str := ["p"]
abbrev p_need_prime : List Str := ["p"]
theorem sc_need_prime : FnScope N_need_prime p_need_prime (defScope s_need_prime) := ⟨rfl, rfl, rfl, by decide +kernel, rfl, by decide +kernel, by decide +kernel⟩
abbrev s_choose : Stmt := top 15
abbrev N_choose : List Str := ["n", "k", "many", "taken"]
abbrev p_choose : List Str := ["n", "k"]
theorem sc_choose : FnScope N_choose p_choose (defScope s_choose) := ⟨rfl, rfl, rfl, by decide +kernel, rfl, by decide +kernel, by decide +kernel⟩
abbrev s_check_table : Stmt := top 17
abbrev N_check_table : List Str := ["p", "table", "which", "number"]
abbrev p_check_table : List Str := ["p", "table", "which"]
theorem sc_check_table : FnScope N_check_table p_check_table (defScope s_check_table) := ⟨rfl, rfl, rfl, by decide +kernel, rfl, by decide +kernel, by decide +kernel⟩
abbrev s_chain : Stmt := top 18
abbrev N_chain : List Str := ["p", "up", "start", "length", "steps", "numbers", "_"]
abbrev p_chain : List Str := ["p", "up", "start", "length"]
theorem sc_chain : FnScope N_chain p_chain (defScope s_chain) := ⟨rfl, rfl, rfl, by decide +kernel, rfl, by decide +kernel, by decide +kernel⟩
abbrev s_stretch : Stmt := top 19
abbrev N_stretch : List Str := ["p", "up", "down", "password", "salt", "length", "forward", "back", "numbers", "total", "number"]
abbrev p_stretch : List Str := ["p", "up", "down", "password", "salt", "length"]
theorem sc_stretch : FnScope N_stretch p_stretch (defScope s_stretch) := ⟨rfl, rfl, rfl, by decide +kernel, rfl, by decide +kernel, by decide +kernel⟩
abbrev s_fold : Stmt := top 20
abbrev N_fold : List Str := ["p", "down", "total", "number"]
abbrev p_fold : List Str := ["p", "down", "total", "number"]
theorem sc_fold : FnScope N_fold p_fold (defScope s_fold) := ⟨rfl, rfl, rfl, by decide +kernel, rfl, by decide +kernel, by decide +kernel⟩
abbrev s_need_cells : Stmt := top 22
abbrev N_need_cells : List Str := ["cells"]
abbrev p_need_cells : List Str := ["cells"]
theorem sc_need_cells : FnScope N_need_cells p_need_cells (defScope s_need_cells) := ⟨rfl, rfl, rfl, by decide +kernel, rfl, by decide +kernel, by decide +kernel⟩
abbrev s_rounds : Stmt := top 23
abbrev N_rounds : List Str := ["length", "cells", "many"]
abbrev p_rounds : List Str := ["length", "cells"]
theorem sc_rounds : FnScope N_rounds p_rounds (defScope s_rounds) := ⟨rfl, rfl, rfl, by decide +kernel, rfl, by decide +kernel, by decide +kernel⟩
abbrev s_least_steps : Stmt := top 24
abbrev N_least_steps : List Str := ["length", "cells", "many"]
abbrev p_least_steps : List Str := ["length", "cells"]
theorem sc_least_steps : FnScope N_least_steps p_least_steps (defScope s_least_steps) := ⟨rfl, rfl, rfl, by decide +kernel, rfl, by decide +kernel, by decide +kernel⟩
abbrev s_best_stop : Stmt := top 25
abbrev N_best_stop : List Str := ["length", "cells", "due", "stop"]
abbrev p_best_stop : List Str := ["length", "cells"]
theorem sc_best_stop : FnScope N_best_stop p_best_stop (defScope s_best_stop) := ⟨rfl, rfl, rfl, by decide +kernel, rfl, by decide +kernel, by decide +kernel⟩
abbrev s_move_list : Stmt := top 26
abbrev N_move_list : List Str := ["length", "cells", "moves"]
abbrev p_move_list : List Str := ["length", "cells"]
theorem sc_move_list : FnScope N_move_list p_move_list (defScope s_move_list) := ⟨rfl, rfl, rfl, by decide +kernel, rfl, by decide +kernel, by decide +kernel⟩
abbrev s_write_moves : Stmt := top 27
abbrev N_write_moves : List Str := ["length", "origin", "first", "cells", "moves", "left", "stop", "_"]
abbrev p_write_moves : List Str := ["length", "origin", "first", "cells", "moves"]
theorem sc_write_moves : FnScope N_write_moves p_write_moves (defScope s_write_moves) := ⟨rfl, rfl, rfl, by decide +kernel, rfl, by decide +kernel, by decide +kernel⟩
abbrev s_check_moves : Stmt := top 28
abbrev N_check_moves : List Str := ["length", "cells", "moves", "held", "due", "steps", "at", "move", "index"]
abbrev p_check_moves : List Str := ["length", "cells", "moves"]
theorem sc_check_moves : FnScope N_check_moves p_check_moves (defScope s_check_moves) := ⟨rfl, rfl, rfl, by decide +kernel, rfl, by decide +kernel, by decide +kernel⟩
abbrev s_is_move : Stmt := top 29
abbrev N_is_move : List Str := ["move", "cells"]
abbrev p_is_move : List Str := ["move", "cells"]
theorem sc_is_move : FnScope N_is_move p_is_move (defScope s_is_move) := ⟨rfl, rfl, rfl, by decide +kernel, rfl, by decide +kernel, by decide +kernel⟩
abbrev s_run_moves : Stmt := top 30
abbrev N_run_moves : List Str := ["p", "up", "down", "moves", "start", "length", "cells", "forward", "back", "steps", "held", "total", "move"]
abbrev p_run_moves : List Str := ["p", "up", "down", "moves", "start", "length", "cells"]
theorem sc_run_moves : FnScope N_run_moves p_run_moves (defScope s_run_moves) := ⟨rfl, rfl, rfl, by decide +kernel, rfl, by decide +kernel, by decide +kernel⟩
abbrev s_store : Stmt := top 32
abbrev N_store : List Str := ["script", "seed", "cell"]
abbrev p_store : List Str := ["script"]
theorem sc_store : FnScope N_store p_store (defScope s_store) := ⟨rfl, rfl, rfl, by decide +kernel, rfl, by decide +kernel, by decide +kernel⟩
abbrev s_mix : Stmt := top 33
abbrev N_mix : List Str := ["n", "k", "x"]
abbrev p_mix : List Str := ["n", "k"]
theorem sc_mix : FnScope N_mix p_mix (defScope s_mix) := ⟨rfl, rfl, rfl, by decide +kernel, rfl, by decide +kernel, by decide +kernel⟩
abbrev s_take : Stmt := top 34
abbrev N_take : List Str := ["store", "many", "cell", "digit"]
abbrev p_take : List Str := ["store", "many"]
theorem sc_take : FnScope N_take p_take (defScope s_take) := ⟨rfl, rfl, rfl, by decide +kernel, rfl, by decide +kernel, by decide +kernel⟩
abbrev s_edge : Stmt := top 35
abbrev N_edge : List Str := ["store", "many", "way"]
abbrev p_edge : List Str := ["store", "many"]
theorem sc_edge : FnScope N_edge p_edge (defScope s_edge) := ⟨rfl, rfl, rfl, by decide +kernel, rfl, by decide +kernel, by decide +kernel⟩
abbrev s_odds : Stmt := top 36
abbrev N_odds : List Str := ["store", "many"]
abbrev p_odds : List Str := ["store", "many"]
theorem sc_odds : FnScope N_odds p_odds (defScope s_odds) := ⟨rfl, rfl, rfl, by decide +kernel, rfl, by decide +kernel, by decide +kernel⟩
abbrev s_pick : Stmt := top 37
abbrev N_pick : List Str := ["store", "items"]
abbrev p_pick : List Str := ["store", "items"]
theorem sc_pick : FnScope N_pick p_pick (defScope s_pick) := ⟨rfl, rfl, rfl, by decide +kernel, rfl, by decide +kernel, by decide +kernel⟩
abbrev s_put : Stmt := top 38
abbrev N_put : List Str := ["items", "at", "item"]
abbrev p_put : List Str := ["items", "at", "item"]
theorem sc_put : FnScope N_put p_put (defScope s_put) := ⟨rfl, rfl, rfl, by decide +kernel, rfl, by decide +kernel, by decide +kernel⟩
abbrev s_primes : Stmt := top 39
abbrev N_primes : List Str := []
abbrev p_primes : List Str := []
theorem sc_primes : FnScope N_primes p_primes (defScope s_primes) := ⟨rfl, rfl, rfl, by decide +kernel, rfl, by decide +kernel, by decide +kernel⟩
abbrev s_prime : Stmt := top 40
abbrev N_prime : List Str := ["store", "many"]
abbrev p_prime : List Str := ["store"]
theorem sc_prime : FnScope N_prime p_prime (defScope s_prime) := ⟨rfl, rfl, rfl, by decide +kernel, rfl, by decide +kernel, by decide +kernel⟩
abbrev s_table : Stmt := top 41
abbrev N_table : List Str := ["store", "p", "way", "one", "more", "k"]
abbrev p_table : List Str := ["store", "p"]
theorem sc_table : FnScope N_table p_table (defScope s_table) := ⟨rfl, rfl, rfl, by decide +kernel, rfl, by decide +kernel, by decide +kernel⟩
abbrev s_badtable : Stmt := top 42
abbrev N_badtable : List Str := ["store", "p", "told", "at", "way", "odd"]
abbrev p_badtable : List Str := ["store", "p"]
theorem sc_badtable : FnScope N_badtable p_badtable (defScope s_badtable) := ⟨rfl, rfl, rfl, by decide +kernel, rfl, by decide +kernel, by decide +kernel⟩
abbrev s_length : Stmt := top 43
abbrev N_length : List Str := ["store", "way"]
abbrev p_length : List Str := ["store"]
theorem sc_length : FnScope N_length p_length (defScope s_length) := ⟨rfl, rfl, rfl, by decide +kernel, rfl, by decide +kernel, by decide +kernel⟩
abbrev s_cellcount : Stmt := top 44
abbrev N_cellcount : List Str := ["store"]
abbrev p_cellcount : List Str := ["store"]
theorem sc_cellcount : FnScope N_cellcount p_cellcount (defScope s_cellcount) := ⟨rfl, rfl, rfl, by decide +kernel, rfl, by decide +kernel, by decide +kernel⟩
abbrev s_badcells : Stmt := top 45
abbrev N_badcells : List Str := ["store"]
abbrev p_badcells : List Str := ["store"]
theorem sc_badcells : FnScope N_badcells p_badcells (defScope s_badcells) := ⟨rfl, rfl, rfl, by decide +kernel, rfl, by decide +kernel, by decide +kernel⟩
abbrev s_moves : Stmt := top 46
abbrev N_moves : List Str := ["store", "n", "source", "first", "last", "told", "k", "stop", "j"]
abbrev p_moves : List Str := ["store", "n", "source", "first", "last"]
theorem sc_moves : FnScope N_moves p_moves (defScope s_moves) := ⟨rfl, rfl, rfl, by decide +kernel, rfl, by decide +kernel, by decide +kernel⟩
abbrev s_play : Stmt := top 47
abbrev N_play : List Str := ["n", "many", "moves", "held", "due", "ups", "at", "move", "index"]
abbrev p_play : List Str := ["n", "many", "moves"]
theorem sc_play : FnScope N_play p_play (defScope s_play) := ⟨rfl, rfl, rfl, by decide +kernel, rfl, by decide +kernel, by decide +kernel⟩
abbrev s_moveshape : Stmt := top 48
abbrev N_moveshape : List Str := ["move", "many", "number"]
abbrev p_moveshape : List Str := ["move", "many"]
theorem sc_moveshape : FnScope N_moveshape p_moveshape (defScope s_moveshape) := ⟨rfl, rfl, rfl, by decide +kernel, rfl, by decide +kernel, by decide +kernel⟩
abbrev s_leastups : Stmt := top 49
abbrev N_leastups : List Str := ["n", "many", "total", "part", "q"]
abbrev p_leastups : List Str := ["n", "many"]
theorem sc_leastups : FnScope N_leastups p_leastups (defScope s_leastups) := ⟨rfl, rfl, rfl, by decide +kernel, rfl, by decide +kernel, by decide +kernel⟩
abbrev s_stretchof : Stmt := top 50
abbrev N_stretchof : List Str := ["p", "ups", "downs", "start", "n", "row", "k", "folded"]
abbrev p_stretchof : List Str := ["p", "ups", "downs", "start", "n"]
theorem sc_stretchof : FnScope N_stretchof p_stretchof (defScope s_stretchof) := ⟨rfl, rfl, rfl, by decide +kernel, rfl, by decide +kernel, by decide +kernel⟩
abbrev s_isint : Stmt := top 51
abbrev N_isint : List Str := ["thing"]
abbrev p_isint : List Str := ["thing"]
theorem sc_isint : FnScope N_isint p_isint (defScope s_isint) := ⟨rfl, rfl, rfl, by decide +kernel, rfl, by decide +kernel, by decide +kernel⟩
abbrev s_same : Stmt := top 52
abbrev N_same : List Str := ["one", "two", "key", "listed", "paired", "k"]
abbrev p_same : List Str := ["one", "two"]
theorem sc_same : FnScope N_same p_same (defScope s_same) := ⟨rfl, rfl, rfl, by decide +kernel, rfl, by decide +kernel, by decide +kernel⟩
abbrev s_copyof : Stmt := top 53
abbrev N_copyof : List Str := ["thing", "item", "told", "key"]
abbrev p_copyof : List Str := ["thing"]
theorem sc_copyof : FnScope N_copyof p_copyof (defScope s_copyof) := ⟨rfl, rfl, rfl, by decide +kernel, rfl, by decide +kernel, by decide +kernel⟩
abbrev s_bent : Stmt := top 54
abbrev N_bent : List Str := ["store", "moves", "many", "cell", "odd", "way", "at"]
abbrev p_bent : List Str := ["store", "moves", "many"]
theorem sc_bent : FnScope N_bent p_bent (defScope s_bent) := ⟨rfl, rfl, rfl, by decide +kernel, rfl, by decide +kernel, by decide +kernel⟩
abbrev s_stop : Stmt := top 55
abbrev N_stop : List Str := ["known", "n", "many", "told", "least", "m"]
abbrev p_stop : List Str := ["known", "n", "many"]
theorem sc_stop : FnScope N_stop p_stop (defScope s_stop) := ⟨rfl, rfl, rfl, by decide +kernel, rfl, by decide +kernel, by decide +kernel⟩
abbrev s_movesdue : Stmt := top 56
abbrev N_movesdue : List Str := ["n", "many", "known", "told", "todo", "k", "size", "source", "first", "cell", "m"]
abbrev p_movesdue : List Str := ["n", "many"]
theorem sc_movesdue : FnScope N_movesdue p_movesdue (defScope s_movesdue) := ⟨rfl, rfl, rfl, by decide +kernel, rfl, by decide +kernel, by decide +kernel⟩
abbrev s_ran : Stmt := top 57
abbrev N_ran : List Str := ["p", "ups", "downs", "moves", "x", "n", "many", "handed", "answer", "e"]
abbrev p_ran : List Str := ["p", "ups", "downs", "moves", "x", "n", "many"]
theorem sc_ran : FnScope N_ran p_ran (defScope s_ran) := ⟨rfl, rfl, rfl, by decide +kernel, rfl, by decide +kernel, by decide +kernel⟩
abbrev s_checked : Stmt := top 58
abbrev N_checked : List Str := ["n", "many", "moves", "handed", "answer", "e"]
abbrev p_checked : List Str := ["n", "many", "moves"]
theorem sc_checked : FnScope N_checked p_checked (defScope s_checked) := ⟨rfl, rfl, rfl, by decide +kernel, rfl, by decide +kernel, by decide +kernel⟩
abbrev s_movesright : Stmt := top 59
abbrev N_movesright : List Str := ["p", "ups", "downs", "moves", "x", "n", "many", "right", "number", "due", "ran"]
abbrev p_movesright : List Str := ["p", "ups", "downs", "moves", "x", "n", "many"]
theorem sc_movesright : FnScope N_movesright p_movesright (defScope s_movesright) := ⟨rfl, rfl, rfl, by decide +kernel, rfl, by decide +kernel, by decide +kernel⟩
abbrev s_door : Stmt := top 60
abbrev N_door : List Str := ["way", "p", "ups", "downs", "many"]
abbrev p_door : List Str := ["way", "p", "ups", "downs", "many"]
theorem sc_door : FnScope N_door p_door (defScope s_door) := ⟨rfl, rfl, rfl, by decide +kernel, rfl, by decide +kernel, by decide +kernel⟩
abbrev s_spoilt : Stmt := top 61
abbrev N_spoilt : List Str := ["way", "p", "ups", "downs", "many", "e"]
abbrev p_spoilt : List Str := ["way", "p", "ups", "downs", "many"]
theorem sc_spoilt : FnScope N_spoilt p_spoilt (defScope s_spoilt) := ⟨rfl, rfl, rfl, by decide +kernel, rfl, by decide +kernel, by decide +kernel⟩
abbrev s_refused : Stmt := top 62
abbrev N_refused : List Str := ["store", "p", "ups", "downs", "bad", "wrong", "many", "way"]
abbrev p_refused : List Str := ["store", "p", "ups", "downs"]
theorem sc_refused : FnScope N_refused p_refused (defScope s_refused) := ⟨rfl, rfl, rfl, by decide +kernel, rfl, by decide +kernel, by decide +kernel⟩
abbrev s_law : Stmt := top 63
abbrev N_law : List Str := ["script", "store", "p", "n", "many", "ups", "downs", "one", "two", "x", "moves", "answer", "worth", "row", "k", "other", "lists", "told"]
abbrev p_law : List Str := ["script"]
theorem sc_law : FnScope N_law p_law (defScope s_law) := ⟨rfl, rfl, rfl, by decide +kernel, rfl, by decide +kernel, by decide +kernel⟩
/-- what the top has written: built-in names are free, each class stands where it stands -/
structure Txt (P : Program) (K : PySem.W.Frag) (mg : Str → Option Value) (C_VaultError C_NumberError C_BadPrime C_BadTable C_BadCells C_ShapeError C_PaperError C_BadMove fV fI_BadMove fI_BadCells fI_BadPrime fI_BadTable : Addr) : Prop where
  b_int : mg "int" = none
  b_bool : mg "bool" = none
  b_isinstance : mg "isinstance" = none
  b_range : mg "range" = none
  b_min : mg "min" = none
  b_max : mg "max" = none
  b_abs : mg "abs" = none
  b_len : mg "len" = none
  b_list : mg "list" = none
  b_str : mg "str" = none
  b_dict : mg "dict" = none
  b_tuple : mg "tuple" = none
  b_enumerate : mg "enumerate" = none
  b_all : mg "all" = none
  b_reversed : mg "reversed" = none
  g_VaultError : mg "VaultError" = some (.ref C_VaultError)
  g_NumberError : mg "NumberError" = some (.ref C_NumberError)
  g_BadPrime : mg "BadPrime" = some (.ref C_BadPrime)
  g_BadTable : mg "BadTable" = some (.ref C_BadTable)
  g_BadCells : mg "BadCells" = some (.ref C_BadCells)
  g_ShapeError : mg "ShapeError" = some (.ref C_ShapeError)
  g_PaperError : mg "PaperError" = some (.ref C_PaperError)
  g_BadMove : mg "BadMove" = some (.ref C_BadMove)
  g_GREATEST_PRIME : ∃ t, mg "GREATEST_PRIME" = some (.int 97 t)

  lf_BadMove : PySem.VX.Leaf P K mg C_BadMove fV fI_BadMove "BadMove" ["at"]
  ix_BadMove : PySem.W.exmOne K (.ref C_BadMove) (.ref C_VaultError) = some true
  k_BadMove_VaultError : PySem.W.kitOne K (.ref C_BadMove) (.ref C_VaultError) = some true
  k_BadMove_NumberError : PySem.W.kitOne K (.ref C_BadMove) (.ref C_NumberError) = some false
  k_BadMove_BadPrime : PySem.W.kitOne K (.ref C_BadMove) (.ref C_BadPrime) = some false
  k_BadMove_BadTable : PySem.W.kitOne K (.ref C_BadMove) (.ref C_BadTable) = some false
  k_BadMove_BadCells : PySem.W.kitOne K (.ref C_BadMove) (.ref C_BadCells) = some false
  k_BadMove_ShapeError : PySem.W.kitOne K (.ref C_BadMove) (.ref C_ShapeError) = some false
  k_BadMove_PaperError : PySem.W.kitOne K (.ref C_BadMove) (.ref C_PaperError) = some true
  k_BadMove_BadMove : PySem.W.kitOne K (.ref C_BadMove) (.ref C_BadMove) = some true
  k_BadMove_ValueError : PySem.W.kitOne K (.ref C_BadMove) (.type "ValueError") = some true
  no_BadMove_cells : PySem.W.findIn K (.ref C_BadMove) "cells" = some none
  no_BadMove_value : PySem.W.findIn K (.ref C_BadMove) "value" = some none
  no_BadMove_which : PySem.W.findIn K (.ref C_BadMove) "which" = some none
  lf_BadCells : PySem.VX.Leaf P K mg C_BadCells fV fI_BadCells "BadCells" ["cells"]
  ix_BadCells : PySem.W.exmOne K (.ref C_BadCells) (.ref C_VaultError) = some true
  k_BadCells_VaultError : PySem.W.kitOne K (.ref C_BadCells) (.ref C_VaultError) = some true
  k_BadCells_NumberError : PySem.W.kitOne K (.ref C_BadCells) (.ref C_NumberError) = some true
  k_BadCells_BadPrime : PySem.W.kitOne K (.ref C_BadCells) (.ref C_BadPrime) = some false
  k_BadCells_BadTable : PySem.W.kitOne K (.ref C_BadCells) (.ref C_BadTable) = some false
  k_BadCells_BadCells : PySem.W.kitOne K (.ref C_BadCells) (.ref C_BadCells) = some true
  k_BadCells_ShapeError : PySem.W.kitOne K (.ref C_BadCells) (.ref C_ShapeError) = some false
  k_BadCells_PaperError : PySem.W.kitOne K (.ref C_BadCells) (.ref C_PaperError) = some false
  k_BadCells_BadMove : PySem.W.kitOne K (.ref C_BadCells) (.ref C_BadMove) = some false
  k_BadCells_ValueError : PySem.W.kitOne K (.ref C_BadCells) (.type "ValueError") = some true
  no_BadCells_at : PySem.W.findIn K (.ref C_BadCells) "at" = some none
  no_BadCells_value : PySem.W.findIn K (.ref C_BadCells) "value" = some none
  no_BadCells_which : PySem.W.findIn K (.ref C_BadCells) "which" = some none
  lf_BadPrime : PySem.VX.Leaf P K mg C_BadPrime fV fI_BadPrime "BadPrime" ["value"]
  ix_BadPrime : PySem.W.exmOne K (.ref C_BadPrime) (.ref C_VaultError) = some true
  k_BadPrime_VaultError : PySem.W.kitOne K (.ref C_BadPrime) (.ref C_VaultError) = some true
  k_BadPrime_NumberError : PySem.W.kitOne K (.ref C_BadPrime) (.ref C_NumberError) = some true
  k_BadPrime_BadPrime : PySem.W.kitOne K (.ref C_BadPrime) (.ref C_BadPrime) = some true
  k_BadPrime_BadTable : PySem.W.kitOne K (.ref C_BadPrime) (.ref C_BadTable) = some false
  k_BadPrime_BadCells : PySem.W.kitOne K (.ref C_BadPrime) (.ref C_BadCells) = some false
  k_BadPrime_ShapeError : PySem.W.kitOne K (.ref C_BadPrime) (.ref C_ShapeError) = some false
  k_BadPrime_PaperError : PySem.W.kitOne K (.ref C_BadPrime) (.ref C_PaperError) = some false
  k_BadPrime_BadMove : PySem.W.kitOne K (.ref C_BadPrime) (.ref C_BadMove) = some false
  k_BadPrime_ValueError : PySem.W.kitOne K (.ref C_BadPrime) (.type "ValueError") = some true
  no_BadPrime_at : PySem.W.findIn K (.ref C_BadPrime) "at" = some none
  no_BadPrime_cells : PySem.W.findIn K (.ref C_BadPrime) "cells" = some none
  no_BadPrime_which : PySem.W.findIn K (.ref C_BadPrime) "which" = some none
  lf_BadTable : PySem.VX.Leaf P K mg C_BadTable fV fI_BadTable "BadTable" ["which"]
  ix_BadTable : PySem.W.exmOne K (.ref C_BadTable) (.ref C_VaultError) = some true
  k_BadTable_VaultError : PySem.W.kitOne K (.ref C_BadTable) (.ref C_VaultError) = some true
  k_BadTable_NumberError : PySem.W.kitOne K (.ref C_BadTable) (.ref C_NumberError) = some true
  k_BadTable_BadPrime : PySem.W.kitOne K (.ref C_BadTable) (.ref C_BadPrime) = some false
  k_BadTable_BadTable : PySem.W.kitOne K (.ref C_BadTable) (.ref C_BadTable) = some true
  k_BadTable_BadCells : PySem.W.kitOne K (.ref C_BadTable) (.ref C_BadCells) = some false
  k_BadTable_ShapeError : PySem.W.kitOne K (.ref C_BadTable) (.ref C_ShapeError) = some false
  k_BadTable_PaperError : PySem.W.kitOne K (.ref C_BadTable) (.ref C_PaperError) = some false
  k_BadTable_BadMove : PySem.W.kitOne K (.ref C_BadTable) (.ref C_BadMove) = some false
  k_BadTable_ValueError : PySem.W.kitOne K (.ref C_BadTable) (.type "ValueError") = some true
  no_BadTable_at : PySem.W.findIn K (.ref C_BadTable) "at" = some none
  no_BadTable_cells : PySem.W.findIn K (.ref C_BadTable) "cells" = some none
  no_BadTable_value : PySem.W.findIn K (.ref C_BadTable) "value" = some none
end K47

set_option Elab.async false
set_option linter.all false
namespace K47
open PySem PySem.Spec PyProof.Rows L2
/-- what the list at st begins with stays -/
def Hd (st : Addr) (H H' : Hp) : Prop := ∀ x xs, H st = some (.lst (x :: xs)) → ∃ ys, H' st = some (.lst (x :: ys))
/-- all but the store stays, and the store's cells stay where they are -/
def ButS (st : Addr) (H H' : Hp) : Prop := But st H H' ∧ Hd st H H'
theorem ButS.refl {st : Addr} {H : Hp} : ButS st H H := ⟨.refl, fun _ xs h => ⟨xs, h⟩⟩
theorem ButS.trans {st : Addr} {H H1 H2 : Hp} (a : ButS st H H1) (b : ButS st H1 H2) : ButS st H H2 := ⟨a.1.trans b.1, fun x xs h => by
  obtain ⟨ys, h1⟩ := a.2 x xs h
  exact b.2 x ys h1⟩
theorem ButS.of {st : Addr} {H H' : Hp} (h : Same H H') : ButS st H H' := ⟨.of h, fun _ xs e => ⟨xs, h _ _ e⟩⟩
theorem ButS.new {st p : Addr} {H : Hp} {o : HO} (h : H p = none) : ButS st H (upd H p o) := .of (same_new h)
theorem ButS.set {st : Addr} {H : Hp} {x : V} {xs ys : List V} (h : H st = some (.lst (x :: xs))) : ButS st H (upd H st (.lst (x :: ys))) := ⟨.set, fun x' xs' e => by
  rw [h] at e
  cases e
  exact ⟨ys, upd_same⟩⟩
theorem ButS.free {st : Addr} {H H' : Hp} (a : ButS st H H') (S : Store H' st) {l : Addr} (h : H' l = Option.none) : H l = Option.none := a.1.free S h
/-- a list that came after the store's cells may be changed -/
theorem ButS.mutAway {st p : Addr} {H0 H2 : Hp} {o : HO} (S0 : Store H0 st) (b : ButS st H0 H2) (hp : H0 p = none) (S2 : Store H2 st) : Store (upd H2 p o) st ∧ ButS st H0 (upd H2 p o) := by
  obtain ⟨cl, ns, i1, i2, i3, i4, i5, i6, h1, h2, h3, h4, h5⟩ := S2.ex
  obtain ⟨cl0, ns0, j1, j2, j3, j4, j5, j6, g1, g2, _⟩ := S0.ex
  obtain ⟨ys, e⟩ := b.2 _ _ g1
  rw [h1] at e
  have ec : cl = cl0 := by
    injection e with e
    injection e with e
    injection e with e _
    injection e
  have n1 : st ≠ p := fun z => by rw [← z, g1] at hp; cases hp
  have n2 : cl ≠ p := fun z => by rw [ec] at z; rw [← z, g2] at hp; cases hp
  refine ⟨⟨cl, ns, i1, i2, i3, i4, i5, i6, by rw [upd_ne n1]; exact h1, by rw [upd_ne n2]; exact h2, h3, h4, h5⟩, fun c u nc e => ?_, fun x xs e => ?_⟩
  · rw [upd_ne (ne_of_none e hp)]
    exact b.1 c u nc e
  · rw [upd_ne n1]
    exact b.2 x xs e
end K47

/-! binomial numbers, rounds and least steps: plain mathematics -/
namespace M11
def bin : Nat → Nat → Nat
  | _, 0 => 1
  | 0, _ + 1 => 0
  | n + 1, k + 1 => bin n k + bin n (k + 1)
theorem bin_0 (n : Nat) : bin n 0 = 1 := by cases n <;> rfl
theorem bin_ss (n k : Nat) : bin (n + 1) (k + 1) = bin n k + bin n (k + 1) := rfl
theorem bin_lt : ∀ {n k : Nat}, n < k → bin n k = 0
  | 0, 0, h => absurd h (Nat.lt_irrefl _)
  | 0, k + 1, _ => rfl
  | n + 1, 0, h => absurd h (Nat.not_lt_zero _)
  | n + 1, k + 1, h => by rw [bin_ss, bin_lt (by omega), bin_lt (by omega)]
theorem bin_self : ∀ n : Nat, bin n n = 1
  | 0 => rfl
  | n + 1 => by rw [bin_ss, bin_self n, bin_lt (Nat.lt_succ_self n)]
theorem bin_mul : ∀ n k : Nat, bin n (k + 1) * (k + 1) = bin n k * (n - k)
  | 0, 0 => rfl
  | 0, k + 1 => by rw [bin_lt (by omega), bin_lt (by omega)]; simp
  | n + 1, 0 => by
    have h := bin_mul n 0
    rw [bin_0] at h
    rw [bin_ss, bin_0, bin_0]
    omega
  | n + 1, k + 1 => by
    have h1 := bin_mul n k
    have h2 := bin_mul n (k + 1)
    rw [bin_ss, bin_ss]
    by_cases hk : k + 1 ≤ n
    · have e1 : n + 1 - (k + 1) = (n - (k + 1)) + 1 := by omega
      have e2 : n - k = (n - (k + 1)) + 1 := by omega
      rw [e2] at h1
      rw [e1]
      generalize n - (k + 1) = d at h1 h2 ⊢
      generalize bin n (k + 1) = x at h1 h2 ⊢
      generalize bin n (k + 1 + 1) = y at h1 h2 ⊢
      generalize bin n k = z at h1 h2 ⊢
      have a1 : (x + y) * (k + 1 + 1) = x * (k + 1) + x + y * (k + 1 + 1) := by
        rw [Nat.add_mul, Nat.mul_succ x]
      have a2 : (z + x) * (d + 1) = z * (d + 1) + (x * d + x) := by
        rw [Nat.add_mul, Nat.mul_succ x]
      rw [a1, a2]
      omega
    · have e1 : n + 1 - (k + 1) = 0 := by omega
      rw [e1, Nat.mul_zero, bin_lt (show n < k + 1 by omega), bin_lt (show n < k + 1 + 1 by omega)]
      simp
theorem bin_symm : ∀ a b : Nat, bin (a + b) a = bin (a + b) b
  | 0, b => by rw [bin_0, Nat.zero_add, bin_self]
  | a + 1, 0 => by rw [Nat.add_zero, bin_0, bin_self]
  | a + 1, b + 1 => by
    have h1 := bin_symm a (b + 1)
    have h2 := bin_symm (a + 1) b
    have e : a + 1 + (b + 1) = (a + (b + 1)) + 1 := by omega
    have e2 : a + 1 + b = a + (b + 1) := by omega
    rw [e2] at h2
    rw [e, bin_ss, bin_ss, h1, h2]
    omega
theorem bin_min {n k : Nat} (h : k ≤ n) : bin n (min k (n - k)) = bin n k := by
  by_cases c : k ≤ n - k
  · rw [Nat.min_eq_left c]
  · rw [Nat.min_eq_right (by omega)]
    have e := bin_symm (n - k) k
    rw [Nat.sub_add_cancel h] at e
    exact e
theorem bin_step (n t : Nat) : bin n t * (n - t) / (t + 1) = bin n (t + 1) := by
  rw [← bin_mul]
  exact Nat.mul_div_cancel _ (Nat.succ_pos t)
/-- B c q: the worlds of q rounds -/
def B (c q : Nat) : Nat := bin (c + q) c
theorem B_0 (c : Nat) : B c 0 = 1 := bin_self c
theorem B_pascal (c q : Nat) : B (c + 1) (q + 1) = B c (q + 1) + B (c + 1) q := by
  unfold B
  have e1 : c + 1 + (q + 1) = (c + (q + 1)) + 1 := by omega
  have e2 : c + 1 + q = c + (q + 1) := by omega
  rw [e1, bin_ss, e2]
theorem B_pos (c : Nat) : ∀ q, 1 ≤ B c q := by
  intro q
  induction c generalizing q with
  | zero => unfold B; rw [bin_0]; exact Nat.le_refl 1
  | succ c ih =>
    induction q with
    | zero => rw [B_0]; exact Nat.le_refl 1
    | succ q iq => rw [B_pascal]; omega
theorem B_lt (c q : Nat) : B (c + 1) q < B (c + 1) (q + 1) := by
  rw [B_pascal]
  have := B_pos c (q + 1)
  omega
theorem B_mono_q (c : Nat) {q r : Nat} (h : q ≤ r) : B c q ≤ B c r := by
  cases c with
  | zero =>
    unfold B
    rw [bin_0, bin_0]
    exact Nat.le_refl 1
  | succ c =>
    induction r with
    | zero =>
      have : q = 0 := by omega
      rw [this]
      exact Nat.le_refl _
    | succ r ih =>
      by_cases e : q = r + 1
      · rw [e]
        exact Nat.le_refl _
      · exact Nat.le_trans (ih (by omega)) (Nat.le_of_lt (B_lt c r))
theorem B_mono_c (c q : Nat) : B c q ≤ B (c + 1) q := by
  cases q with
  | zero => rw [B_0, B_0]; exact Nat.le_refl 1
  | succ q => rw [B_pascal]; omega
theorem B_ge (c : Nat) : ∀ q, q + 1 ≤ B (c + 1) q := by
  intro q
  induction q with
  | zero => rw [B_0]; exact Nat.le_refl 1
  | succ q ih =>
    have := B_lt c q
    omega
theorem B_step (c q : Nat) : B c q * (c + q + 1) / (q + 1) = B c (q + 1) := by
  have e1 : B c q = bin (c + q) q := by unfold B; exact bin_symm c q
  have e2 : B c (q + 1) = bin (c + (q + 1)) (q + 1) := by unfold B; exact bin_symm c (q + 1)
  have key : ∀ n k : Nat, bin (n + 1) (k + 1) * (k + 1) = bin n k * (n + 1) := by
    intro n k
    rw [bin_ss, Nat.add_mul, bin_mul]
    by_cases h : k ≤ n
    · rw [← Nat.mul_add]
      congr 1
      omega
    · rw [bin_lt (show n < k by omega)]
      simp
  rw [e1, e2, show c + (q + 1) = (c + q) + 1 from rfl, ← key]
  exact Nat.mul_div_cancel _ (Nat.succ_pos q)
/-- the rounds -/
def IsR (n c r : Nat) : Prop := (∀ q, q < r → B c q ≤ n) ∧ n < B c r
theorem IsR.uniq {n c r s : Nat} (a : IsR n c r) (b : IsR n c s) : r = s := by
  rcases Nat.lt_trichotomy r s with h | h | h
  · exact absurd (b.1 r h) (Nat.not_le.mpr a.2)
  · exact h
  · exact absurd (a.1 s h) (Nat.not_le.mpr b.2)
theorem IsR.ex (n c : Nat) : ∃ r, IsR n (c + 1) r := by
  have key : ∀ N, (∀ q, q < N → B (c + 1) q ≤ n) ∨ ∃ r, IsR n (c + 1) r := by
    intro N
    induction N with
    | zero => exact .inl fun q h => absurd h (Nat.not_lt_zero _)
    | succ N ih =>
      rcases ih with h | h
      · by_cases e : B (c + 1) N ≤ n
        · exact .inl fun q hq => (Nat.lt_succ_iff_lt_or_eq.mp hq).elim (h q) fun z => z ▸ e
        · exact .inr ⟨N, h, by omega⟩
      · exact .inr h
  rcases key (n + 1) with h | h
  · have h1 := h n (Nat.lt_succ_self n)
    have h2 := B_ge c n
    omega
  · exact h
/-- r*(n + 1) less the sum of the first r of B c -/
def S (n c r : Nat) : Int := (r : Int) * ((n : Int) + 1) - (bin (c + r) (c + 1) : Nat)
theorem S_0 (n c : Nat) : S n c 0 = 0 := by
  unfold S
  rw [Nat.add_zero, bin_lt (Nat.lt_succ_self c)]
  simp
theorem S_succ (n c r : Nat) : S n c (r + 1) = S n c r + ((n : Int) + 1 - (B c r : Nat)) := by
  unfold S B
  rw [show c + (r + 1) = (c + r) + 1 from rfl, bin_ss]
  have e : ((r + 1 : Nat) : Int) * ((n : Int) + 1) = (r : Int) * ((n : Int) + 1) + ((n : Int) + 1) := by
    rw [Int.natCast_add, Int.add_mul]
    simp
  rw [e, Int.natCast_add]
  omega
/-- S grows while B c q <= n + 1, then falls -/
theorem S_up {n c r s : Nat} (h : r ≤ s) (hb : ∀ q, r ≤ q → q < s → B c q ≤ n + 1) : S n c r ≤ S n c s := by
  induction s with
  | zero =>
    have : r = 0 := by omega
    rw [this]
    exact Int.le_refl _
  | succ s ih =>
    by_cases e : r = s + 1
    · rw [e]
      exact Int.le_refl _
    · have h1 := ih (by omega) fun q a b => hb q a (by omega)
      have h2 := hb s (by omega) (Nat.lt_succ_self s)
      rw [S_succ]
      omega
theorem S_down {n c r s : Nat} (h : r ≤ s) (hb : ∀ q, r ≤ q → q < s → n + 1 ≤ B c q) : S n c s ≤ S n c r := by
  induction s with
  | zero =>
    have : r = 0 := by omega
    rw [this]
    exact Int.le_refl _
  | succ s ih =>
    by_cases e : r = s + 1
    · rw [e]
      exact Int.le_refl _
    · have h1 := ih (by omega) fun q a b => hb q a (by omega)
      have h2 := hb s (by omega) (Nat.lt_succ_self s)
      rw [S_succ]
      omega
/-- r is a top of S if its neighbours say so -/
theorem S_top {n c r : Nat} (h1 : ∀ q, q < r → B c q ≤ n + 1) (h2 : n + 1 ≤ B c r) (s : Nat) : S n c s ≤ S n c r := by
  by_cases h : s ≤ r
  · exact S_up h fun q _ b => h1 q b
  · exact S_down (by omega) fun q a _ => Nat.le_trans h2 (B_mono_q c a)
theorem IsR.top {n c r : Nat} (h : IsR n c r) (s : Nat) : S n c s ≤ S n c r := S_top (fun q hq => by have := h.1 q hq; omega) h.2 s
theorem S_eq {n c r s : Nat} (h : IsR n c r) (h1 : ∀ q, q < s → B c q ≤ n + 1) (h2 : n + 1 ≤ B c s) : S n c s = S n c r := Int.le_antisymm (h.top s) (S_top h1 h2 r)
/-- the least steps -/
def IsT (n c : Nat) (t : Int) : Prop := ∃ r, IsR n c r ∧ t = S n c r
theorem IsT.uniq {n c : Nat} {s t : Int} (a : IsT n c s) (b : IsT n c t) : s = t := by
  obtain ⟨r, h1, rfl⟩ := a
  obtain ⟨q, h2, rfl⟩ := b
  rw [h1.uniq h2]
theorem IsT.ex (n c : Nat) : ∃ t, IsT n (c + 1) t := by
  obtain ⟨r, h⟩ := IsR.ex n c
  exact ⟨_, r, h, rfl⟩
open Classical in
noncomputable def T (n c : Nat) : Int := if h : ∃ t, IsT n c t then Classical.choose h else 0
theorem T_is (n c : Nat) : IsT n (c + 1) (T n (c + 1)) := by
  unfold T
  rw [dif_pos (IsT.ex n c)]
  exact Classical.choose_spec (IsT.ex n c)
theorem IsT.eq {n c : Nat} {t : Int} (h : IsT n (c + 1) t) : t = T n (c + 1) := h.uniq (T_is n c)
theorem T_0 (c : Nat) : T 0 (c + 1) = 0 := by
  have h : IsT 0 (c + 1) 0 := ⟨0, ⟨fun q h => absurd h (Nat.not_lt_zero _), by rw [B_0]; exact Nat.zero_lt_one⟩, (S_0 _ _).symm⟩
  exact h.eq.symm
theorem T_1 (n : Nat) : T (n + 1) 1 = (n + 1 : Int) + T n 1 := by
  have hb : ∀ q, B 1 q = q + 1 := by
    intro q
    induction q with
    | zero => exact B_0 1
    | succ q ih =>
      rw [B_pascal, ih]
      unfold B
      rw [bin_0]
      omega
  have isr : ∀ m, IsR m 1 m := fun m => ⟨fun q h => by rw [hb]; omega, by rw [hb]; omega⟩
  have e1 : T (n + 1) 1 = S (n + 1) 1 (n + 1) := (IsT.eq (c := 0) ⟨_, isr (n + 1), rfl⟩).symm
  have e2 : T n 1 = S n 1 n := (IsT.eq (c := 0) ⟨_, isr n, rfl⟩).symm
  rw [e1, e2, S_succ, hb]
  unfold S
  have e : ((n : Nat) : Int) * ((n + 1 : Nat) + 1 : Int) = (n : Int) * ((n : Int) + 1) + n := by
    rw [Int.natCast_add, Int.mul_add, Int.mul_add, Int.mul_add]
    omega
  have e3 : ((n + 1 : Nat) : Int) = (n : Int) + 1 := by omega
  rw [e]
  omega
theorem B_R1 {n c r : Nat} (h : IsR n (c + 1) r) (hn : 1 ≤ n) : 1 ≤ r := by
  rcases Nat.eq_zero_or_pos r with e | e
  · have := h.2
    rw [e, B_0] at this
    omega
  · exact e
theorem IsR.le {n c r : Nat} (h : IsR n (c + 1) r) : r ≤ n := by
  rcases Nat.lt_or_ge n r with a | a
  · have h1 := h.1 n a
    have h2 := B_ge c n
    omega
  · exact a
/-- no stop has a lesser sum -/
theorem T_le {n c m : Nat} (h1 : 1 ≤ m) (h2 : m ≤ n) : T n (c + 2) ≤ (m : Int) + T (n - m) (c + 1) + T (m - 1) (c + 2) := by
  obtain ⟨r, hr, e⟩ := T_is n (c + 1)
  obtain ⟨r1, hr1, e1⟩ := T_is (n - m) c
  obtain ⟨r2, hr2, e2⟩ := T_is (m - 1) (c + 1)
  have hp := B_R1 hr (by omega)
  obtain ⟨k, rfl⟩ : ∃ k, r = k + 1 := ⟨r - 1, by omega⟩
  have a1 := hr1.top (k + 1)
  have a2 := hr2.top k
  rw [← e1] at a1
  rw [← e2] at a2
  have a2' : S (m - 1) (c + 2) k ≤ T (m - 1) (c + 2) := a2
  clear a2
  have key : S n (c + 2) (k + 1) = (m : Int) + S (n - m) (c + 1) (k + 1) + S (m - 1) (c + 2) k := by
    unfold S
    have ep : bin (c + 2 + (k + 1)) (c + 2 + 1) = bin (c + 1 + (k + 1)) (c + 1 + 1) + bin (c + 2 + k) (c + 2 + 1) := by
      rw [show c + 2 + (k + 1) = (c + 2 + k) + 1 from rfl, bin_ss, show c + 1 + (k + 1) = c + 2 + k by omega]
    rw [ep]
    have en : ((n - m : Nat) : Int) = (n : Int) - m := by omega
    have em : ((m - 1 : Nat) : Int) + 1 = (m : Int) := by omega
    rw [en, em]
    have d1 : ((k + 1 : Nat) : Int) * ((n : Int) - m + 1) = ((k + 1 : Nat) : Int) * ((n : Int) + 1) - ((k + 1 : Nat) : Int) * m := by
      rw [← Int.mul_sub]
      congr 1
      omega
    have d2 : ((k + 1 : Nat) : Int) * (m : Int) = (k : Int) * m + m := by
      rw [Int.natCast_add, Int.add_mul]
      simp
    rw [d1, d2]
    omega
  rw [e, key]
  omega
/-- some stop has the least sum -/
theorem T_at {n c : Nat} (hn : 1 ≤ n) : ∃ m, 1 ≤ m ∧ m ≤ n ∧ T n (c + 2) = (m : Int) + T (n - m) (c + 1) + T (m - 1) (c + 2) := by
  obtain ⟨r, hr, e⟩ := T_is n (c + 1)
  have hp := B_R1 hr hn
  obtain ⟨k, rfl⟩ : ∃ k, r = k + 1 := ⟨r - 1, by omega⟩
  have u1 := hr.1 k (Nat.lt_succ_self k)
  have u2 := hr.2
  have p1 := B_pascal (c + 1) k
  have p2 := B_mono_c (c + 1) k
  have p3 := B_pos (c + 1) (k + 1)
  have p4 := B_mono_q (c + 1) (Nat.le_succ k)
  have p5 := B_pos (c + 2) k
  have u1' : B (c + 2) k ≤ n := u1
  have u2' : n < B (c + 2) (k + 1) := u2
  -- the last of B (c + 2) ahead of k
  obtain ⟨z, hz, z1, z2⟩ : ∃ z, (∀ q, q < k → B (c + 2) q ≤ z) ∧ z ≤ B (c + 2) k ∧ z + B (c + 1) k ≤ n + 1 := by
    cases k with
    | zero => exact ⟨0, fun q h => absurd h (Nat.not_lt_zero _), Nat.zero_le _, by rw [B_0]; omega⟩
    | succ k =>
      refine ⟨B (c + 2) k, fun q h => B_mono_q _ (by omega), Nat.le_of_lt (B_lt (c + 1) k), ?_⟩
      have p6 := B_pascal (c + 1) k
      have u1'' : B (c + 1 + 1) (k + 1) ≤ n := u1'
      rw [p6] at u1''
      have e9 : B (c + 2) k = B (c + 1 + 1) k := rfl
      omega
  have p1' : B (c + 2) (k + 1) = B (c + 1) (k + 1) + B (c + 2) k := p1
  have p2' : B (c + 1) k ≤ B (c + 2) k := p2
  obtain ⟨m, m1, m2, m3, m4, m5, m6⟩ : ∃ m, 1 ≤ m ∧ m ≤ n ∧ z ≤ m ∧ m ≤ B (c + 2) k ∧ n + 1 ≤ m + B (c + 1) (k + 1) ∧ m + B (c + 1) k ≤ n + 1 := by
    have p4' : B (c + 1) k ≤ B (c + 1) (k + 1) := p4
    have p5' : 1 ≤ B (c + 2) k := p5
    clear p1 p2 p4 p5 u1 u2
    generalize B (c + 1) (k + 1) = x1 at *
    generalize B (c + 2) (k + 1) = x2 at *
    generalize B (c + 1) k = x3 at *
    generalize B (c + 2) k = x4 at *
    by_cases q1 : 1 ≤ z
    · by_cases q2 : n + 1 - x1 ≤ z
      · exact ⟨z, by omega, by omega, by omega, by omega, by omega, by omega⟩
      · exact ⟨n + 1 - x1, by omega, by omega, by omega, by omega, by omega, by omega⟩
    · by_cases q2 : n + 1 - x1 ≤ 1
      · exact ⟨1, by omega, by omega, by omega, by omega, by omega, by omega⟩
      · exact ⟨n + 1 - x1, by omega, by omega, by omega, by omega, by omega, by omega⟩
  refine ⟨m, m1, m2, Int.le_antisymm (T_le m1 m2) ?_⟩
  obtain ⟨r1, hr1, e1⟩ := T_is (n - m) c
  obtain ⟨r2, hr2, e2⟩ := T_is (m - 1) (c + 1)
  have a1 : S (n - m) (c + 1) (k + 1) = S (n - m) (c + 1) r1 := by
    refine S_eq hr1 (fun q hq => ?_) ?_
    · have := B_mono_q (c + 1) (show q ≤ k by omega)
      omega
    · omega
  have a2 : S (m - 1) (c + 2) k = S (m - 1) (c + 2) r2 := by
    refine S_eq hr2 (fun q hq => ?_) ?_
    · have := hz q hq
      omega
    · omega
  have key : S n (c + 2) (k + 1) = (m : Int) + S (n - m) (c + 1) (k + 1) + S (m - 1) (c + 2) k := by
    unfold S
    have ep : bin (c + 2 + (k + 1)) (c + 2 + 1) = bin (c + 1 + (k + 1)) (c + 1 + 1) + bin (c + 2 + k) (c + 2 + 1) := by
      rw [show c + 2 + (k + 1) = (c + 2 + k) + 1 from rfl, bin_ss, show c + 1 + (k + 1) = c + 2 + k by omega]
    rw [ep]
    have en : ((n - m : Nat) : Int) = (n : Int) - m := by omega
    have em : ((m - 1 : Nat) : Int) + 1 = (m : Int) := by omega
    rw [en, em]
    have d1 : ((k + 1 : Nat) : Int) * ((n : Int) - m + 1) = ((k + 1 : Nat) : Int) * ((n : Int) + 1) - ((k + 1 : Nat) : Int) * m := by
      rw [← Int.mul_sub]
      congr 1
      omega
    have d2 : ((k + 1 : Nat) : Int) * (m : Int) = (k : Int) * m + m := by
      rw [Int.natCast_add, Int.add_mul]
      simp
    rw [d1, d2]
    omega
  rw [e, key, a1, a2, e1, e2]
  exact Int.le_refl _

/-- the sum that a stop gives, if it is one -/
noncomputable def sm (n c m : Nat) : Option Int := if c = 0 then (if m < n then none else some ((m : Int) + T (m - 1) 1)) else some ((m : Int) + T (n - m) c + T (m - 1) (c + 1))
structure IsStop (n c m : Nat) : Prop where
  lo : 1 ≤ m
  hi : m ≤ n
  at_ : sm n c m = some (T n (c + 1))
  first : ∀ j, 1 ≤ j → j < m → sm n c j ≠ some (T n (c + 1))
theorem sm_le {n c m : Nat} {l : Int} (h1 : 1 ≤ m) (h2 : m ≤ n) (e : sm n c m = some l) : T n (c + 1) ≤ l := by
  unfold sm at e
  by_cases hc : c = 0
  · rw [if_pos hc] at e
    by_cases hm : m < n
    · rw [if_pos hm] at e
      cases e
    · rw [if_neg hm] at e
      injection e with e
      obtain ⟨k, rfl⟩ : ∃ k, n = k + 1 := ⟨n - 1, by omega⟩
      have : m = k + 1 := by omega
      subst this
      subst hc
      have t1 := T_1 k
      rw [Nat.add_sub_cancel] at e
      have e2 : ((k + 1 : Nat) : Int) = (k : Int) + 1 := rfl
      rw [← e, e2]
      show T (k + 1) 1 ≤ _
      rw [t1]
      exact Int.le_refl _
  · rw [if_neg hc] at e
    injection e with e
    obtain ⟨d, rfl⟩ : ∃ d, c = d + 1 := ⟨c - 1, by omega⟩
    rw [← e]
    exact T_le h1 h2
theorem sm_ex {n c : Nat} (hn : 1 ≤ n) : ∃ m, 1 ≤ m ∧ m ≤ n ∧ sm n c m = some (T n (c + 1)) := by
  by_cases hc : c = 0
  · refine ⟨n, hn, Nat.le_refl n, ?_⟩
    unfold sm
    rw [if_pos hc, if_neg (Nat.lt_irrefl n)]
    obtain ⟨k, rfl⟩ : ∃ k, n = k + 1 := ⟨n - 1, by omega⟩
    subst hc
    have t1 := T_1 k
    rw [Nat.add_sub_cancel]
    show _ = some (T (k + 1) 1)
    rw [t1]
    rfl
  · obtain ⟨d, rfl⟩ : ∃ d, c = d + 1 := ⟨c - 1, by omega⟩
    obtain ⟨m, h1, h2, e⟩ := T_at (n := n) (c := d) hn
    refine ⟨m, h1, h2, ?_⟩
    unfold sm
    rw [if_neg hc]
    exact congrArg some e.symm
theorem stop_1 {n : Nat} (hn : 1 ≤ n) : IsStop n 0 n := by
  obtain ⟨m, h1, h2, e⟩ := sm_ex (c := 0) hn
  have hm : m = n := by
    unfold sm at e
    rw [if_pos rfl] at e
    by_cases q : m < n
    · rw [if_pos q] at e
      cases e
    · omega
  subst hm
  refine ⟨h1, h2, e, fun j h1 h2 z => ?_⟩
  unfold sm at z
  rw [if_pos rfl, if_pos h2] at z
  cases z
/-- while none of the first i is the stop, i < n -/
theorem stop_more {n c i : Nat} (hn : 1 ≤ n) (h : ∀ j, 1 ≤ j → j ≤ i → sm n c j ≠ some (T n (c + 1))) : i < n := by
  obtain ⟨m, h1, h2, e⟩ := sm_ex (c := c) hn
  rcases Nat.lt_or_ge i m with a | a
  · omega
  · exact absurd e (h m h1 a)
/-- the least so far -/
inductive Best (n c i : Nat) : Option (Nat × Int) → Prop
  | no (h : ∀ j, 1 ≤ j → j ≤ i → sm n c j = none) : Best n c i none
  | yes (m : Nat) (l : Int) (h1 : 1 ≤ m) (h2 : m ≤ i) (e : sm n c m = some l) (le : ∀ j k, 1 ≤ j → j ≤ i → sm n c j = some k → l ≤ k) (lt : ∀ j k, 1 ≤ j → j < m → sm n c j = some k → l < k) : Best n c i (some (m, l))
theorem Best.zero (n c : Nat) : Best n c 0 none := .no fun j a b => absurd (Nat.le_trans a b) (Nat.not_succ_le_zero 0)
theorem Best.skip {n c i : Nat} {o : Option (Nat × Int)} (b : Best n c i o) (e : sm n c (i + 1) = none) : Best n c (i + 1) o := by
  cases b with
  | no h => exact .no fun j a b => (Nat.lt_or_ge i j).elim (fun z => by rw [show j = i + 1 by omega]; exact e) (h j a)
  | yes m l h1 h2 e0 le lt => exact .yes m l h1 (by omega) e0 (fun j k a b q => (Nat.lt_or_ge i j).elim (fun z => by rw [show j = i + 1 by omega, e] at q; cases q) fun z => le j k a z q) lt
theorem Best.keep {n c i m : Nat} {l k0 : Int} (b : Best n c i (some (m, l))) (e : sm n c (i + 1) = some k0) (h : l ≤ k0) : Best n c (i + 1) (some (m, l)) := by
  cases b with
  | yes _ _ h1 h2 e0 le lt => exact .yes m l h1 (by omega) e0 (fun j k a b q => (Nat.lt_or_ge i j).elim (fun z => by rw [show j = i + 1 by omega, e] at q; injection q with q; omega) fun z => le j k a z q) lt
theorem Best.first {n c i : Nat} {k0 : Int} (b : Best n c i none) (e : sm n c (i + 1) = some k0) : Best n c (i + 1) (some (i + 1, k0)) := by
  cases b with
  | no h => exact .yes (i + 1) k0 (by omega) (Nat.le_refl _) e (fun j k a b q => (Nat.lt_or_ge i j).elim (fun z => by rw [show j = i + 1 by omega, e] at q; injection q with q; omega) fun z => by rw [h j a z] at q; cases q) (fun j k a b q => by rw [h j a (by omega)] at q; cases q)
theorem Best.less {n c i m : Nat} {l k0 : Int} (b : Best n c i (some (m, l))) (e : sm n c (i + 1) = some k0) (h : k0 < l) : Best n c (i + 1) (some (i + 1, k0)) := by
  cases b with
  | yes _ _ h1 h2 e0 le lt => exact .yes (i + 1) k0 (by omega) (Nat.le_refl _) e (fun j k a b q => (Nat.lt_or_ge i j).elim (fun z => by rw [show j = i + 1 by omega, e] at q; injection q with q; omega) fun z => by have := le j k a z q; omega) (fun j k a b q => by have := le j k a (by omega) q; omega)
theorem Best.end_ {n c : Nat} {o : Option (Nat × Int)} (hn : 1 ≤ n) (b : Best n c n o) : ∃ m, o = some (m, T n (c + 1)) ∧ IsStop n c m := by
  obtain ⟨m0, a1, a2, a3⟩ := sm_ex (c := c) hn
  cases b with
  | no h => rw [h m0 a1 a2] at a3; cases a3
  | yes m l h1 h2 e0 le lt =>
    have q1 := sm_le h1 h2 e0
    have q2 := le m0 _ a1 a2 a3
    have q3 : l = T n (c + 1) := by omega
    subst q3
    exact ⟨m, rfl, h1, h2, e0, fun j b1 b2 z => by have := lt j _ b1 b2 z; omega⟩
theorem IsStop.uniq {n c a b : Nat} (x : IsStop n c a) (y : IsStop n c b) : a = b := by
  rcases Nat.lt_trichotomy a b with h | h | h
  · exact absurd x.at_ (y.first a x.lo h)
  · exact h
  · exact absurd y.at_ (x.first b y.lo h)
theorem T_tri (n : Nat) : 2 * T n 1 = (n : Int) * ((n : Int) + 1) := by
  induction n with
  | zero =>
    rw [show T 0 1 = 0 from T_0 0]
    rfl
  | succ n ih =>
    rw [T_1, Int.mul_add, ih]
    have e : ((n + 1 : Nat) : Int) = (n : Int) + 1 := rfl
    rw [e, Int.add_mul, Int.mul_add (n : Int) ((n : Int) + 1) 1, Int.mul_one]
    omega
theorem T11 : T 1 1 = 1 := by
  have := T_tri 1
  have e : ((1 : Nat) : Int) * (((1 : Nat) : Int) + 1) = 2 := rfl
  omega
theorem T120 : T 120 1 = 7260 := by
  have := T_tri 120
  have e : ((120 : Nat) : Int) * (((120 : Nat) : Int) + 1) = 14520 := rfl
  omega
theorem R0 (c : Nat) : IsR 0 (c + 1) 0 := ⟨fun q h => absurd h (Nat.not_lt_zero _), by rw [B_0]; exact Nat.zero_lt_one⟩
theorem R1 : IsR 1 120 1 := ⟨fun q h => by rw [show q = 0 by omega, B_0]; exact Nat.le_refl 1, B_ge 119 1⟩
end M11

/-! primes to 97, powers, binomial numbers at any integer: plain mathematics -/
namespace M02
def primesN : List Nat := [2, 3, 5, 7, 11, 13, 17, 19, 23, 29, 31, 37, 41, 43, 47, 53, 59, 61, 67, 71, 73, 79, 83, 89, 97]
def primes : List Int := primesN.map fun n : Nat => (n : Int)
def Free (n : Int) (k : Nat) : Prop := ∀ d : Nat, 2 ≤ d → d < k → n % (d : Int) ≠ 0
def IsP (n : Int) : Prop := 2 ≤ n ∧ ∀ d : Nat, 2 ≤ d → (d : Int) * d ≤ n → n % (d : Int) ≠ 0
theorem Free.two (n : Int) : Free n 2 := fun d h1 h2 => absurd h1 (Nat.not_le.mpr h2)
theorem Free.succ {n : Int} {k : Nat} (f : Free n k) (h : n % (k : Int) ≠ 0) : Free n (k + 1) := fun d h1 h2 => (Nat.lt_succ_iff_lt_or_eq.mp h2).elim (f d h1) fun e => by rw [e]; exact h
theorem sq_lt {d k : Nat} (h : d * d < k * k) : d < k := (Nat.lt_or_ge d k).elim id fun z => absurd (Nat.mul_le_mul z z) (Nat.not_le.mpr h)
theorem Free.isP {n : Int} {k : Nat} (f : Free n k) (h2 : 2 ≤ n) (h : n < (k : Int) * k) : IsP n := ⟨h2, fun d h1 hd => f d h1 (sq_lt (by
  have h3 : (d : Int) * d < (k : Int) * k := by omega
  rw [← Int.natCast_mul, ← Int.natCast_mul] at h3
  omega))⟩
theorem not_isP {n : Int} {k : Nat} (h2 : 2 ≤ k) (h : (k : Int) * k ≤ n) (e : n % (k : Int) = 0) : ¬ IsP n := fun z => z.2 k h2 h e
def sp (m : Nat) : Bool := (List.range 10).all fun d => decide (d < 2) || (decide (m < d * d) || decide (m % d ≠ 0))
theorem sp_iff (m : Nat) : sp m = true ↔ ∀ d : Nat, d < 10 → 2 ≤ d → d * d ≤ m → m % d ≠ 0 := by
  unfold sp
  rw [List.all_eq_true]
  constructor
  · intro h d h1 h2 h3
    have := h d (List.mem_range.mpr h1)
    simp only [Bool.or_eq_true, decide_eq_true_eq] at this
    omega
  · intro h d h1
    simp only [Bool.or_eq_true, decide_eq_true_eq]
    by_cases a : d < 2
    · exact .inl a
    · by_cases b : m < d * d
      · exact .inr (.inl b)
      · exact .inr (.inr (h d (List.mem_range.mp h1) (by omega) (by omega)))
theorem sp_all : ∀ m ∈ List.range 98, 2 ≤ m → sp m = primesN.contains m := by decide +kernel
theorem small_primes (m : Nat) (h : m < 98) (h2 : 2 ≤ m) : (∀ d : Nat, d < 10 → 2 ≤ d → d * d ≤ m → m % d ≠ 0) ↔ m ∈ primesN := by
  rw [← sp_iff, sp_all m (List.mem_range.mpr h) h2, List.contains_iff_mem]
theorem mem_primes {n : Int} : n ∈ primes ↔ ∃ m : Nat, m ∈ primesN ∧ (m : Int) = n := by
  unfold primes
  rw [List.mem_map]
theorem primesN_hi : ∀ m ∈ primesN, 2 ≤ m ∧ m < 98 := by decide +kernel
theorem primes_lo {n : Int} (h : n ∈ primes) : 2 ≤ n ∧ n ≤ 97 := by
  obtain ⟨m, hm, rfl⟩ := mem_primes.mp h
  have := primesN_hi m hm
  omega
theorem isP_iff {n : Int} (h2 : 2 ≤ n) (h : n ≤ 97) : IsP n ↔ n ∈ primes := by
  obtain ⟨m, rfl⟩ : ∃ m : Nat, n = (m : Int) := ⟨n.toNat, by omega⟩
  have s := small_primes m (by omega) (by omega)
  have c : IsP (m : Int) ↔ ∀ d : Nat, d < 10 → 2 ≤ d → d * d ≤ m → m % d ≠ 0 := by
    constructor
    · intro z d _ h1 hd e
      refine z.2 d h1 (by rw [← Int.natCast_mul]; omega) ?_
      rw [← Int.natCast_emod, e]
      rfl
    · intro z
      refine ⟨h2, fun d h1 hd e => ?_⟩
      have hd2 : d * d ≤ m := by
        rw [← Int.natCast_mul] at hd
        omega
      have hd10 : d < 10 := sq_lt (by omega)
      refine z d hd10 h1 hd2 ?_
      rw [← Int.natCast_emod] at e
      omega
  rw [c, s, mem_primes]
  constructor
  · intro z
    exact ⟨m, z, rfl⟩
  · rintro ⟨k, hk, e⟩
    have : k = m := by omega
    rw [← this]
    exact hk
theorem mul_primesN : ∀ p ∈ primesN, ∀ q ∈ primesN, p * q ∉ primesN := by decide +kernel
theorem mul_primes {p q : Int} (hp : p ∈ primes) (hq : q ∈ primes) : p * q ∉ primes := by
  obtain ⟨a, ha, rfl⟩ := mem_primes.mp hp
  obtain ⟨b, hb, rfl⟩ := mem_primes.mp hq
  intro z
  obtain ⟨c, hc, e⟩ := mem_primes.mp z
  have : c = a * b := by
    rw [← Int.natCast_mul] at e
    omega
  rw [this] at hc
  exact mul_primesN a ha b hb hc
/-- r to the power i, by p -/
def pw (p r : Nat) : Nat → Nat
  | 0 => 1
  | i + 1 => pw p r i * r % p
theorem fermat : ∀ p ∈ primesN, ∀ r : Nat, r < p → r ≠ 0 → 1 ≤ pw p r (p - 2) ∧ pw p r (p - 2) < p ∧ pw p r (p - 2) * r % p = 1 := by decide +kernel
theorem pw_step {p : Nat} (hp : 0 < p) (a : Int) (i : Nat) : ((pw p (a % p).toNat i : Nat) : Int) * a % (p : Int) = ((pw p (a % p).toNat (i + 1) : Nat) : Int) := by
  have h0 : 0 ≤ a % (p : Int) := Int.emod_nonneg _ (by omega)
  have e : (((a % (p : Int)).toNat : Nat) : Int) = a % (p : Int) := by omega
  show _ = ((pw p (a % p).toNat i * (a % p).toNat % p : Nat) : Int)
  rw [Int.natCast_emod, Int.natCast_mul, e, Int.mul_emod, Int.mul_emod ((pw p (a % p).toNat i : Nat) : Int) (a % (p : Int)), Int.emod_emod]
theorem inv_ok {p : Nat} (hp : p ∈ primesN) {a : Int} (ha : a % (p : Int) ≠ 0) : 1 ≤ pw p (a % p).toNat (p - 2) ∧ pw p (a % p).toNat (p - 2) < p ∧ ((pw p (a % p).toNat (p - 2) : Nat) : Int) * a % (p : Int) = 1 := by
  have h2 := primesN_hi p hp
  have h0 : 0 ≤ a % (p : Int) := Int.emod_nonneg _ (by omega)
  have h1 : a % (p : Int) < p := Int.emod_lt_of_pos _ (by omega)
  obtain ⟨f1, f2, f3⟩ := fermat p hp (a % p).toNat (by omega) (by omega)
  refine ⟨f1, f2, ?_⟩
  rw [pw_step (by omega)]
  show ((pw p (a % p).toNat (p - 2) * (a % p).toNat % p : Nat) : Int) = 1
  rw [f3]
  rfl
/-- the binomial number at any integer -/
def binI (n k : Int) : Int := if k < 0 then 0 else (M11.bin n.toNat k.toNat : Nat)
theorem binI_pascal {n k : Int} (hn : 1 ≤ n) : binI (n - 1) (k - 1) + binI (n - 1) k = binI n k := by
  unfold binI
  obtain ⟨m, rfl⟩ : ∃ m : Nat, n = ((m + 1 : Nat) : Int) := ⟨(n - 1).toNat, by omega⟩
  by_cases h : k < 0
  · rw [if_pos h, if_pos (by omega), if_pos h]
    rfl
  · rw [if_neg h, if_neg h]
    have e1 : ((m + 1 : Nat) : Int).toNat = m + 1 := by omega
    have e2 : (((m + 1 : Nat) : Int) - 1).toNat = m := by omega
    rw [e1, e2]
    by_cases h0 : k = 0
    · subst h0
      rw [if_pos (by omega)]
      show (0 : Int) + (M11.bin m 0 : Nat) = (M11.bin (m + 1) 0 : Nat)
      rw [M11.bin_0, M11.bin_0]
      rfl
    · rw [if_neg (by omega)]
      obtain ⟨j, rfl⟩ : ∃ j : Nat, k = ((j + 1 : Nat) : Int) := ⟨(k - 1).toNat, by omega⟩
      have e3 : ((j + 1 : Nat) : Int).toNat = j + 1 := by omega
      have e4 : (((j + 1 : Nat) : Int) - 1).toNat = j := by omega
      rw [e3, e4, M11.bin_ss]
      omega
theorem binI_zero (k : Int) : binI 0 k = if k = 0 then 1 else 0 := by
  unfold binI
  by_cases h : k < 0
  · rw [if_pos h, if_neg (by omega)]
  · rw [if_neg h]
    by_cases h0 : k = 0
    · subst h0
      rfl
    · rw [if_neg h0, M11.bin_lt (by show 0 < k.toNat; omega)]
      rfl
theorem pw_lt {p r : Nat} (h0 : 0 < p) (h : p < 98) : ∀ i, pw p r i < 98
  | 0 => by show 1 < 98; decide
  | i + 1 => Nat.lt_trans (Nat.mod_lt _ h0) h
end M02

set_option Elab.async false
set_option linter.all false
set_option maxRecDepth 100000
set_option maxHeartbeats 4000000
set_option pp.deepTerms false
set_option pp.deepTerms.threshold 12
namespace K47
open PySem PySem.Spec PyProof.Rows L2
local macro_rules | `(tactic| walk_at "ty") => `(tactic| first | exact .base (.int _) | exact .base (.bl _) | exact .base (.str _) | exact .base .non | assumption | exact .base (.tup (by assumption)) | exact .base (.lst (by assumption)))
local macro_rules | `(tactic| walk_at "cm") => `(tactic| first | exact cm_r (by decide) (by decide) | exact cm_l (by decide) (by decide) | exact cm_fmod (by decide) (by decide) | exact cm_r (by omega) (by omega) | exact cm_l (by omega) (by omega))
local macro_rules | `(tactic| walk_at "dv") => `(tactic| first | exact ⟨by decide, by decide⟩ | exact ⟨by omega, by omega⟩)
local macro_rules | `(tactic| walk_at "r1") => `(tactic| first
  | refine ⟨_, rfl, ?_⟩ | refine ⟨_, _, rfl, rfl, ?_⟩ | refine Or.inl ⟨_, rfl, ?_⟩ | refine Or.inr ⟨_, rfl, ?_⟩
  | refine And.intro (a := CMul _ _) (by walk_at "cm") ?_ | refine And.intro (a := CDivN _ _) (by walk_at "dv") ?_ | refine And.intro (a := _ ≠ (0 : Int)) (by first | decide | omega) ?_ | refine And.intro (a := scal _ _ = true) rfl ?_ | refine ⟨_, _, _, _, rfl, rfl, SqL.of (by first | exact upd_same | assumption), rfl, ?_⟩ | refine ⟨_, _, _, _, rfl, rfl, (by first | exact upd_same | assumption), rfl, ?_⟩ | refine ⟨_, _, rfl, ?_⟩ | refine And.intro (a := (_ : V) = V.non) rfl ?_ | refine And.intro (a := CPow _ _) ⟨by decide, by decide, by decide⟩ ?_ | refine And.intro (a := (_ : List V) = []) rfl ?_ | refine ⟨_, _, rfl, SqT.of (by first | exact upd_same | assumption), rfl, ?_⟩
  | refine ⟨_, _, _, _, rfl, rfl, SqT.of (by first | exact upd_same | assumption), rfl, ?_⟩
  | refine ⟨_, _, _, _, true, rfl, ClsV.ty _, (by walk_at "ty"), kit_ty (by decide +kernel), ?_⟩ | refine ⟨_, _, _, _, false, rfl, ClsV.ty _, (by walk_at "ty"), kit_ty (by decide +kernel), ?_⟩)
local macro_rules | `(tactic| walk_at "rd") => `(tactic| repeat walk_at "r1")
local macro_rules | `(tactic| walk_at "yes") => `(tactic| (change (if true = true then _ else _); rw [if_pos rfl]))
local macro_rules | `(tactic| walk_at "no") => `(tactic| (change (if false = true then _ else _); rw [if_neg Bool.false_ne_true]))
local macro_rules | `(tactic| walk_at "nw") => `(tactic| refine And.intro (a := _ ≤ sizeLine) (sz_le (Nat.le_of_ble_eq_true rfl)) ?_)

section
variable {P : Program} {w : World} {K : PySem.W.Frag} {mg : Str → Option Value} {base : Heap}
variable {C_VaultError C_NumberError C_BadPrime C_BadTable C_BadCells C_ShapeError C_PaperError C_BadMove fV fI_BadMove fI_BadCells fI_BadPrime fI_BadTable : Addr}
variable (T : Txt P K mg C_VaultError C_NumberError C_BadPrime C_BadTable C_BadCells C_ShapeError C_PaperError C_BadMove fV fI_BadMove fI_BadCells fI_BadPrime fI_BadTable)
include T
def spMix : Sp := fun vs H Q _ => ∃ n k : Int, vs = [.int n, .int k] ∧ ∀ r, Q (.int r) H
theorem ok_mix {f : Addr} {fd : FuncData} (F : Fun K "_law_mix" "_law_mix" s_mix f fd) : FnOk P w K mg base CX0 1 f fd p_mix spMix := by
  refine F.ok sc_mix (fun vs H Q E h => ?_) (fun cdv A outer s H vs Q E hr h => ?_)
  · obtain ⟨n, k, rfl, _⟩ := h
    rfl
  · obtain ⟨n, k, rfl, q⟩ := h
    refine ⟨_, (pss_cons (ps_set (i := 2) sc_mix.nd rfl (Or.inl rfl) (by exact (pe_op op_modN (pe_op op_add (pe_op op_add (pe_op op_mul (pe_callTy call_int1 (by rfl) T.b_int (by first | exact PySem.boot_int | decide +kernel) (pa_cons (pv 0) pa_nil)) pe_int) (pe_op op_mul (pe_callTy call_int1 (by rfl) T.b_int (by first | exact PySem.boot_int | decide +kernel) (pa_cons (pv 1) pa_nil)) pe_int)) pe_int) pe_int)))
      (pss_cons (ps_set (i := 2) sc_mix.nd rfl (Or.inl rfl) (by exact (pe_op op_modN (pe_op op_add (pe_op op_add (pe_op op_mul (pv 2) (pv 2)) (pe_op op_mul (pe_callTy call_int1 (by rfl) T.b_int (by first | exact PySem.boot_int | decide +kernel) (pa_cons (pv 1) pa_nil)) pe_int)) pe_int) pe_int)))
      (pss_cons (ps_set (i := 2) sc_mix.nd rfl (Or.inl rfl) (by exact (pe_op op_modN (pe_op op_add (pe_op op_add (pe_op op_mul (pv 2) (pv 2)) (pe_op op_mul (pe_op op_modN (pe_callTy call_int1 (by rfl) T.b_int (by first | exact PySem.boot_int | decide +kernel) (pa_cons (pv 0) pa_nil)) pe_int) pe_int)) (pe_op op_fdivN (pv 2) pe_int)) pe_int)))
      (pss_one (ps_ret (by exact (pe_op op_fdivN (pv 2) pe_int))))))), ?_⟩
    walk_at "rd"
    exact q _
omit T in
theorem cut63 (ns : List Int) : cutV (ns.map V.int) none (some 63) = (ns.take 63).map V.int := by
  unfold cutV
  rw [show (some (63 : Int)) = some ((63 : Nat) : Int) from rfl, HT.sIx_nat, HT.sIx_none, List.drop_zero, Nat.sub_zero, List.length_map, List.map_take]
  by_cases h : 63 ≤ ns.length
  · rw [Nat.min_eq_left h]
  · rw [Nat.min_eq_right (by omega), List.take_of_length_le (by rw [List.length_map]; omega), List.take_of_length_le (by rw [List.length_map]; omega)]
omit T in
theorem int_at {ns : List Int} {i : Nat} {y : V} (h : (ns.map V.int)[i]? = some y) : ∃ z, ns[i]? = some z ∧ y = V.int z := by
  rw [List.getElem?_map] at h
  cases e : ns[i]? with
  | none => rw [e] at h; cases h
  | some z => rw [e] at h; exact ⟨z, rfl, (Option.some.inj h).symm⟩
omit T in
theorem sz_le {n : Nat} (h : n ≤ 100000) : n ≤ sizeLine := Nat.le_trans h (by decide)
omit T in
theorem sz_lt {n : Nat} (h : n < 100000) : n < sizeLine := Nat.lt_of_lt_of_le h (by decide)
def spStore (K : PySem.W.Frag) : Sp := fun vs H Q _ => ∃ (a : Addr) (ns : List Int), vs = [.ref a] ∧ SqL K H a (ns.map V.int) ∧ ∀ st H', Store H' st → Same H H' → H st = none → Q (.ref st) H'
theorem ok_store {f : Addr} {fd : FuncData} (F : Fun K "_law_store" "_law_store" s_store f fd) : FnOk P w K mg base CX0 1 f fd p_store (spStore K) := by
  refine F.ok sc_store (fun vs H Q E h => ?_) (fun cdv A outer s H vs Q E hr h => ?_)
  · obtain ⟨a, ns, rfl, _⟩ := h
    rfl
  · obtain ⟨a, ns, rfl, hS, q⟩ := h
    refine ⟨_, (pss_cons (ps_set (i := 1) sc_store.nd rfl (Or.inl rfl) (by exact pe_int))
      (pss_cons (ps_for PassesOwn.never rfl (pi_list (pe_slice sl_list (pv 0) po_none (po_some pe_int))) (pg_name (i := 2) sc_store.nd rfl (Or.inl rfl)) (pss_one (ps_set (i := 1) sc_store.nd rfl (Or.inl rfl) (by exact (pe_op op_modN (pe_op op_add (pe_op op_add (pe_op op_add (pe_op op_mul (pv 1) pe_int) (pe_op op_mul (pe_callB call_abs (by rfl) T.b_abs (by first | exact PySem.boot_abs | decide +kernel) (pa_cons (pe_callTy call_int1 (by rfl) T.b_int (by first | exact PySem.boot_int | decide +kernel) (pa_cons (pv 2) pa_nil)) pa_nil)) pe_int)) (pe_callTy call_int1 (by rfl) T.b_int (by first | exact PySem.boot_int | decide +kernel) (pa_cons (pe_cmpR op_lt (pe_callTy call_int1 (by rfl) T.b_int (by first | exact PySem.boot_int | decide +kernel) (pa_cons (pv 2) pa_nil)) pe_int (nomark _)) pa_nil))) pe_int) pe_int)))))
      (pss_one (ps_ret (by exact (pe_lst (pa_cons (pe_lc (own := [("cell", 2)]) (g := gName 2) rfl sc_store.nd (pi_list (pe_slice sl_list (pv 0) po_none (po_some pe_int))) (blkOk_by (own := [("cell", 2)]) (N := N_store) (sc := defScope s_store) (by decide +kernel)) (fun _ _ _ _ _ => pg_name (i := 2) sc_store.nd rfl (Or.inl rfl)) (fun _ _ _ _ _ => pts_nil) (fun _ _ _ _ _ => (pe_callTy call_int1 (by rfl) T.b_int (by first | exact PySem.boot_int | decide +kernel) (pa_cons (pv 2) pa_nil)))) (pa_cons pe_int (pa_cons pe_int (pa_cons pe_int (pa_cons pe_int (pa_cons pe_int (pa_cons (pv 1) pa_nil))))))))))))), ?_⟩
    refine ⟨_, rfl, 63, rfl, a, _, rfl, hS, fun p hp => ?_⟩
    rw [cut63]
    refine ⟨p, rfl, ⟨_, SqL.of upd_same⟩, for_list (K := K) (a := p) (xs := (ns.take 63).map V.int) (fun i σ H' => ∃ (sd : Int) (v : Option V), σ = [some (.ref a), some (.int sd), v] ∧ H' = upd H p (.lst ((ns.take 63).map V.int)) ∧ -(2 ^ 40) < sd ∧ sd < 2 ^ 40) ⟨1009, none, rfl, rfl, by decide, by decide⟩ (fun i σ H' _ ⟨_, _, _, e, _⟩ => by rw [e]; exact SqL.of upd_same) ?_ ?_⟩
    · rintro i y σ H' hi ⟨sd, v, rfl, rfl, h1, h2⟩
      obtain ⟨z, _, rfl⟩ := int_at hi
      walk_at "rd"
      exact ⟨Int.lt_of_lt_of_le (by decide) (fm_lo (by decide)), Int.lt_of_lt_of_le (fm_hi (by decide)) (by decide)⟩
    · rintro σ H' ⟨sd, v, rfl, rfl, _⟩
      have s1 : Same H (upd H p (.lst ((ns.take 63).map V.int))) := same_new hp
      refine ⟨_, rfl, 63, rfl, a, _, rfl, s1.seq hS, fun p2 hp2 => ?_⟩
      rw [cut63]
      have s2 : Same H (upd (upd H p (.lst ((ns.take 63).map V.int))) p2 (.lst ((ns.take 63).map V.int))) := s1.trans (same_new hp2)
      generalize hH2 : upd (upd H p (.lst ((ns.take 63).map V.int))) p2 (.lst ((ns.take 63).map V.int)) = H2 at s2
      have e2 : H2 p2 = some (.lst ((ns.take 63).map V.int)) := by rw [← hH2]; exact upd_same
      refine ⟨p2, rfl, ⟨_, SqL.of e2⟩, fun D hD => lc_list (K := K) (a := p2) (xs := (ns.take 63).map V.int) (fun i H' => Same H2 H' ∧ H' D = some (.lst ((ns.take 63).map V.int |>.take i))) ⟨same_new hD, upd_same⟩ (fun i H' _ ⟨e, _⟩ => SqL.of (e _ _ e2)) ?_ ?_⟩
      · rintro i y H' hi ⟨e3, e4⟩
        obtain ⟨z, hz, rfl⟩ := int_at hi
        refine ⟨rfl, ?_⟩
        refine ⟨_, rfl, .inl ⟨z, rfl, _, e4, sz_lt ?_, e3.mut hD, ?_⟩⟩
        · rw [List.length_take, List.length_map, List.length_take]
          omega
        · rw [upd_same, take_one hi]
      · rintro H' ⟨e3, e4⟩
        rw [List.take_length] at e4
        refine ⟨_, rfl, sz_le (by show 7 ≤ 100000; decide), fun st hst => ?_⟩
        have hDst : D ≠ st := ne_of_none e4 hst
        have s3 : Same H (upd H' st (.lst [.ref D, .int 0, .int 0, .int 0, .int 0, .int 0, .int sd])) := (s2.trans e3).trans (same_new hst)
        exact q st _ ⟨D, ns.take 63, 0, 0, 0, 0, 0, sd, upd_same, by rw [upd_ne hDst]; exact e4, Int.le_refl 0, by rw [List.length_take]; omega, hDst⟩ s3 ((s2.trans e3).free hst)
/-- a number from 0 to below the greater of 1 and m; the drawer has moved on -/
def spTake : Sp := fun vs H Q _ => ∃ (st : Addr) (m : Int), vs = [.ref st, .int m] ∧ m < 1000000000 ∧ Store H st ∧ ∀ d H', 0 ≤ d → d < (if m > 1 then m else 1) → Store H' st → ButS st H H' → Q (.int d) H'
theorem ok_take {f : Addr} {fd : FuncData} (F : Fun K "_law_take" "_law_take" s_take f fd) {f_mix : Addr} {fd_mix : FuncData} (D_mix : Def K mg "_law_mix" s_mix p_mix f_mix fd_mix) (G_mix : FnOk P w K mg base CX0 1 f_mix fd_mix p_mix spMix) : FnOk P w K mg base CX0 2 f fd p_take spTake := by
  refine F.ok sc_take (fun vs H Q E h => ?_) (fun cdv A outer s H vs Q E hr h => ?_)
  · obtain ⟨st, m, rfl, _⟩ := h
    rfl
  · obtain ⟨st, m, rfl, hm, S, q⟩ := h
    obtain ⟨cl, ns, a, b, c, d, e, g, h1, h2, ha, hlen, hne⟩ := S.ex
    refine ⟨_, (pss_cons (ps_set (i := 1) sc_take.nd rfl (Or.inl rfl) (by exact (pe_callB (call_max2 rfl) (by rfl) T.b_max (by first | exact PySem.boot_max | decide +kernel) (pa_cons pe_int (pa_cons (pe_callTy call_int1 (by rfl) T.b_int (by first | exact PySem.boot_int | decide +kernel) (pa_cons (pv 1) pa_nil)) pa_nil)))))
      (pss_cons (ps_asg (by exact (pe_op op_add (pe_callTy call_int1 (by rfl) T.b_int (by first | exact PySem.boot_int | decide +kernel) (pa_cons (pe_ix ix_list (pv 0) pe_int (fun _ _ => rfl)) pa_nil)) pe_int)) (pg_sub (pv 0) pe_int set_list))
      (pss_mid (ps_if (PW.pt (pw_and (pt_cmpR op_eq (pe_callTy call_int1 (by rfl) T.b_int (by first | exact PySem.boot_int | decide +kernel) (pa_cons (pe_ix ix_list (pv 0) pe_int (fun _ _ => rfl)) pa_nil)) pe_int (nomark _)) (pw_and (pt_cmpR op_eq (pe_callTy call_int1 (by rfl) T.b_int (by first | exact PySem.boot_int | decide +kernel) (pa_cons (pe_ix ix_list (pv 0) pe_int (fun _ _ => rfl)) pa_nil)) pe_int (nomark _)) (pw_and1 (pt_cmpR op_lt (pe_callTy call_int1 (by rfl) T.b_int (by first | exact PySem.boot_int | decide +kernel) (pa_cons (pe_ix ix_list (pv 0) pe_int (fun _ _ => rfl)) pa_nil)) (pe_callB call_len_seq (by rfl) T.b_len (by first | exact PySem.boot_len | decide +kernel) (pa_cons (pe_ix ix_list (pv 0) pe_int (fun _ _ => rfl)) pa_nil)) (nomark _)))))) (pss_cons (ps_set (i := 2) sc_take.nd rfl (Or.inl rfl) (by exact (pe_callTy call_int1 (by rfl) T.b_int (by first | exact PySem.boot_int | decide +kernel) (pa_cons (pe_ix ix_list (pe_ix ix_list (pv 0) pe_int (fun _ _ => rfl)) (pe_ix ix_list (pv 0) pe_int (fun _ _ => rfl)) (fun _ _ => rfl)) pa_nil))))
          (pss_cons (ps_asg (by exact (pe_op op_add (pe_callTy call_int1 (by rfl) T.b_int (by first | exact PySem.boot_int | decide +kernel) (pa_cons (pe_ix ix_list (pv 0) pe_int (fun _ _ => rfl)) pa_nil)) pe_int)) (pg_sub (pv 0) pe_int set_list))
          (pss_one (ps_if (pt_cmpR op_ge (pe_callB call_abs (by rfl) T.b_abs (by first | exact PySem.boot_abs | decide +kernel) (pa_cons (pv 2) pa_nil)) (pe_op op_pow pe_int pe_int) (nomark _)) (pss_one (ps_asg (by exact (pe_callB call_abs (by rfl) T.b_abs (by first | exact PySem.boot_abs | decide +kernel) (pa_cons (pv 2) pa_nil))) (pg_sub (pv 0) pe_int set_list))) (pss_cons (ps_asg (by exact pe_int) (pg_sub (pv 0) pe_int set_list))
              (pss_one (ps_asg (by exact (pe_op op_add (pe_op op_mul (pe_callB call_abs (by rfl) T.b_abs (by first | exact PySem.boot_abs | decide +kernel) (pa_cons (pv 2) pa_nil)) pe_int) (pe_callTy call_int1 (by rfl) T.b_int (by first | exact PySem.boot_int | decide +kernel) (pa_cons (pe_cmpR op_lt (pv 2) pe_int (nomark _)) pa_nil)))) (pg_sub (pv 0) pe_int set_list)))))))) pss_nil)
      (pss_mid (ps_if (pt_cmpR op_gt (pe_callTy call_int1 (by rfl) T.b_int (by first | exact PySem.boot_int | decide +kernel) (pa_cons (pe_ix ix_list (pv 0) pe_int (fun _ _ => rfl)) pa_nil)) pe_int (nomark _)) (pss_cons (ps_set (i := 3) sc_take.nd rfl (Or.inl rfl) (by exact (pe_op op_modN (pe_callTy call_int1 (by rfl) T.b_int (by first | exact PySem.boot_int | decide +kernel) (pa_cons (pe_ix ix_list (pv 0) pe_int (fun _ _ => rfl)) pa_nil)) (pv 1))))
          (pss_cons (ps_asg (by exact (pe_op op_fdivN (pe_callTy call_int1 (by rfl) T.b_int (by first | exact PySem.boot_int | decide +kernel) (pa_cons (pe_ix ix_list (pv 0) pe_int (fun _ _ => rfl)) pa_nil)) (pv 1))) (pg_sub (pv 0) pe_int set_list))
          (pss_one (ps_ret (by exact (pv 3)))))) pss_nil)
      (pss_mid (ps_if (pt_cmpR op_gt (pe_callTy call_int1 (by rfl) T.b_int (by first | exact PySem.boot_int | decide +kernel) (pa_cons (pe_ix ix_list (pv 0) pe_int (fun _ _ => rfl)) pa_nil)) pe_int (nomark _)) (pss_cons (ps_asg (by exact (pe_op op_sub (pe_callTy call_int1 (by rfl) T.b_int (by first | exact PySem.boot_int | decide +kernel) (pa_cons (pe_ix ix_list (pv 0) pe_int (fun _ _ => rfl)) pa_nil)) pe_int)) (pg_sub (pv 0) pe_int set_list))
          (pss_one (ps_ret (by exact (pe_op op_modN (pe_call G_mix (hr.mono (by first | decide | omega)) rfl D_mix.g D_mix.fn.kp D_mix.b .nil pass0 (pa_cons (pe_callTy call_int1 (by rfl) T.b_int (by first | exact PySem.boot_int | decide +kernel) (pa_cons (pe_ix ix_list (pv 0) pe_int (fun _ _ => rfl)) pa_nil)) (pa_cons (pe_callTy call_int1 (by rfl) T.b_int (by first | exact PySem.boot_int | decide +kernel) (pa_cons (pe_ix ix_list (pv 0) pe_int (fun _ _ => rfl)) pa_nil)) pa_nil))) (pv 1)))))) pss_nil)
      (pss_one (ps_ret (by exact (pe_op op_modN (pe_call G_mix (hr.mono (by first | decide | omega)) rfl D_mix.g D_mix.fn.kp D_mix.b .nil pass0 (pa_cons (pe_callTy call_int1 (by rfl) T.b_int (by first | exact PySem.boot_int | decide +kernel) (pa_cons (pe_ix ix_list (pv 0) pe_int (fun _ _ => rfl)) pa_nil)) (pa_cons (pe_callTy call_int1 (by rfl) T.b_int (by first | exact PySem.boot_int | decide +kernel) (pa_cons (pe_ix ix_list (pv 0) pe_int (fun _ _ => rfl)) pa_nil)) pa_nil))) (pv 1)))))))))), ?_⟩
    walk_at "rd"
    generalize hM : (if m > 1 then m else 1) = M at q
    have hM0 : 0 < M := by rw [← hM]; split <;> omega
    have hM1 : M < 1000000000 := by rw [← hM]; split <;> omega
    -- every write to the store keeps it one
    have put : ∀ (a b c d e g : Int), 0 ≤ a → Store (upd H st (.lst [.ref cl, .int a, .int b, .int c, .int d, .int e, .int g])) st ∧ ButS st H (upd H st (.lst [.ref cl, .int a, .int b, .int c, .int d, .int e, .int g])) :=
      fun a b c d e g ha => ⟨⟨cl, ns, a, b, c, d, e, g, upd_same, by rw [upd_ne hne]; exact h2, ha, hlen, hne⟩, .set h1⟩
    refine ⟨fun σ H' => ∃ (v : Option V) (a b c d e g : Int), σ = [some (.ref st), some (.int M), v, none] ∧ H' = upd H st (.lst [.ref cl, .int a, .int b, .int c, .int d, .int e, .int g]) ∧ 0 ≤ a, ?_, ?_⟩
    · have fin : ∀ {σ : L2.St} {H' : Hp} (v : Option V) (a b c d e g : Int), 0 ≤ a → σ = [some (.ref st), some (.int M), v, none] → H' = upd H st (.lst [.ref cl, .int a, .int b, .int c, .int d, .int e, .int g]) →
          ∃ (v : Option V) (a b c d e g : Int), σ = [some (.ref st), some (.int M), v, none] ∧ H' = upd H st (.lst [.ref cl, .int a, .int b, .int c, .int d, .int e, .int g]) ∧ 0 ≤ a := fun v a b c d e g h1 h2 h3 => ⟨v, a, b, c, d, e, g, h2, h3, h1⟩
      have hcl : ∀ o, (upd H st o) cl = some (.lst (ns.map V.int)) := fun o => by rw [upd_ne hne]; exact h2
      walk_at "rd"
      refine ite2 (fun hc => ?_) (fun hc => fin none _ _ _ _ _ _ ha rfl rfl)
      walk_at "rd"
      refine ite2 (fun hc => ?_) (fun hc => fin none _ _ _ _ _ _ ha rfl rfl)
      walk_at "rd"
      refine ⟨_, _, rfl, .inl (SqL.of (hcl _)), ?_⟩
      walk_at "rd"
      refine ite2 (fun hc => ?_) (fun hc => fin none _ _ _ _ _ _ ha rfl rfl)
      have hlt : a < ns.length := by
        have z := of_decide_eq_true hc
        rw [List.length_map] at z
        exact z
      obtain ⟨j, rfl⟩ : ∃ j : Nat, a = (j : Int) := ⟨a.toNat, by omega⟩
      have hj : j < ns.length := by omega
      walk_at "rd"
      refine ⟨_, _, _, _, rfl, rfl, SqL.of (hcl _), atI_nat (by rw [List.getElem?_map, List.getElem?_eq_getElem hj]; rfl), ?_⟩
      walk_at "rd"
      refine ite2 (fun hc => ?_) (fun hc => ?_)
      · walk_at "rd"
        rw [upd2, upd2]
        exact fin (some (.int ns[j])) (j + 1) _ _ _ _ _ (by omega) rfl rfl
      · walk_at "rd"
        rw [upd2, upd2, upd2]
        exact fin (some (.int ns[j])) (j + 1) _ _ _ _ _ (by omega) rfl rfl
    · rintro σ' H' ⟨v, a', b', c', d', e', g', rfl, rfl, ha'⟩
      refine ⟨fun σ H' => ∃ (v : Option V) (a b c d e g : Int), σ = [some (.ref st), some (.int M), v, none] ∧ H' = upd H st (.lst [.ref cl, .int a, .int b, .int c, .int d, .int e, .int g]) ∧ 0 ≤ a, ?_, ?_⟩
      · walk_at "rd"
        refine ite2 (fun hc => ?_) (fun hc => ⟨v, a', b', c', d', e', g', rfl, rfl, ha'⟩)
        walk_at "rd"
        show Q (.int (b'.fmod M)) _
        rw [upd2]
        obtain ⟨p1, p2⟩ := put a' (b'.fdiv M) c' d' e' g' ha'
        exact q _ _ (fm_lo hM0) (fm_hi hM0) p1 p2
      · rintro σ' H' ⟨v, a', b', c', d', e', g', rfl, rfl, ha'⟩
        refine ⟨fun σ H' => ∃ (v : Option V) (a b c d e g : Int), σ = [some (.ref st), some (.int M), v, none] ∧ H' = upd H st (.lst [.ref cl, .int a, .int b, .int c, .int d, .int e, .int g]) ∧ 0 ≤ a, ?_, ?_⟩
        · walk_at "rd"
          refine ite2 (fun hc => ?_) (fun hc => ⟨v, a', b', c', d', e', g', rfl, rfl, ha'⟩)
          walk_at "rd"
          intro r
          walk_at "rd"
          show Q (.int (r.fmod M)) _
          rw [upd2]
          obtain ⟨p1, p2⟩ := put a' b' (c' - 1) d' e' g' ha'
          exact q _ _ (fm_lo hM0) (fm_hi hM0) p1 p2
        · rintro σ' H' ⟨v, a', b', c', d', e', g', rfl, rfl, ha'⟩
          walk_at "rd"
          intro r
          walk_at "rd"
          obtain ⟨p1, p2⟩ := put a' b' c' d' e' g' ha'
          exact q _ _ (fm_lo hM0) (fm_hi hM0) p1 p2

omit T in
theorem pickM (m : Int) : 0 < (if m > 1 then m else 1) := by split <;> omega
theorem ok_edge {f : Addr} {fd : FuncData} (F : Fun K "_law_edge" "_law_edge" s_edge f fd) {f_take : Addr} {fd_take : FuncData} (D_take : Def K mg "_law_take" s_take p_take f_take fd_take) (G_take : FnOk P w K mg base CX0 2 f_take fd_take p_take spTake) : FnOk P w K mg base CX0 3 f fd p_edge spTake := by
  refine F.ok sc_edge (fun vs H Q E h => ?_) (fun cdv A outer s H vs Q E hr h => ?_)
  · obtain ⟨st, m, rfl, _⟩ := h
    rfl
  · obtain ⟨st, m, rfl, hm, S, q⟩ := h
    refine ⟨_, (pss_cons (ps_set (i := 2) sc_edge.nd rfl (Or.inl rfl) (by exact (pe_call G_take (hr.mono (by first | decide | omega)) rfl D_take.g D_take.fn.kp D_take.b .nil pass0 (pa_cons (pv 0) (pa_cons pe_int pa_nil)))))
      (pss_cons (ps_if (pt_cmpR op_eq (pv 2) pe_int (nomark _)) (pss_one (ps_ret (by exact pe_int))) pss_nil)
      (pss_cons (ps_if (pt_cmpR op_eq (pv 2) pe_int (nomark _)) (pss_one (ps_ret (by exact (pe_op op_sub (pe_callB (call_max2 rfl) (by rfl) T.b_max (by first | exact PySem.boot_max | decide +kernel) (pa_cons pe_int (pa_cons (pe_callTy call_int1 (by rfl) T.b_int (by first | exact PySem.boot_int | decide +kernel) (pa_cons (pv 1) pa_nil)) pa_nil))) pe_int)))) pss_nil)
      (pss_one (ps_ret (by exact (pe_call G_take (hr.mono (by first | decide | omega)) rfl D_take.g D_take.fn.kp D_take.b .nil pass0 (pa_cons (pv 0) (pa_cons (pv 1) pa_nil))))))))), ?_⟩
    walk_at "rd"
    refine ⟨by decide, S, fun d H1 d0 d1 S1 b1 => ?_⟩
    walk_at "rd"
    have pm := pickM m
    refine ite2 (fun hc => ?_) (fun hc => ?_)
    · exact q 0 H1 (Int.le_refl 0) pm S1 b1
    walk_at "rd"
    refine ite2 (fun hc => ?_) (fun hc => ?_)
    · walk_at "rd"
      exact q _ H1 (by show 0 ≤ (if m > 1 then m else 1) - 1; omega) (by show (if m > 1 then m else 1) - 1 < _; omega) S1 b1
    · walk_at "rd"
      exact ⟨hm, S1, fun d H2 d0 d1 S2 b2 => q d H2 d0 d1 S2 (b1.trans b2)⟩
def spOdds : Sp := fun vs H Q _ => ∃ (st : Addr) (m : Int), vs = [.ref st, .int m] ∧ m < 1000000000 ∧ Store H st ∧ ∀ b H', Store H' st → ButS st H H' → Q (.bl b) H'
theorem ok_odds {f : Addr} {fd : FuncData} (F : Fun K "_law_odds" "_law_odds" s_odds f fd) {f_take : Addr} {fd_take : FuncData} (D_take : Def K mg "_law_take" s_take p_take f_take fd_take) (G_take : FnOk P w K mg base CX0 2 f_take fd_take p_take spTake) : FnOk P w K mg base CX0 3 f fd p_odds spOdds := by
  refine F.ok sc_odds (fun vs H Q E h => ?_) (fun cdv A outer s H vs Q E hr h => ?_)
  · obtain ⟨st, m, rfl, _⟩ := h
    rfl
  · obtain ⟨st, m, rfl, hm, S, q⟩ := h
    refine ⟨_, (pss_one (ps_ret (by exact (pe_cmpR op_eq (pe_call G_take (hr.mono (by first | decide | omega)) rfl D_take.g D_take.fn.kp D_take.b .nil pass0 (pa_cons (pv 0) (pa_cons (pv 1) pa_nil))) pe_int (nomark _))))), ?_⟩
    walk_at "rd"
    refine ⟨hm, S, fun d H1 d0 d1 S1 b1 => ?_⟩
    walk_at "rd"
    exact q _ H1 S1 b1
/-- one of the items -/
def spPick : Sp := fun vs H Q _ => ∃ (st l : Addr) (xs : List V), vs = [.ref st, .ref l] ∧ H l = some (.lst xs) ∧ l ≠ st ∧ 0 < xs.length ∧ xs.length ≤ 1000 ∧ Store H st ∧ ∀ v H', v ∈ xs → Store H' st → ButS st H H' → Q v H'
theorem ok_pick {f : Addr} {fd : FuncData} (F : Fun K "_law_pick" "_law_pick" s_pick f fd) {f_take : Addr} {fd_take : FuncData} (D_take : Def K mg "_law_take" s_take p_take f_take fd_take) (G_take : FnOk P w K mg base CX0 2 f_take fd_take p_take spTake) : FnOk P w K mg base CX0 3 f fd p_pick spPick := by
  refine F.ok sc_pick (fun vs H Q E h => ?_) (fun cdv A outer s H vs Q E hr h => ?_)
  · obtain ⟨st, l, xs, rfl, _⟩ := h
    rfl
  · obtain ⟨st, l, xs, rfl, hl, hne, h0, h1, S, q⟩ := h
    refine ⟨_, (pss_one (ps_ret (by exact (pe_ix ix_list (pv 1) (pe_call G_take (hr.mono (by first | decide | omega)) rfl D_take.g D_take.fn.kp D_take.b .nil pass0 (pa_cons (pv 0) (pa_cons (pe_callB call_len_seq (by rfl) T.b_len (by first | exact PySem.boot_len | decide +kernel) (pa_cons (pv 1) pa_nil)) pa_nil))) (fun _ _ => rfl))))), ?_⟩
    walk_at "rd"
    refine ⟨_, _, rfl, .inl (SqL.of hl), ?_⟩
    walk_at "rd"
    refine ⟨by omega, S, fun d H1 d0 d1 S1 b1 => ?_⟩
    have hd : d < xs.length := by
      revert d1
      split <;> omega
    obtain ⟨j, rfl⟩ : ∃ j : Nat, d = (j : Int) := ⟨d.toNat, by omega⟩
    have hj : j < xs.length := by omega
    refine ⟨_, _, _, _, rfl, rfl, SqL.of (b1.1 _ _ hne hl), atI_nat (List.getElem?_eq_getElem hj), ?_⟩
    exact q _ H1 (List.getElem_mem hj) S1 b1
def spLen : Sp := fun vs H Q _ => ∃ (st : Addr), vs = [.ref st] ∧ Store H st ∧ ∀ n H', 1 ≤ n → n ≤ 120 → Store H' st → ButS st H H' → Q (.int n) H'
theorem ok_length {f : Addr} {fd : FuncData} (F : Fun K "_law_length" "_law_length" s_length f fd) {f_take : Addr} {fd_take : FuncData} (D_take : Def K mg "_law_take" s_take p_take f_take fd_take) (G_take : FnOk P w K mg base CX0 2 f_take fd_take p_take spTake) {f_edge : Addr} {fd_edge : FuncData} (D_edge : Def K mg "_law_edge" s_edge p_edge f_edge fd_edge) (G_edge : FnOk P w K mg base CX0 3 f_edge fd_edge p_edge spTake) : FnOk P w K mg base CX0 4 f fd p_length spLen := by
  refine F.ok sc_length (fun vs H Q E h => ?_) (fun cdv A outer s H vs Q E hr h => ?_)
  · obtain ⟨st, rfl, _⟩ := h
    rfl
  · obtain ⟨st, rfl, S, q⟩ := h
    refine ⟨_, (pss_cons (ps_set (i := 1) sc_length.nd rfl (Or.inl rfl) (by exact (pe_call G_take (hr.mono (by first | decide | omega)) rfl D_take.g D_take.fn.kp D_take.b .nil pass0 (pa_cons (pv 0) (pa_cons pe_int pa_nil)))))
      (pss_cons (ps_if (pt_cmpR op_eq (pv 1) pe_int (nomark _)) (pss_one (ps_ret (by exact (pe_op op_add pe_int (pe_call G_edge (hr.mono (by first | decide | omega)) rfl D_edge.g D_edge.fn.kp D_edge.b .nil pass0 (pa_cons (pv 0) (pa_cons pe_int pa_nil))))))) pss_nil)
      (pss_cons (ps_if (pt_cmpR op_eq (pv 1) pe_int (nomark _)) (pss_one (ps_ret (by exact (pe_op op_add pe_int (pe_call G_take (hr.mono (by first | decide | omega)) rfl D_take.g D_take.fn.kp D_take.b .nil pass0 (pa_cons (pv 0) (pa_cons pe_int pa_nil))))))) pss_nil)
      (pss_one (ps_ret (by exact (pe_op op_add pe_int (pe_call G_take (hr.mono (by first | decide | omega)) rfl D_take.g D_take.fn.kp D_take.b .nil pass0 (pa_cons (pv 0) (pa_cons pe_int pa_nil)))))))))), ?_⟩
    walk_at "rd"
    refine ⟨by decide, S, fun d H1 d0 d1 S1 b1 => ?_⟩
    walk_at "rd"
    refine ite2 (fun hc => ?_) (fun hc => ?_)
    · walk_at "rd"
      refine ⟨by decide, S1, fun d H2 d0 d1 S2 b2 => ?_⟩
      rw [if_pos (by decide)] at d1
      walk_at "rd"
      exact q _ H2 (by omega) (by omega) S2 (b1.trans b2)
    walk_at "rd"
    refine ite2 (fun hc => ?_) (fun hc => ?_)
    · walk_at "rd"
      refine ⟨by decide, S1, fun d H2 d0 d1 S2 b2 => ?_⟩
      rw [if_pos (by decide)] at d1
      walk_at "rd"
      exact q _ H2 (by omega) (by omega) S2 (b1.trans b2)
    · walk_at "rd"
      refine ⟨by decide, S1, fun d H2 d0 d1 S2 b2 => ?_⟩
      rw [if_pos (by decide)] at d1
      walk_at "rd"
      exact q _ H2 (by omega) (by omega) S2 (b1.trans b2)
theorem ok_cellcount {f : Addr} {fd : FuncData} (F : Fun K "_law_cellcount" "_law_cellcount" s_cellcount f fd) {f_take : Addr} {fd_take : FuncData} (D_take : Def K mg "_law_take" s_take p_take f_take fd_take) (G_take : FnOk P w K mg base CX0 2 f_take fd_take p_take spTake) {f_edge : Addr} {fd_edge : FuncData} (D_edge : Def K mg "_law_edge" s_edge p_edge f_edge fd_edge) (G_edge : FnOk P w K mg base CX0 3 f_edge fd_edge p_edge spTake) {f_odds : Addr} {fd_odds : FuncData} (D_odds : Def K mg "_law_odds" s_odds p_odds f_odds fd_odds) (G_odds : FnOk P w K mg base CX0 3 f_odds fd_odds p_odds spOdds) : FnOk P w K mg base CX0 4 f fd p_cellcount spLen := by
  refine F.ok sc_cellcount (fun vs H Q E h => ?_) (fun cdv A outer s H vs Q E hr h => ?_)
  · obtain ⟨st, rfl, _⟩ := h
    rfl
  · obtain ⟨st, rfl, S, q⟩ := h
    refine ⟨_, (pss_cons (ps_if (pt_val (pe_call G_odds (hr.mono (by first | decide | omega)) rfl D_odds.g D_odds.fn.kp D_odds.b .nil pass0 (pa_cons (pv 0) (pa_cons pe_int pa_nil)))) (pss_one (ps_ret (by exact (pe_op op_add pe_int (pe_call G_edge (hr.mono (by first | decide | omega)) rfl D_edge.g D_edge.fn.kp D_edge.b .nil pass0 (pa_cons (pv 0) (pa_cons pe_int pa_nil))))))) pss_nil)
      (pss_one (ps_ret (by exact (pe_op op_add pe_int (pe_call G_take (hr.mono (by first | decide | omega)) rfl D_take.g D_take.fn.kp D_take.b .nil pass0 (pa_cons (pv 0) (pa_cons pe_int pa_nil)))))))), ?_⟩
    walk_at "rd"
    refine ⟨by decide, S, fun b H1 S1 b1 => ?_⟩
    walk_at "rd"
    refine ite2 (fun hc => ?_) (fun hc => ?_)
    · walk_at "rd"
      refine ⟨by decide, S1, fun d H2 d0 d1 S2 b2 => ?_⟩
      rw [if_pos (by decide)] at d1
      walk_at "rd"
      exact q _ H2 (by omega) (by omega) S2 (b1.trans b2)
    · walk_at "rd"
      refine ⟨by decide, S1, fun d H2 d0 d1 S2 b2 => ?_⟩
      rw [if_pos (by decide)] at d1
      walk_at "rd"
      exact q _ H2 (by omega) (by omega) S2 (b1.trans b2)
end
end K47

set_option Elab.async false
set_option linter.all false
set_option maxRecDepth 100000
set_option maxHeartbeats 4000000
set_option pp.deepTerms false
set_option pp.deepTerms.threshold 12
namespace K47
open PySem PySem.Spec PyProof.Rows L2
local macro_rules | `(tactic| walk_at "ty") => `(tactic| first | exact .base (.int _) | exact .base (.bl _) | exact .base (.str _) | exact .base .non | assumption | exact .base (.tup (by assumption)) | exact .base (.lst (by assumption)))
local macro_rules | `(tactic| walk_at "cm") => `(tactic| first | exact cm_r (by decide) (by decide) | exact cm_l (by decide) (by decide) | exact cm_fmod (by decide) (by decide) | exact cm_r (by omega) (by omega) | exact cm_l (by omega) (by omega))
local macro_rules | `(tactic| walk_at "dv") => `(tactic| first | exact ⟨by decide, by decide⟩ | exact ⟨by omega, by omega⟩)
local macro_rules | `(tactic| walk_at "r1") => `(tactic| first
  | refine ⟨_, rfl, ?_⟩ | refine ⟨_, _, rfl, rfl, ?_⟩ | refine Or.inl ⟨_, rfl, ?_⟩ | refine Or.inr ⟨_, rfl, ?_⟩
  | refine And.intro (a := CMul _ _) (by walk_at "cm") ?_ | refine And.intro (a := CDivN _ _) (by walk_at "dv") ?_ | refine And.intro (a := _ ≠ (0 : Int)) (by first | decide | omega) ?_ | refine And.intro (a := scal _ _ = true) rfl ?_ | refine ⟨_, _, _, _, rfl, rfl, SqL.of (by first | exact upd_same | assumption), rfl, ?_⟩ | refine ⟨_, _, _, _, rfl, rfl, (by first | exact upd_same | assumption), rfl, ?_⟩ | refine ⟨_, _, rfl, ?_⟩ | refine And.intro (a := (_ : V) = V.non) rfl ?_ | refine And.intro (a := CPow _ _) ⟨by decide, by decide, by decide⟩ ?_ | refine And.intro (a := (_ : List V) = []) rfl ?_ | refine ⟨_, _, rfl, SqT.of (by first | exact upd_same | assumption), rfl, ?_⟩
  | refine ⟨_, _, _, _, rfl, rfl, SqT.of (by first | exact upd_same | assumption), rfl, ?_⟩
  | refine ⟨_, _, _, _, true, rfl, ClsV.ty _, (by walk_at "ty"), kit_ty (by decide +kernel), ?_⟩ | refine ⟨_, _, _, _, false, rfl, ClsV.ty _, (by walk_at "ty"), kit_ty (by decide +kernel), ?_⟩)
local macro_rules | `(tactic| walk_at "rd") => `(tactic| repeat walk_at "r1")
local macro_rules | `(tactic| walk_at "yes") => `(tactic| (change (if true = true then _ else _); rw [if_pos rfl]))
local macro_rules | `(tactic| walk_at "no") => `(tactic| (change (if false = true then _ else _); rw [if_neg Bool.false_ne_true]))
local macro_rules | `(tactic| walk_at "nw") => `(tactic| refine And.intro (a := _ ≤ sizeLine) (sz_le (Nat.le_of_ble_eq_true rfl)) ?_)

section
variable {P : Program} {w : World} {K : PySem.W.Frag} {mg : Str → Option Value} {base : Heap}
variable {C_VaultError C_NumberError C_BadPrime C_BadTable C_BadCells C_ShapeError C_PaperError C_BadMove fV fI_BadMove fI_BadCells fI_BadPrime fI_BadTable : Addr}
variable (T : Txt P K mg C_VaultError C_NumberError C_BadPrime C_BadTable C_BadCells C_ShapeError C_PaperError C_BadMove fV fI_BadMove fI_BadCells fI_BadPrime fI_BadTable)
include T
omit T in
theorem minsub {n k : Nat} (hk : k ≤ n) : (if (n : Int) - k < k then (n : Int) - k else (k : Int)) = ((min k (n - k) : Nat) : Int) := by
  by_cases h : n - k < k
  · rw [if_pos (by omega), Nat.min_eq_right (by omega)]
    omega
  · rw [if_neg (by omega), Nat.min_eq_left (by omega)]
omit T in
theorem fdiv_nat (a b : Nat) : ((a : Int).fdiv (b : Int)) = ((a / b : Nat) : Int) := by
  rw [Int.fdiv_eq_ediv_of_nonneg _ (by omega)]
  rfl
omit T in
theorem binN {n j : Nat} (h : j ≤ n) : (((M11.bin n j : Nat) : Int) * ((n : Int) - j)).fdiv ((j : Int) + 1) = ((M11.bin n (j + 1) : Nat) : Int) := by
  have e : ((M11.bin n j : Nat) : Int) * ((n : Int) - j) = ((M11.bin n j * (n - j) : Nat) : Int) := by
    rw [Int.natCast_mul, Int.ofNat_sub h]
  rw [e, show (j : Int) + 1 = ((j + 1 : Nat) : Int) from rfl, fdiv_nat, M11.bin_step]
omit T in
theorem bN {c q : Nat} : (((M11.B c q : Nat) : Int) * ((c : Int) + q + 1)).fdiv ((q : Int) + 1) = ((M11.B c (q + 1) : Nat) : Int) := by
  have e : ((M11.B c q : Nat) : Int) * ((c : Int) + q + 1) = ((M11.B c q * (c + q + 1) : Nat) : Int) := by
    rw [Int.natCast_mul]
    rfl
  rw [e, show (q : Int) + 1 = ((q + 1 : Nat) : Int) from rfl, fdiv_nat, M11.B_step]
def spCh : Sp := fun vs H Q _ => ∃ a b : Int, vs = [.int a, .int b] ∧ ∃ n k : Nat, (a = n ∧ b = k) ∧ n ≤ 1000 ∧ Q (.int (M11.bin n k)) H
theorem ok_choose {f : Addr} {fd : FuncData} (F : Fun K "choose" "choose" s_choose f fd) : FnOk P w K mg base CX0 1 f fd p_choose spCh := by
  refine F.ok sc_choose (fun vs H Q E h => ?_) (fun cdv A outer s H vs Q E hr h => ?_)
  · obtain ⟨a, b, rfl, _⟩ := h
    rfl
  · obtain ⟨_, _, rfl, n, k, ⟨rfl, rfl⟩, hn, q⟩ := h
    refine ⟨_, (pss_cons (ps_if (PW.pt (pw_or (pt_cmpR op_lt (pv 1) pe_int (nomark _)) (pw_or1 (pt_cmpR op_gt (pv 1) (pv 0) (nomark _))))) (pss_one (ps_ret (by exact pe_int))) pss_nil)
      (pss_cons (ps_set (i := 2) sc_choose.nd rfl (Or.inl rfl) (by exact pe_int))
      (pss_cons (ps_for PassesOwn.never rfl (pi_range1 (by rfl) T.b_range (pa_cons (pe_callB (call_min2 rfl) (by rfl) T.b_min (by first | exact PySem.boot_min | decide +kernel) (pa_cons (pv 1) (pa_cons (pe_op op_sub (pv 0) (pv 1)) pa_nil))) pa_nil)) (pg_name (i := 3) sc_choose.nd rfl (Or.inl rfl)) (pss_one (ps_set (i := 2) sc_choose.nd rfl (Or.inl rfl) (by exact (pe_op op_fdivN (pe_op op_mul (pv 2) (pe_op op_sub (pv 0) (pv 3))) (pe_op op_add (pv 3) pe_int))))))
      (pss_one (ps_ret (by exact (pv 2))))))), ?_⟩
    walk_at "rd"
    refine ite2 (fun hc => ?_) (fun hc => ?_)
    · walk_at "rd"
      have := of_decide_eq_true hc
      rw [M11.bin_lt (by omega)] at q
      exact q
    have hk : k ≤ n := by
      have := of_ndec hc
      omega
    walk_at "rd"
    rw [minsub hk]
    have hm : min k (n - k) ≤ n := Nat.le_trans (Nat.min_le_left _ _) hk
    refine ⟨by omega, by omega, ?_⟩
    refine for_range (fun i σ H' => ∃ v : Option V, σ = [some (.int n), some (.int k), some (.int (M11.bin n i : Nat)), v] ∧ H' = H) ⟨none, by rw [M11.bin_0]; rfl, rfl⟩ ?_ ?_
    · rintro i σ H' hi ⟨v, rfl, rfl⟩
      have hi2 : i < min k (n - k) := hi
      walk_at "rd"
      refine ⟨some (.int (0 + i)), ?_, rfl⟩
      rw [show (0 : Int) + (i : Int) = i from Int.zero_add _]
      show [_, _, some (V.int ((((M11.bin n i : Nat) : Int) * ((n : Int) - (i : Int))).fdiv ((i : Int) + 1))), _] = _
      rw [binN (by omega)]
    · rintro σ H' ⟨v, rfl, rfl⟩
      walk_at "rd"
      show Q (.int ((M11.bin n (min k (n - k)) : Nat) : Int)) _
      rw [M11.bin_min hk]
      exact q
def spUps : Sp := fun vs H Q _ => ∃ a b : Int, vs = [.int a, .int b] ∧ ∃ n c : Nat, (a = n ∧ b = (c + 1 : Nat)) ∧ n ≤ 1000 ∧ c ≤ 1000 ∧ Q (.int (M11.T n (c + 1))) H
theorem ok_leastups {f : Addr} {fd : FuncData} (F : Fun K "_law_leastups" "_law_leastups" s_leastups f fd) : FnOk P w K mg base CX0 1 f fd p_leastups spUps := by
  refine F.ok sc_leastups (fun vs H Q E h => ?_) (fun cdv A outer s H vs Q E hr h => ?_)
  · obtain ⟨a, b, rfl, _⟩ := h
    rfl
  · obtain ⟨_, _, rfl, n, c, ⟨rfl, rfl⟩, hn, hc, q⟩ := h
    refine ⟨_, (pss_cons (ps_set (i := 2) sc_leastups.nd rfl (Or.inl rfl) (by exact pe_int))
      (pss_cons (ps_set (i := 3) sc_leastups.nd rfl (Or.inl rfl) (by exact pe_int))
      (pss_cons (ps_for PassesOwn.never rfl (pi_range1 (by rfl) T.b_range (pa_cons (pe_op op_add (pv 0) pe_int) pa_nil)) (pg_name (i := 4) sc_leastups.nd rfl (Or.inl rfl)) (pss_cons (ps_if (pt_cmpR op_le (pe_op op_add (pv 0) pe_int) (pv 3) (nomark _)) (pss_one ps_break) pss_nil)
          (pss_cons (ps_set (i := 2) sc_leastups.nd rfl (Or.inl rfl) (by exact (pe_op op_sub (pe_op op_add (pe_op op_add (pv 2) (pv 0)) pe_int) (pv 3))))
          (pss_one (ps_set (i := 3) sc_leastups.nd rfl (Or.inl rfl) (by exact (pe_op op_fdivN (pe_op op_mul (pv 3) (pe_op op_add (pe_op op_add (pv 1) (pv 4)) pe_int)) (pe_op op_add (pv 4) pe_int))))))))
      (pss_one (ps_ret (by exact (pv 2))))))), ?_⟩
    walk_at "rd"
    refine ⟨by omega, by omega, ?_⟩
    refine for_range (fun i σ H' => ∃ v : Option V, σ = [some (.int n), some (.int ((c + 1 : Nat) : Int)), some (.int (M11.S n (c + 1) i)), some (.int (M11.B (c + 1) i : Nat)), v] ∧ H' = H ∧ ∀ q, q < i → M11.B (c + 1) q ≤ n) ⟨none, by rw [M11.S_0, M11.B_0]; rfl, rfl, fun q h => absurd h (Nat.not_lt_zero _)⟩ ?_ ?_
    · rintro i σ H' hi ⟨v, rfl, rfl, hb⟩
      walk_at "rd"
      refine ite2 (fun hc => ?_) (fun hc => ?_)
      · have hr : M11.IsR n (c + 1) i := ⟨hb, by have := of_decide_eq_true hc; omega⟩
        walk_at "rd"
        show Q (.int (M11.S n (c + 1) i)) _
        rw [M11.IsT.eq ⟨i, hr, rfl⟩]
        exact q
      · have hlt := of_ndec hc
        walk_at "rd"
        refine ⟨some (.int (0 + i)), ?_, rfl, fun q hq => ?_⟩
        · rw [M11.S_succ, show (0 : Int) + (i : Int) = i from Int.zero_add _]
          show [_, _, some (V.int (M11.S n (c + 1) i + (n : Int) + 1 - (M11.B (c + 1) i : Nat))), some (V.int ((((M11.B (c + 1) i : Nat) : Int) * (((c + 1 : Nat) : Int) + (i : Int) + 1)).fdiv ((i : Int) + 1))), _] = _
          rw [bN]
          rw [show M11.S n (c + 1) i + ((n : Int) + 1 - (M11.B (c + 1) i : Nat)) = M11.S n (c + 1) i + (n : Int) + 1 - (M11.B (c + 1) i : Nat) by omega]
        · rcases Nat.lt_succ_iff_lt_or_eq.mp hq with a | a
          · exact hb q a
          · rw [a]
            omega
    · rintro σ H' ⟨v, rfl, rfl, hb⟩
      exfalso
      have h1 := hb n (by omega)
      have h2 := M11.B_ge c n
      omega
omit T in
theorem isi_ty {K : PySem.W.Frag} {H : Hp} {x : V} {n m : String} {b : Bool} {Q : VK} (h : TyX K H x (.type n)) (e : kitB n m = some b) (q : Q (.bl b) H) : rIsi K [x, .ty m] H Q := ⟨x, .ty m, _, _, b, rfl, .ty m, h, kit_ty e, q⟩
/-- no int: a bool, None, a string, a tuple or a list -/
inductive NotInt (H : Hp) : V → String → Prop
  | bl (b : Bool) : NotInt H (.bl b) "bool"
  | non : NotInt H .non "NoneType"
  | str (s : Str) : NotInt H (.str s) "str"
  | tup (a : Addr) (xs : List V) (h : H a = some (.tup xs)) : NotInt H (.ref a) "tuple"
  | lst (a : Addr) (xs : List V) (h : H a = some (.lst xs)) : NotInt H (.ref a) "list"
omit T in
theorem NotInt.ty {K : PySem.W.Frag} {H : Hp} {x : V} {n : String} (h : NotInt H x n) : TyX K H x (.type n) := by
  cases h with
  | bl b => exact .base (.bl b)
  | non => exact .base .non
  | str s => exact .base (.str s)
  | tup a xs h => exact .base (.tup h)
  | lst a xs h => exact .base (.lst h)
def spWhole : Sp := fun vs H Q _ => ∃ v : V, vs = [v] ∧ ((∃ i, v = .int i ∧ Q (.bl true) H) ∨ (∃ n, NotInt H v n ∧ Q (.bl false) H))
theorem ok_is_whole {f : Addr} {fd : FuncData} (F : Fun K "is_whole" "is_whole" s_is_whole f fd) : FnOk P w K mg base CX0 1 f fd p_is_whole spWhole := by
  refine F.ok sc_is_whole (fun vs H Q E h => ?_) (fun cdv A outer s H vs Q E hr h => ?_)
  · obtain ⟨a, rfl, _⟩ := h
    rfl
  · obtain ⟨v, rfl, q⟩ := h
    refine ⟨_, (pss_one (ps_ret (by exact (pe_and (pe_callB call_isi (by rfl) T.b_isinstance (by first | exact PySem.boot_isinstance | decide +kernel) (pa_cons (pv 0) (pa_cons (pe_bltn (v := .ty "int") (by rfl) T.b_int (by first | exact PySem.boot_int | decide +kernel) rfl) pa_nil))) (pe_one (pe_not (pe_callB call_isi (by rfl) T.b_isinstance (by first | exact PySem.boot_isinstance | decide +kernel) (pa_cons (pv 0) (pa_cons (pe_bltn (v := .ty "bool") (by rfl) T.b_bool (by first | exact PySem.boot_bool | decide +kernel) rfl) pa_nil))))))))), ?_⟩
    walk_at "rd"
    rcases q with ⟨i, rfl, q⟩ | ⟨n, h, q⟩
    · walk_at "rd"
      exact q
    · cases h <;> (walk_at "rd"; exact q)
theorem ok_isint {f : Addr} {fd : FuncData} (F : Fun K "_law_isint" "_law_isint" s_isint f fd) : FnOk P w K mg base CX0 1 f fd p_isint spWhole := by
  refine F.ok sc_isint (fun vs H Q E h => ?_) (fun cdv A outer s H vs Q E hr h => ?_)
  · obtain ⟨a, rfl, _⟩ := h
    rfl
  · obtain ⟨v, rfl, q⟩ := h
    refine ⟨_, (pss_one (ps_ret (by exact (pe_and (pe_callB call_isi (by rfl) T.b_isinstance (by first | exact PySem.boot_isinstance | decide +kernel) (pa_cons (pv 0) (pa_cons (pe_bltn (v := .ty "int") (by rfl) T.b_int (by first | exact PySem.boot_int | decide +kernel) rfl) pa_nil))) (pe_one (pe_not (pe_callB call_isi (by rfl) T.b_isinstance (by first | exact PySem.boot_isinstance | decide +kernel) (pa_cons (pv 0) (pa_cons (pe_bltn (v := .ty "bool") (by rfl) T.b_bool (by first | exact PySem.boot_bool | decide +kernel) rfl) pa_nil))))))))), ?_⟩
    walk_at "rd"
    rcases q with ⟨i, rfl, q⟩ | ⟨n, h, q⟩
    · walk_at "rd"
      exact q
    · cases h <;> (walk_at "rd"; exact q)
def spWithin : Sp := fun vs H Q _ => ∃ (v : V) (a b : Int), vs = [v, .int a, .int b] ∧ ((∃ i, v = .int i ∧ ∀ c : Bool, (c = true ↔ a ≤ i ∧ i ≤ b) → Q (.bl c) H) ∨ (∃ n, NotInt H v n ∧ Q (.bl false) H))
theorem ok_lies_within {f : Addr} {fd : FuncData} (F : Fun K "lies_within" "lies_within" s_lies_within f fd) {f_is_whole : Addr} {fd_is_whole : FuncData} (D_is_whole : Def K mg "is_whole" s_is_whole p_is_whole f_is_whole fd_is_whole) (G_is_whole : FnOk P w K mg base CX0 1 f_is_whole fd_is_whole p_is_whole spWhole) : FnOk P w K mg base CX0 2 f fd p_lies_within spWithin := by
  refine F.ok sc_lies_within (fun vs H Q E h => ?_) (fun cdv A outer s H vs Q E hr h => ?_)
  · obtain ⟨v, a, b, rfl, _⟩ := h
    rfl
  · obtain ⟨v, a, b, rfl, q⟩ := h
    refine ⟨_, (pss_one (ps_ret (by exact (pe_and (pe_call G_is_whole (hr.mono (by first | decide | omega)) rfl D_is_whole.g D_is_whole.fn.kp D_is_whole.b .nil pass0 (pa_cons (pv 0) pa_nil)) (pe_one (pe_chain op_le op_le (pv 1) (pv 0) (pv 2))))))), ?_⟩
    walk_at "rd"
    rcases q with ⟨i, rfl, q⟩ | ⟨n, h, q⟩
    · refine .inl ⟨i, rfl, ?_⟩
      walk_at "rd"
      refine ite2 (fun hc => ?_) (fun hc => ?_)
      · have h1 := of_decide_eq_true hc
        walk_at "rd"
        refine q _ ⟨fun z => ⟨h1, of_decide_eq_true z⟩, fun z => decide_eq_true z.2⟩
      · have h1 := of_ndec hc
        exact q false ⟨fun z => (nomatch z), fun z => absurd z.1 h1⟩
    · refine .inr ⟨n, h, ?_⟩
      walk_at "rd"
      exact q
def spNeed (C : Addr) : Sp := fun vs H Q E => ∃ v : V, vs = [v] ∧ ((∃ i, v = .int i ∧ 1 ≤ i ∧ Q .non H) ∨ ((∃ i, v = .int i ∧ i < 1) ∨ (∃ n, NotInt H v n)) ∧ ∀ d, H d = none → E (.ref C) (some d) (upd H d (.xd (excD ["cells"] "BadCells" [v]))))
theorem ok_need_cells {f : Addr} {fd : FuncData} (F : Fun K "need_cells" "need_cells" s_need_cells f fd) {f_is_whole : Addr} {fd_is_whole : FuncData} (D_is_whole : Def K mg "is_whole" s_is_whole p_is_whole f_is_whole fd_is_whole) (G_is_whole : FnOk P w K mg base CX0 1 f_is_whole fd_is_whole p_is_whole spWhole) : FnOk P w K mg base (L2N.CX P w) 3 f fd p_need_cells (spNeed C_BadCells) := by
  refine F.okN sc_need_cells (fun vs H Q E h => ?_) (fun cdv A outer s H vs Q E hr h => ?_)
  · obtain ⟨a, rfl, _⟩ := h
    rfl
  · obtain ⟨v, rfl, q⟩ := h
    refine ⟨_, (pss_one (ps_if (PW.pt (pw_or (pt_not (pt_val (pe_call G_is_whole (hr.mono (by first | decide | omega)) rfl D_is_whole.g D_is_whole.fn.kp D_is_whole.b .nil pass0 (pa_cons (pv 0) pa_nil)))) (pw_or1 (pt_cmpR op_lt (pv 0) pe_int (nomark _))))) (pss_one (ps_raiseN rfl T.lf_BadCells hr (L2N.takes_of rfl rfl rfl rfl) T.g_BadCells (pa_cons (pv 0) pa_nil))) pss_nil)), ?_⟩
    walk_at "rd"
    rcases q with ⟨i, rfl, hi, q⟩ | ⟨h | ⟨n, h⟩, q⟩
    · refine .inl ⟨i, rfl, ?_⟩
      walk_at "rd"
      refine ite2 (fun hc => ?_) (fun hc => ?_)
      · have := of_decide_eq_true hc
        omega
      · walk_at "rd"
        exact q
    · obtain ⟨i, rfl, hi⟩ := h
      refine .inl ⟨i, rfl, ?_⟩
      walk_at "rd"
      refine ite2 (fun hc => ?_) (fun hc => ?_)
      · walk_at "rd"
        exact ⟨rfl, fun d hd => q d hd⟩
      · have := of_ndec hc
        omega
    · refine .inr ⟨n, h, ?_⟩
      walk_at "rd"
      exact ⟨rfl, fun d hd => q d hd⟩
def spR (C : Addr) (sp : Nat → Nat → Hp → VK → Prop) : Sp := fun vs H Q E => ∃ a b : V, vs = [a, b] ∧ ((∃ n c : Nat, (a = .int n ∧ b = .int (c + 1 : Nat)) ∧ n ≤ 120 ∧ c < 120 ∧ sp n c H Q) ∨ ((∃ i, b = .int i ∧ i < 1) ∨ (∃ n, NotInt H b n)) ∧ ∀ d, H d = none → E (.ref C) (some d) (upd H d (.xd (excD ["cells"] "BadCells" [b]))))
def spRounds2 : Nat → Nat → Hp → VK → Prop := fun n c H Q => ∀ r, M11.IsR n (c + 1) r → Q (.int r) H
theorem ok_rounds {f : Addr} {fd : FuncData} (F : Fun K "rounds" "rounds" s_rounds f fd) {f_need_cells : Addr} {fd_need_cells : FuncData} (D_need_cells : Def K mg "need_cells" s_need_cells p_need_cells f_need_cells fd_need_cells) (G_need_cells : FnOk P w K mg base (L2N.CX P w) 3 f_need_cells fd_need_cells p_need_cells (spNeed C_BadCells)) {f_choose : Addr} {fd_choose : FuncData} (D_choose : Def K mg "choose" s_choose p_choose f_choose fd_choose) (G_choose : FnOk P w K mg base CX0 1 f_choose fd_choose p_choose spCh) : FnOk P w K mg base (L2N.CX P w) 4 f fd p_rounds (spR C_BadCells spRounds2) := by
  refine F.okN sc_rounds (fun vs H Q E h => ?_) (fun cdv A outer s H vs Q E hr h => ?_)
  · obtain ⟨a, b, rfl, _⟩ := h
    rfl
  · obtain ⟨a, b, rfl, q⟩ := h
    have passO := passes_of (X := cxOf (L2N.CX P w) P w K mg base N_rounds "rounds" (defScope s_rounds) f cdv A outer s H E) rfl
    have tk := L2N.takes_of (X := cxOf (L2N.CX P w) P w K mg base N_rounds "rounds" (defScope s_rounds) f cdv A outer s H E) rfl rfl rfl rfl
    refine ⟨_, (pss_cons (ps_expr (pe_callS G_need_cells (hr.mono (by first | decide | omega)) rfl D_need_cells.g D_need_cells.fn.kp D_need_cells.b (fun σ => L2N.passAt tk σ) (pa_cons (pv 1) pa_nil)))
      (pss_cons (ps_set (i := 2) sc_rounds.nd rfl (Or.inl rfl) (by exact pe_int))
      (pss_cons (ps_while passO (pt_cmpR op_le (pe_call G_choose (hr.mono (by first | decide | omega)) rfl D_choose.g D_choose.fn.kp D_choose.b .nil pass0 (pa_cons (pe_op op_add (pv 1) (pv 2)) (pa_cons (pv 1) pa_nil))) (pv 0) (nomark _)) (pss_one (ps_aug (i := 2) sc_rounds.nd rfl (Or.inl rfl) pe_int ip_add)))
      (pss_one (ps_ret (by exact (pv 2))))))), ?_⟩
    rcases q with ⟨n', c', ⟨rfl, rfl⟩, hn, hc, q⟩ | ⟨h, q⟩
    · obtain ⟨r, hr⟩ := M11.IsR.ex n' c'
      have q := q r hr
      walk_at "rd"
      refine ⟨by omega, ?_⟩
      walk_at "rd"
      refine ⟨fun m σ H' => ∃ k : Nat, m = r - k ∧ k ≤ r ∧ σ = [some (.int n'), some (.int (c' + 1 : Nat)), some (.int k)] ∧ H' = H, ⟨r, 0, rfl, Nat.zero_le r, rfl, rfl⟩, ?_⟩
      rintro m σ H' ⟨k, rfl, hk, rfl, rfl⟩
      have hrn := hr.le
      walk_at "rd"
      refine ⟨c' + 1 + k, c' + 1, ⟨by omega, rfl⟩, by omega, ?_⟩
      walk_at "rd"
      refine ite2 (fun hc => ?_) (fun hc => ?_)
      · have hle : M11.B (c' + 1) k ≤ n' := by
          have := of_decide_eq_true hc
          unfold M11.B
          omega
        have hlt : k < r := (Nat.lt_or_ge k r).elim id fun z => by
          have h2 := hr.2
          rw [show r = k by omega] at h2
          omega
        refine ⟨fun σ' H'' => ∃ m', m' < r - k ∧ ∃ k : Nat, m' = r - k ∧ k ≤ r ∧ σ' = [some (.int n'), some (.int (c' + 1 : Nat)), some (.int k)] ∧ H'' = H', fun _ _ h => h, ?_⟩
        walk_at "rd"
        exact ⟨r - (k + 1), by omega, k + 1, rfl, hlt, rfl, rfl⟩
      · have hgt := of_ndec hc
        have hkr : k = r := (Nat.lt_or_ge k r).elim (fun z => by
          have h2 := hr.1 k z
          unfold M11.B at h2
          omega) fun z => by omega
        subst hkr
        walk_at "rd"
        exact q
    · walk_at "rd"
      exact .inr ⟨h, q⟩
def spSteps2 : Nat → Nat → Hp → VK → Prop := fun n c H Q => Q (.int (M11.T n (c + 1))) H
theorem ok_least_steps {f : Addr} {fd : FuncData} (F : Fun K "least_steps" "least_steps" s_least_steps f fd) {f_rounds : Addr} {fd_rounds : FuncData} (D_rounds : Def K mg "rounds" s_rounds p_rounds f_rounds fd_rounds) (G_rounds : FnOk P w K mg base (L2N.CX P w) 4 f_rounds fd_rounds p_rounds (spR C_BadCells spRounds2)) {f_choose : Addr} {fd_choose : FuncData} (D_choose : Def K mg "choose" s_choose p_choose f_choose fd_choose) (G_choose : FnOk P w K mg base CX0 1 f_choose fd_choose p_choose spCh) : FnOk P w K mg base (L2N.CX P w) 5 f fd p_least_steps (spR C_BadCells spSteps2) := by
  refine F.okN sc_least_steps (fun vs H Q E h => ?_) (fun cdv A outer s H vs Q E hr h => ?_)
  · obtain ⟨a, b, rfl, _⟩ := h
    rfl
  · obtain ⟨a, b, rfl, q⟩ := h
    have tk := L2N.takes_of (X := cxOf (L2N.CX P w) P w K mg base N_least_steps "least_steps" (defScope s_least_steps) f cdv A outer s H E) rfl rfl rfl rfl
    refine ⟨_, (pss_cons (ps_set (i := 2) sc_least_steps.nd rfl (Or.inl rfl) (by exact (pe_callS G_rounds (hr.mono (by first | decide | omega)) rfl D_rounds.g D_rounds.fn.kp D_rounds.b (fun σ => L2N.passAt tk σ) (pa_cons (pv 0) (pa_cons (pv 1) pa_nil)))))
      (pss_one (ps_ret (by exact (pe_op op_sub (pe_op op_mul (pv 2) (pe_op op_add (pv 0) pe_int)) (pe_call G_choose (hr.mono (by first | decide | omega)) rfl D_choose.g D_choose.fn.kp D_choose.b .nil pass0 (pa_cons (pe_op op_add (pv 1) (pv 2)) (pa_cons (pe_op op_add (pv 1) pe_int) pa_nil)))))))), ?_⟩
    walk_at "rd"
    rcases q with ⟨n', c', ⟨rfl, rfl⟩, hn, hc, q⟩ | ⟨h, q⟩
    · refine .inl ⟨n', c', ⟨rfl, rfl⟩, hn, hc, fun r hr => ?_⟩
      walk_at "rd"
      have hrn := hr.le
      refine ⟨c' + 1 + r, c' + 1 + 1, ⟨by omega, by omega⟩, by omega, ?_⟩
      walk_at "rd"
      have e := M11.IsT.eq ⟨r, hr, rfl⟩
      have q : Q (.int (M11.T n' (c' + 1))) H := q
      rw [← e] at q
      exact q
    · exact .inr ⟨h, q⟩
def spStop2 : Nat → Nat → Hp → VK → Prop := fun n c H Q => 1 ≤ n ∧ ∀ m, M11.IsStop n c m → Q (.int m) H
theorem ok_best_stop {f : Addr} {fd : FuncData} (F : Fun K "best_stop" "best_stop" s_best_stop f fd) {f_need_cells : Addr} {fd_need_cells : FuncData} (D_need_cells : Def K mg "need_cells" s_need_cells p_need_cells f_need_cells fd_need_cells) (G_need_cells : FnOk P w K mg base (L2N.CX P w) 3 f_need_cells fd_need_cells p_need_cells (spNeed C_BadCells)) {f_least_steps : Addr} {fd_least_steps : FuncData} (D_least_steps : Def K mg "least_steps" s_least_steps p_least_steps f_least_steps fd_least_steps) (G_least_steps : FnOk P w K mg base (L2N.CX P w) 5 f_least_steps fd_least_steps p_least_steps (spR C_BadCells spSteps2)) : FnOk P w K mg base (L2N.CX P w) 6 f fd p_best_stop (spR C_BadCells spStop2) := by
  refine F.okN sc_best_stop (fun vs H Q E h => ?_) (fun cdv A outer s H vs Q E hr h => ?_)
  · obtain ⟨a, b, rfl, _⟩ := h
    rfl
  · obtain ⟨a, b, rfl, q⟩ := h
    have passO := passes_of (X := cxOf (L2N.CX P w) P w K mg base N_best_stop "best_stop" (defScope s_best_stop) f cdv A outer s H E) rfl
    have tk := L2N.takes_of (X := cxOf (L2N.CX P w) P w K mg base N_best_stop "best_stop" (defScope s_best_stop) f cdv A outer s H E) rfl rfl rfl rfl
    refine ⟨_, (pss_cons (ps_expr (pe_callS G_need_cells (hr.mono (by first | decide | omega)) rfl D_need_cells.g D_need_cells.fn.kp D_need_cells.b (fun σ => L2N.passAt tk σ) (pa_cons (pv 1) pa_nil)))
      (pss_cons (ps_if (pt_cmpR op_eq (pv 1) pe_int (nomark _)) (pss_one (ps_ret (by exact (pv 0)))) pss_nil)
      (pss_cons (ps_set (i := 2) sc_best_stop.nd rfl (Or.inl rfl) (by exact (pe_callS G_least_steps (hr.mono (by first | decide | omega)) rfl D_least_steps.g D_least_steps.fn.kp D_least_steps.b (fun σ => L2N.passAt tk σ) (pa_cons (pv 0) (pa_cons (pv 1) pa_nil)))))
      (pss_cons (ps_set (i := 3) sc_best_stop.nd rfl (Or.inl rfl) (by exact pe_int))
      (pss_cons (ps_while passO (pt_cmpR op_ne (pe_op op_add (pe_op op_add (pv 3) (pe_callS G_least_steps (hr.mono (by first | decide | omega)) rfl D_least_steps.g D_least_steps.fn.kp D_least_steps.b (fun σ => L2N.passAt tk σ) (pa_cons (pe_op op_sub (pv 0) (pv 3)) (pa_cons (pe_op op_sub (pv 1) pe_int) pa_nil)))) (pe_callS G_least_steps (hr.mono (by first | decide | omega)) rfl D_least_steps.g D_least_steps.fn.kp D_least_steps.b (fun σ => L2N.passAt tk σ) (pa_cons (pe_op op_sub (pv 3) pe_int) (pa_cons (pv 1) pa_nil)))) (pv 2) (nomark _)) (pss_one (ps_aug (i := 3) sc_best_stop.nd rfl (Or.inl rfl) pe_int ip_add)))
      (pss_one (ps_ret (by exact (pv 3))))))))), ?_⟩
    rcases q with ⟨n', c', ⟨rfl, rfl⟩, hn, hc, q⟩ | ⟨h, q⟩
    · obtain ⟨hn1, q⟩ := q
      walk_at "rd"
      refine ⟨by omega, ?_⟩
      walk_at "rd"
      refine ite2 (fun hc => ?_) (fun hc => ?_)
      · obtain rfl : c' = 0 := by
          have := V.int.inj (of_decide_eq_true hc)
          omega
        walk_at "rd"
        exact q n' (M11.stop_1 hn1)
      · have c0 : c' ≠ 0 := fun z => of_ndec hc (by rw [z]; rfl)
        obtain ⟨d, rfl⟩ : ∃ d, c' = d + 1 := ⟨c' - 1, by omega⟩
        walk_at "rd"
        refine .inl ⟨n', d + 1, ⟨rfl, rfl⟩, hn, by assumption, ?_⟩
        walk_at "rd"
        refine ⟨fun m σ H' => ∃ k : Nat, m = n' - k ∧ 1 ≤ k ∧ k ≤ n' ∧ (∀ j, 1 ≤ j → j < k → M11.sm n' (d + 1) j ≠ some (M11.T n' (d + 1 + 1))) ∧ σ = [some (.int n'), some (.int (d + 1 + 1 : Nat)), some (.int (M11.T n' (d + 1 + 1))), some (.int k)] ∧ H' = H, ⟨_, 1, rfl, Nat.le_refl 1, hn1, fun j h1 h2 => by omega, rfl, rfl⟩, ?_⟩
        rintro m σ H' ⟨k, rfl, k1, kn, hk, rfl, rfl⟩
        walk_at "rd"
        refine .inl ⟨n' - k, d, ⟨congrArg V.int (by omega), congrArg V.int (by omega)⟩, by omega, by omega, ?_⟩
        walk_at "rd"
        refine .inl ⟨k - 1, d + 1, ⟨congrArg V.int (by omega), rfl⟩, by omega, by omega, ?_⟩
        walk_at "rd"
        have hs : M11.sm n' (d + 1) k = some ((k : Int) + M11.T (n' - k) (d + 1) + M11.T (k - 1) (d + 1 + 1)) := by
          unfold M11.sm
          rw [if_neg (Nat.succ_ne_zero d)]
        refine ite2 (fun hc => ?_) (fun hc => ?_)
        · have hne : M11.sm n' (d + 1) k ≠ some (M11.T n' (d + 1 + 1)) := by
            rw [hs]
            intro z
            exact of_decide_eq_false (bnot_t hc) (congrArg V.int (Option.some.inj z))
          refine ⟨fun σ' H'' => ∃ m', m' < n' - k ∧ ∃ k : Nat, m' = n' - k ∧ 1 ≤ k ∧ k ≤ n' ∧ (∀ j, 1 ≤ j → j < k → M11.sm n' (d + 1) j ≠ some (M11.T n' (d + 1 + 1))) ∧ σ' = [some (.int n'), some (.int (d + 1 + 1 : Nat)), some (.int (M11.T n' (d + 1 + 1))), some (.int k)] ∧ H'' = H', fun _ _ h => h, ?_⟩
          have all : ∀ j, 1 ≤ j → j ≤ k → M11.sm n' (d + 1) j ≠ some (M11.T n' (d + 1 + 1)) := fun j h1 h2 => (Nat.lt_or_ge j k).elim (hk j h1) fun z => by rw [show j = k by omega]; exact hne
          have hlt := M11.stop_more hn1 all
          walk_at "rd"
          exact ⟨n' - (k + 1), by omega, k + 1, rfl, by omega, hlt, fun j h1 h2 => all j h1 (by omega), rfl, rfl⟩
        · have heq : M11.sm n' (d + 1) k = some (M11.T n' (d + 1 + 1)) := by
            rw [hs]
            exact congrArg some (V.int.inj (of_decide_eq_true (bnot_f hc)))
          walk_at "rd"
          exact q k ⟨k1, kn, heq, hk⟩
    · walk_at "rd"
      exact .inr ⟨h, q⟩
end
end K47

set_option Elab.async false
set_option linter.all false
set_option maxRecDepth 100000
set_option maxHeartbeats 4000000
set_option pp.deepTerms false
set_option pp.deepTerms.threshold 12
namespace K47
open PySem PySem.Spec PyProof.Rows L2
local macro_rules | `(tactic| walk_at "ty") => `(tactic| first | exact .base (.int _) | exact .base (.bl _) | exact .base (.str _) | exact .base .non | assumption | exact .base (.tup (by assumption)) | exact .base (.lst (by assumption)))
local macro_rules | `(tactic| walk_at "cm") => `(tactic| first | exact cm_r (by decide) (by decide) | exact cm_l (by decide) (by decide) | exact cm_fmod (by decide) (by decide) | exact cm_r (by omega) (by omega) | exact cm_l (by omega) (by omega))
local macro_rules | `(tactic| walk_at "dv") => `(tactic| first | exact ⟨by decide, by decide⟩ | exact ⟨by omega, by omega⟩)
local macro_rules | `(tactic| walk_at "r1") => `(tactic| first
  | refine ⟨_, rfl, ?_⟩ | refine ⟨_, _, rfl, rfl, ?_⟩ | refine Or.inl ⟨_, rfl, ?_⟩ | refine Or.inr ⟨_, rfl, ?_⟩
  | refine And.intro (a := CMul _ _) (by walk_at "cm") ?_ | refine And.intro (a := CDivN _ _) (by walk_at "dv") ?_ | refine And.intro (a := _ ≠ (0 : Int)) (by first | decide | omega) ?_ | refine And.intro (a := scal _ _ = true) rfl ?_ | refine ⟨_, _, _, _, rfl, rfl, SqL.of (by first | exact upd_same | assumption), rfl, ?_⟩ | refine ⟨_, _, _, _, rfl, rfl, (by first | exact upd_same | assumption), rfl, ?_⟩ | refine ⟨_, _, rfl, ?_⟩ | refine And.intro (a := (_ : V) = V.non) rfl ?_ | refine And.intro (a := CPow _ _) ⟨by decide, by decide, by decide⟩ ?_ | refine And.intro (a := (_ : List V) = []) rfl ?_ | refine ⟨_, _, rfl, SqT.of (by first | exact upd_same | assumption), rfl, ?_⟩
  | refine ⟨_, _, _, _, rfl, rfl, SqT.of (by first | exact upd_same | assumption), rfl, ?_⟩
  | refine ⟨_, _, _, _, true, rfl, ClsV.ty _, (by walk_at "ty"), kit_ty (by decide +kernel), ?_⟩ | refine ⟨_, _, _, _, false, rfl, ClsV.ty _, (by walk_at "ty"), kit_ty (by decide +kernel), ?_⟩)
local macro_rules | `(tactic| walk_at "rd") => `(tactic| repeat walk_at "r1")
local macro_rules | `(tactic| walk_at "yes") => `(tactic| (change (if true = true then _ else _); rw [if_pos rfl]))
local macro_rules | `(tactic| walk_at "no") => `(tactic| (change (if false = true then _ else _); rw [if_neg Bool.false_ne_true]))
local macro_rules | `(tactic| walk_at "nw") => `(tactic| refine And.intro (a := _ ≤ sizeLine) (sz_le (Nat.le_of_ble_eq_true rfl)) ?_)

section
variable {P : Program} {w : World} {K : PySem.W.Frag} {mg : Str → Option Value} {base : Heap}
variable {C_VaultError C_NumberError C_BadPrime C_BadTable C_BadCells C_ShapeError C_PaperError C_BadMove fV fI_BadMove fI_BadCells fI_BadPrime fI_BadTable : Addr}
variable (T : Txt P K mg C_VaultError C_NumberError C_BadPrime C_BadTable C_BadCells C_ShapeError C_PaperError C_BadMove fV fI_BadMove fI_BadCells fI_BadPrime fI_BadTable)
include T
def flatV : V → Bool
  | .int _ | .bl _ | .str _ | .non => true
  | _ => false
/-- the same data, not deeper than n -/
def SameD (H : Hp) : Nat → V → V → Prop
  | 0, _, _ => False
  | n + 1, x, y => (x = y ∧ flatV x = true) ∨ ∃ (a b : Addr) (xs ys : List V), x = .ref a ∧ y = .ref b ∧ (H a = some (.tup xs) ∧ H b = some (.tup ys) ∨ H a = some (.lst xs) ∧ H b = some (.lst ys)) ∧ xs.length = ys.length ∧ xs.length ≤ 100000 ∧ ∀ (i : Nat) (x y : V), xs[i]? = some x → ys[i]? = some y → SameD H n x y
def spSame : Nat → Sp
  | 0 => fun _ _ _ _ => False
  | n + 1 => fun vs H Q _ => ∃ x y : V, vs = [x, y] ∧ SameD H (n + 1) x y ∧ Q (.bl true) H
omit T in
theorem spSame_of {H : Hp} {n : Nat} {x y : V} {Q : VK} {E : XK} (h : SameD H n x y) (q : Q (.bl true) H) : spSame n [x, y] H Q E := by
  cases n with
  | zero => exact h.elim
  | succ m => exact ⟨x, y, rfl, h, q⟩
theorem ok_same {f : Addr} {fd : FuncData} (F : Fun K "_law_same" "_law_same" s_same f fd) (D_same : Def K mg "_law_same" s_same p_same f fd) : ∀ n, FnOk P w K mg base CX0 n f fd p_same (spSame n)
  | 0 => ⟨fun _ _ _ _ h => h.elim, fun _ _ _ _ _ _ _ _ _ _ _ _ _ h => h.elim⟩
  | n + 1 => by
    have G_same := ok_same F D_same n
    refine F.ok sc_same (fun vs H Q E h => ?_) (fun cdv A outer s H vs Q E hr h => ?_)
    · obtain ⟨a, b, rfl, _⟩ := h
      rfl
    · obtain ⟨x, y, rfl, hS, q⟩ := h
      refine ⟨_, (pss_cons (ps_if (PW.pt (pw_or (pt_cmpR op_isN (pv 0) pe_non (nomark _)) (pw_or1 (pt_cmpR op_isN (pv 1) pe_non (nomark _))))) (pss_one (ps_ret (by exact (pe_and (pe_cmpR op_isN (pv 0) pe_non (nomark _)) (pe_one (pe_cmpR op_isN (pv 1) pe_non (nomark _))))))) pss_nil)
      (pss_cons (ps_if (PW.pt (pw_or (pt_val (pe_callB call_isi (by rfl) T.b_isinstance (by first | exact PySem.boot_isinstance | decide +kernel) (pa_cons (pv 0) (pa_cons (pe_bltn (v := .ty "bool") (by rfl) T.b_bool (by first | exact PySem.boot_bool | decide +kernel) rfl) pa_nil)))) (pw_or1 (pt_val (pe_callB call_isi (by rfl) T.b_isinstance (by first | exact PySem.boot_isinstance | decide +kernel) (pa_cons (pv 1) (pa_cons (pe_bltn (v := .ty "bool") (by rfl) T.b_bool (by first | exact PySem.boot_bool | decide +kernel) rfl) pa_nil))))))) (pss_one (ps_ret (by exact (pe_and (pe_callB call_isi (by rfl) T.b_isinstance (by first | exact PySem.boot_isinstance | decide +kernel) (pa_cons (pv 0) (pa_cons (pe_bltn (v := .ty "bool") (by rfl) T.b_bool (by first | exact PySem.boot_bool | decide +kernel) rfl) pa_nil))) (pe_and (pe_callB call_isi (by rfl) T.b_isinstance (by first | exact PySem.boot_isinstance | decide +kernel) (pa_cons (pv 1) (pa_cons (pe_bltn (v := .ty "bool") (by rfl) T.b_bool (by first | exact PySem.boot_bool | decide +kernel) rfl) pa_nil))) (pe_one (pe_cmpR op_eq (pv 0) (pv 1) (nomark _)))))))) pss_nil)
      (pss_cons (ps_if (PW.pt (pw_or (pt_val (pe_callB call_isi (by rfl) T.b_isinstance (by first | exact PySem.boot_isinstance | decide +kernel) (pa_cons (pv 0) (pa_cons (pe_bltn (v := .ty "int") (by rfl) T.b_int (by first | exact PySem.boot_int | decide +kernel) rfl) pa_nil)))) (pw_or1 (pt_val (pe_callB call_isi (by rfl) T.b_isinstance (by first | exact PySem.boot_isinstance | decide +kernel) (pa_cons (pv 1) (pa_cons (pe_bltn (v := .ty "int") (by rfl) T.b_int (by first | exact PySem.boot_int | decide +kernel) rfl) pa_nil))))))) (pss_one (ps_ret (by exact (pe_and (pe_callB call_isi (by rfl) T.b_isinstance (by first | exact PySem.boot_isinstance | decide +kernel) (pa_cons (pv 0) (pa_cons (pe_bltn (v := .ty "int") (by rfl) T.b_int (by first | exact PySem.boot_int | decide +kernel) rfl) pa_nil))) (pe_and (pe_callB call_isi (by rfl) T.b_isinstance (by first | exact PySem.boot_isinstance | decide +kernel) (pa_cons (pv 1) (pa_cons (pe_bltn (v := .ty "int") (by rfl) T.b_int (by first | exact PySem.boot_int | decide +kernel) rfl) pa_nil))) (pe_one (pe_cmpR op_eq (pv 0) (pv 1) (nomark _)))))))) pss_nil)
      (pss_cons (ps_if (PW.pt (pw_or (pt_val (pe_callB call_isi (by rfl) T.b_isinstance (by first | exact PySem.boot_isinstance | decide +kernel) (pa_cons (pv 0) (pa_cons (pe_bltn (v := .ty "str") (by rfl) T.b_str (by first | exact PySem.boot_str | decide +kernel) rfl) pa_nil)))) (pw_or1 (pt_val (pe_callB call_isi (by rfl) T.b_isinstance (by first | exact PySem.boot_isinstance | decide +kernel) (pa_cons (pv 1) (pa_cons (pe_bltn (v := .ty "str") (by rfl) T.b_str (by first | exact PySem.boot_str | decide +kernel) rfl) pa_nil))))))) (pss_one (ps_ret (by exact (pe_and (pe_callB call_isi (by rfl) T.b_isinstance (by first | exact PySem.boot_isinstance | decide +kernel) (pa_cons (pv 0) (pa_cons (pe_bltn (v := .ty "str") (by rfl) T.b_str (by first | exact PySem.boot_str | decide +kernel) rfl) pa_nil))) (pe_and (pe_callB call_isi (by rfl) T.b_isinstance (by first | exact PySem.boot_isinstance | decide +kernel) (pa_cons (pv 1) (pa_cons (pe_bltn (v := .ty "str") (by rfl) T.b_str (by first | exact PySem.boot_str | decide +kernel) rfl) pa_nil))) (pe_one (pe_cmpR op_eq (pv 0) (pv 1) (nomark _)))))))) pss_nil)
      (pss_cons (ps_if (PW.pt (pw_or (pt_val (pe_callB call_isi (by rfl) T.b_isinstance (by first | exact PySem.boot_isinstance | decide +kernel) (pa_cons (pv 0) (pa_cons (pe_bltn (v := .ty "dict") (by rfl) T.b_dict (by first | exact PySem.boot_dict | decide +kernel) rfl) pa_nil)))) (pw_or1 (pt_val (pe_callB call_isi (by rfl) T.b_isinstance (by first | exact PySem.boot_isinstance | decide +kernel) (pa_cons (pv 1) (pa_cons (pe_bltn (v := .ty "dict") (by rfl) T.b_dict (by first | exact PySem.boot_dict | decide +kernel) rfl) pa_nil))))))) (pss_cons (ps_if (PW.pt (pw_or (pt_not (pt_val (pe_callB call_isi (by rfl) T.b_isinstance (by first | exact PySem.boot_isinstance | decide +kernel) (pa_cons (pv 0) (pa_cons (pe_bltn (v := .ty "dict") (by rfl) T.b_dict (by first | exact PySem.boot_dict | decide +kernel) rfl) pa_nil))))) (pw_or (pt_not (pt_val (pe_callB call_isi (by rfl) T.b_isinstance (by first | exact PySem.boot_isinstance | decide +kernel) (pa_cons (pv 1) (pa_cons (pe_bltn (v := .ty "dict") (by rfl) T.b_dict (by first | exact PySem.boot_dict | decide +kernel) rfl) pa_nil))))) (pw_or1 (pt_cmpR op_ne (pe_callB call_len_seq (by rfl) T.b_len (by first | exact PySem.boot_len | decide +kernel) (pa_cons (pv 0) pa_nil)) (pe_callB call_len_seq (by rfl) T.b_len (by first | exact PySem.boot_len | decide +kernel) (pa_cons (pv 1) pa_nil)) (nomark _)))))) (pss_one (ps_ret (by exact pe_bl))) pss_nil)
          (pss_cons (ps_for PassesOwn.never rfl (pi_list (pv 0)) (pg_name (i := 2) sc_same.nd rfl (Or.inl rfl)) (pss_one (ps_if (PW.pt (pw_or (pt_cmp (pc_dnotin (hu_of hr) (pv 2) (pv 1))) (pw_or1 (pt_not (pt_val (pe_call G_same hr rfl D_same.g D_same.fn.kp D_same.b .nil pass0 (pa_cons (pe_ix ix_list (pv 0) (pv 2) (fun _ _ => rfl)) (pa_cons (pe_ix ix_list (pv 1) (pv 2) (fun _ _ => rfl)) pa_nil)))))))) (pss_one (ps_ret (by exact pe_bl))) pss_nil)))
          (pss_one (ps_ret (by exact pe_bl))))) pss_nil)
      (pss_cons (ps_set (i := 3) sc_same.nd rfl (Or.inl rfl) (by exact (pe_and (pe_callB call_isi (by rfl) T.b_isinstance (by first | exact PySem.boot_isinstance | decide +kernel) (pa_cons (pv 0) (pa_cons (pe_bltn (v := .ty "list") (by rfl) T.b_list (by first | exact PySem.boot_list | decide +kernel) rfl) pa_nil))) (pe_one (pe_callB call_isi (by rfl) T.b_isinstance (by first | exact PySem.boot_isinstance | decide +kernel) (pa_cons (pv 1) (pa_cons (pe_bltn (v := .ty "list") (by rfl) T.b_list (by first | exact PySem.boot_list | decide +kernel) rfl) pa_nil)))))))
      (pss_cons (ps_set (i := 4) sc_same.nd rfl (Or.inl rfl) (by exact (pe_and (pe_callB call_isi (by rfl) T.b_isinstance (by first | exact PySem.boot_isinstance | decide +kernel) (pa_cons (pv 0) (pa_cons (pe_bltn (v := .ty "tuple") (by rfl) T.b_tuple (by first | exact PySem.boot_tuple | decide +kernel) rfl) pa_nil))) (pe_one (pe_callB call_isi (by rfl) T.b_isinstance (by first | exact PySem.boot_isinstance | decide +kernel) (pa_cons (pv 1) (pa_cons (pe_bltn (v := .ty "tuple") (by rfl) T.b_tuple (by first | exact PySem.boot_tuple | decide +kernel) rfl) pa_nil)))))))
      (pss_cons (ps_if (PW.pt (pw_or (PW.pt (pw_and (pt_not (pt_val (pv 3))) (pw_and1 (pt_not (pt_val (pv 4)))))) (pw_or1 (pt_cmpR op_ne (pe_callB call_len_seq (by rfl) T.b_len (by first | exact PySem.boot_len | decide +kernel) (pa_cons (pv 0) pa_nil)) (pe_callB call_len_seq (by rfl) T.b_len (by first | exact PySem.boot_len | decide +kernel) (pa_cons (pv 1) pa_nil)) (nomark _))))) (pss_one (ps_ret (by exact pe_bl))) pss_nil)
      (pss_cons (ps_for PassesOwn.never rfl (pi_range1 (by rfl) T.b_range (pa_cons (pe_callB call_len_seq (by rfl) T.b_len (by first | exact PySem.boot_len | decide +kernel) (pa_cons (pv 0) pa_nil)) pa_nil)) (pg_name (i := 5) sc_same.nd rfl (Or.inl rfl)) (pss_one (ps_if (pt_not (pt_val (pe_call G_same hr rfl D_same.g D_same.fn.kp D_same.b .nil pass0 (pa_cons (pe_ix ix_seq (pv 0) (pv 5) (fun _ _ => rfl)) (pa_cons (pe_ix ix_seq (pv 1) (pv 5) (fun _ _ => rfl)) pa_nil))))) (pss_one (ps_ret (by exact pe_bl))) pss_nil)))
      (pss_one (ps_ret (by exact pe_bl)))))))))))), ?_⟩
      rcases hS with ⟨rfl, hf⟩ | ⟨a, b, xs, ys, rfl, rfl, hab, hl, hz, hd⟩
      · cases x <;> try (exact absurd hf Bool.false_ne_true)
        all_goals walk_at "rd"
        all_goals first | exact q | (rw [decide_eq_true rfl]; exact q)
      · rcases hab with ⟨ha, hb⟩ | ⟨ha, hb⟩
        · walk_at "rd"
          refine ⟨a, xs, rfl, .inr (SqT.of ha), ?_⟩
          walk_at "rd"
          refine ⟨b, ys, rfl, .inr (SqT.of hb), ?_⟩
          walk_at "rd"
          refine ite2 (fun hc => absurd (congrArg (fun k : Nat => V.int k) hl) (of_decide_eq_false (bnot_t hc))) (fun hc => ?_)
          walk_at "rd"
          refine ⟨a, xs, rfl, .inr (SqT.of ha), ?_⟩
          walk_at "rd"
          refine ⟨by omega, by omega, ?_⟩
          have hsz : ((xs.length : Nat) : Int).toNat = xs.length := by omega
          rw [hsz]
          refine for_range (fun i σ H' => ∃ v : Option V, σ = [some (.ref a), some (.ref b), none, some (.bl false), some (.bl true), v] ∧ H' = H) ⟨none, rfl, rfl⟩ ?_ ?_
          · rintro i σ H' hi ⟨v, rfl, rfl⟩
            have hj : i < ys.length := by omega
            have e0 : (0 : Int) + (i : Int) = i := Int.zero_add _
            walk_at "rd"
            refine .inr (.inl ⟨a, xs, 0 + (i : Int), xs[i], rfl, rfl, SqT.of ha, by rw [e0]; exact atI_nat (List.getElem?_eq_getElem hi), ?_⟩)
            walk_at "rd"
            refine .inr (.inl ⟨b, ys, 0 + (i : Int), ys[i], rfl, rfl, SqT.of hb, by rw [e0]; exact atI_nat (List.getElem?_eq_getElem hj), ?_⟩)
            refine spSame_of (hd i _ _ (List.getElem?_eq_getElem hi) (List.getElem?_eq_getElem hj)) ?_
            walk_at "rd"
            rfl
          · rintro σ H' ⟨v, rfl, rfl⟩
            walk_at "rd"
            exact q
        · walk_at "rd"
          refine ⟨a, xs, rfl, .inl (SqL.of ha), ?_⟩
          walk_at "rd"
          refine ⟨b, ys, rfl, .inl (SqL.of hb), ?_⟩
          walk_at "rd"
          refine ite2 (fun hc => absurd (congrArg (fun k : Nat => V.int k) hl) (of_decide_eq_false (bnot_t hc))) (fun hc => ?_)
          walk_at "rd"
          refine ⟨a, xs, rfl, .inl (SqL.of ha), ?_⟩
          walk_at "rd"
          refine ⟨by omega, by omega, ?_⟩
          have hsz : ((xs.length : Nat) : Int).toNat = xs.length := by omega
          rw [hsz]
          refine for_range (fun i σ H' => ∃ v : Option V, σ = [some (.ref a), some (.ref b), none, some (.bl true), some (.bl false), v] ∧ H' = H) ⟨none, rfl, rfl⟩ ?_ ?_
          · rintro i σ H' hi ⟨v, rfl, rfl⟩
            have hj : i < ys.length := by omega
            have e0 : (0 : Int) + (i : Int) = i := Int.zero_add _
            walk_at "rd"
            refine (.inl ⟨a, xs, 0 + (i : Int), xs[i], rfl, rfl, SqL.of ha, by rw [e0]; exact atI_nat (List.getElem?_eq_getElem hi), ?_⟩)
            walk_at "rd"
            refine (.inl ⟨b, ys, 0 + (i : Int), ys[i], rfl, rfl, SqL.of hb, by rw [e0]; exact atI_nat (List.getElem?_eq_getElem hj), ?_⟩)
            refine spSame_of (hd i _ _ (List.getElem?_eq_getElem hi) (List.getElem?_eq_getElem hj)) ?_
            walk_at "rd"
            rfl
          · rintro σ H' ⟨v, rfl, rfl⟩
            walk_at "rd"
            exact q
/-- what is no count of cells -/
inductive BadV (st : Addr) (H : Hp) : V → Prop
  | int (i : Int) (h : i < 1) : BadV st H (.int i)
  | bl (b : Bool) : BadV st H (.bl b)
  | non : BadV st H .non
  | str (s : Str) : BadV st H (.str s)
  | tup (a : Addr) (n : a ≠ st) (h : H a = some (.tup [.int 1])) : BadV st H (.ref a)
  | lst (a : Addr) (n : a ≠ st) (h : H a = some (.lst [.int 1])) : BadV st H (.ref a)
omit T in
theorem BadV.keep {st : Addr} {H H' : Hp} {v : V} (b : BadV st H v) (h : ButS st H H') : BadV st H' v := by
  cases b with
  | int i q => exact .int i q
  | bl b => exact .bl b
  | non => exact .non
  | str s => exact .str s
  | tup a n e => exact .tup a n (h.1 _ _ n e)
  | lst a n e => exact .lst a n (h.1 _ _ n e)
omit T in
theorem BadV.cells {st : Addr} {H : Hp} {v : V} (b : BadV st H v) : (∃ i, v = .int i ∧ i < 1) ∨ (∃ n, NotInt H v n) := by
  cases b with
  | int i q => exact .inl ⟨i, rfl, q⟩
  | bl b => exact .inr ⟨_, .bl b⟩
  | non => exact .inr ⟨_, .non⟩
  | str s => exact .inr ⟨_, .str s⟩
  | tup a n e => exact .inr ⟨_, .tup a _ e⟩
  | lst a n e => exact .inr ⟨_, .lst a _ e⟩
omit T in
theorem SameD.flat {H : Hp} {n : Nat} {x : V} (h : flatV x = true) : SameD H (n + 1) x x := .inl ⟨rfl, h⟩
omit T in
theorem SameD.all {H : Hp} {n : Nat} {xs ys : List V} (h : Paired (SameD H n) xs ys) : ∀ (i : Nat) (x y : V), xs[i]? = some x → ys[i]? = some y → SameD H n x y := by
  induction h with
  | nil => intro i x y e; cases e
  | cons a k ih =>
    intro i x y e1 e2
    cases i with
    | zero => cases e1; cases e2; exact a
    | succ i => exact ih i x y e1 e2
omit T in
theorem SameD.tup {H : Hp} {n : Nat} {a b : Addr} {xs ys : List V} (ha : H a = some (.tup xs)) (hb : H b = some (.tup ys)) (hz : xs.length ≤ 100000) (h : Paired (SameD H n) xs ys) : SameD H (n + 1) (.ref a) (.ref b) :=
  .inr ⟨a, b, xs, ys, rfl, rfl, .inl ⟨ha, hb⟩, h.length, hz, SameD.all h⟩
omit T in
theorem SameD.lst {H : Hp} {n : Nat} {a b : Addr} {xs ys : List V} (ha : H a = some (.lst xs)) (hb : H b = some (.lst ys)) (hz : xs.length ≤ 100000) (h : Paired (SameD H n) xs ys) : SameD H (n + 1) (.ref a) (.ref b) :=
  .inr ⟨a, b, xs, ys, rfl, rfl, .inr ⟨ha, hb⟩, h.length, hz, SameD.all h⟩
omit T in
theorem BadV.same {st : Addr} {H : Hp} {v : V} (b : BadV st H v) (n : Nat) : SameD H (n + 2) v v := by
  cases b with
  | int i q => exact .flat rfl
  | bl b => exact .flat rfl
  | non => exact .flat rfl
  | str s => exact .flat rfl
  | tup a m e => exact .tup e e (by decide) (.cons (.flat rfl) .nil)
  | lst a m e => exact .lst e e (by decide) (.cons (.flat rfl) .nil)
def spBad : Sp := fun vs H Q _ => ∃ st : Addr, vs = [.ref st] ∧ Store H st ∧ ∀ v H', BadV st H' v → Store H' st → ButS st H H' → Q v H'
theorem ok_badcells {f : Addr} {fd : FuncData} (F : Fun K "_law_badcells" "_law_badcells" s_badcells f fd) {f_pick : Addr} {fd_pick : FuncData} (D_pick : Def K mg "_law_pick" s_pick p_pick f_pick fd_pick) (G_pick : FnOk P w K mg base CX0 3 f_pick fd_pick p_pick spPick) : FnOk P w K mg base CX0 4 f fd p_badcells spBad := by
  refine F.ok sc_badcells (fun vs H Q E h => ?_) (fun cdv A outer s H vs Q E hr h => ?_)
  · obtain ⟨a, rfl, _⟩ := h
    rfl
  · obtain ⟨st, rfl, S, q⟩ := h
    refine ⟨_, (pss_one (ps_ret (by exact (pe_call G_pick (hr.mono (by first | decide | omega)) rfl D_pick.g D_pick.fn.kp D_pick.b .nil pass0 (pa_cons (pv 0) (pa_cons (pe_lst (pa_cons pe_int (pa_cons (pe_op op_sub pe_int pe_int) (pa_cons pe_bl (pa_cons pe_bl (pa_cons pe_non (pa_cons pe_str (pa_cons (pe_tup (pa_cons pe_int pa_nil)) (pa_cons (pe_lst (pa_cons pe_int pa_nil)) (pa_cons pe_str (pa_cons (pe_op op_sub pe_int (pe_op op_pow pe_int pe_int)) pa_nil))))))))))) pa_nil)))))), ?_⟩
    walk_at "rd"
    walk_at "nw"
    intro p1 h1
    walk_at "rd"
    walk_at "nw"
    intro p2 h2
    walk_at "rd"
    walk_at "nw"
    intro l hl
    walk_at "rd"
    have s1 : Same H (upd H p1 (.tup [.int 1])) := same_new h1
    obtain ⟨u, hu⟩ := S.some
    refine ⟨st, l, _, rfl, upd_same, (ne_of_none (same_new h2 _ _ (s1 _ _ hu)) hl).symm, Nat.le_of_ble_eq_true rfl, Nat.le_of_ble_eq_true rfl, S.keep ((s1.trans (same_new h2)).trans (same_new hl)), fun v H' hv S' b => ?_⟩
    have c : ButS st H H' := (ButS.of ((s1.trans (same_new h2)).trans (same_new hl))).trans b
    refine q v H' ?_ S' c
    have n1 : p1 ≠ st := (ne_of_none hu h1).symm
    have n2 : p2 ≠ st := (ne_of_none (s1 _ _ hu) h2).symm
    have e1 : H' p1 = some (.tup [.int 1]) := b.1 _ _ n1 (same_new hl _ _ (same_new h2 _ _ upd_same))
    have e2 : H' p2 = some (.lst [.int 1]) := b.1 _ _ n2 (same_new hl _ _ upd_same)
    simp only [List.mem_cons, List.mem_nil_iff, or_false] at hv
    rcases hv with rfl | rfl | rfl | rfl | rfl | rfl | rfl | rfl | rfl | rfl
    · exact .int _ (by decide)
    · exact .int _ (by decide)
    · exact .bl _
    · exact .bl _
    · exact .non
    · exact .str _
    · exact .tup _ n1 e1
    · exact .lst _ n2 e2
    · exact .str _
    · exact .int _ (by decide)
end
end K47

set_option Elab.async false
set_option linter.all false
set_option maxRecDepth 100000
set_option maxHeartbeats 4000000
set_option pp.deepTerms false
set_option pp.deepTerms.threshold 12
namespace K47
open PySem PySem.Spec PyProof.Rows L2
local macro_rules | `(tactic| walk_at "ty") => `(tactic| first | exact .base (.int _) | exact .base (.bl _) | exact .base (.str _) | exact .base .non | assumption | exact .base (.tup (by assumption)) | exact .base (.lst (by assumption)))
local macro_rules | `(tactic| walk_at "cm") => `(tactic| first | exact cm_r (by decide) (by decide) | exact cm_l (by decide) (by decide) | exact cm_fmod (by decide) (by decide) | exact cm_r (by omega) (by omega) | exact cm_l (by omega) (by omega))
local macro_rules | `(tactic| walk_at "dv") => `(tactic| first | exact ⟨by decide, by decide⟩ | exact ⟨by omega, by omega⟩)
local macro_rules | `(tactic| walk_at "r1") => `(tactic| first
  | refine ⟨_, rfl, ?_⟩ | refine ⟨_, _, rfl, rfl, ?_⟩ | refine Or.inl ⟨_, rfl, ?_⟩ | refine Or.inr ⟨_, rfl, ?_⟩
  | refine And.intro (a := CMul _ _) (by walk_at "cm") ?_ | refine And.intro (a := CDivN _ _) (by walk_at "dv") ?_ | refine And.intro (a := _ ≠ (0 : Int)) (by first | decide | omega) ?_ | refine And.intro (a := scal _ _ = true) rfl ?_ | refine ⟨_, _, _, _, rfl, rfl, SqL.of (by first | exact upd_same | assumption), rfl, ?_⟩ | refine ⟨_, _, _, _, rfl, rfl, (by first | exact upd_same | assumption), rfl, ?_⟩ | refine ⟨_, _, rfl, ?_⟩ | refine And.intro (a := (_ : V) = V.non) rfl ?_ | refine And.intro (a := CPow _ _) ⟨by decide, by decide, by decide⟩ ?_ | refine And.intro (a := (_ : List V) = []) rfl ?_ | refine ⟨_, _, rfl, SqT.of (by first | exact upd_same | assumption), rfl, ?_⟩
  | refine ⟨_, _, _, _, rfl, rfl, SqT.of (by first | exact upd_same | assumption), rfl, ?_⟩
  | refine ⟨_, _, _, _, true, rfl, ClsV.ty _, (by walk_at "ty"), kit_ty (by decide +kernel), ?_⟩ | refine ⟨_, _, _, _, false, rfl, ClsV.ty _, (by walk_at "ty"), kit_ty (by decide +kernel), ?_⟩)
local macro_rules | `(tactic| walk_at "rd") => `(tactic| repeat walk_at "r1")
local macro_rules | `(tactic| walk_at "yes") => `(tactic| (change (if true = true then _ else _); rw [if_pos rfl]))
local macro_rules | `(tactic| walk_at "no") => `(tactic| (change (if false = true then _ else _); rw [if_neg Bool.false_ne_true]))
local macro_rules | `(tactic| walk_at "nw") => `(tactic| refine And.intro (a := _ ≤ sizeLine) (sz_le (Nat.le_of_ble_eq_true rfl)) ?_)

section
variable {P : Program} {w : World} {K : PySem.W.Frag} {mg : Str → Option Value} {base : Heap}
variable {C_VaultError C_NumberError C_BadPrime C_BadTable C_BadCells C_ShapeError C_PaperError C_BadMove fV fI_BadMove fI_BadCells fI_BadPrime fI_BadTable : Addr}
variable (T : Txt P K mg C_VaultError C_NumberError C_BadPrime C_BadTable C_BadCells C_ShapeError C_PaperError C_BadMove fV fI_BadMove fI_BadCells fI_BadPrime fI_BadTable)
include T
inductive Mv
  | up (a b : Int)
  | read (a : Int)
  | bad
/-- the value v is written as the move m; bad: as no move of any cells -/
inductive IsM (H : Hp) : V → Mv → Prop
  | up (t : Addr) (a b : Int) (h : H t = some (.tup [.str "up", .int a, .int b])) : IsM H (.ref t) (.up a b)
  | read (t : Addr) (a : Int) (h : H t = some (.tup [.str "read", .int a])) : IsM H (.ref t) (.read a)
  | flat (v : V) (h : flatV v = true) : IsM H v .bad
  | lst (a : Addr) (xs : List V) (h : H a = some (.lst xs)) : IsM H (.ref a) .bad
  | nil (t : Addr) (h : H t = some (.tup [])) : IsM H (.ref t) .bad
  | tup (t : Addr) (w : Str) (rest : List V) (h : H t = some (.tup (.str w :: rest))) (fl : ∀ x ∈ rest, flatV x = true) (h1 : w = "up" → ∀ a b, rest ≠ [.int a, .int b]) (h2 : w = "read" → ∀ a, rest ≠ [.int a]) : IsM H (.ref t) .bad
omit T in
theorem flat_int {H : Hp} {v : V} (h : flatV v = true) : (∃ i, v = .int i) ∨ ∃ n, NotInt H v n := by
  cases v with
  | int i => exact .inl ⟨i, rfl⟩
  | bl b => exact .inr ⟨_, .bl b⟩
  | non => exact .inr ⟨_, .non⟩
  | str s => exact .inr ⟨_, .str s⟩
  | _ => cases h
/-- the move's numbers are in range -/
def okM (c : Int) : Mv → Prop
  | .up a b => (0 ≤ a ∧ a ≤ c) ∧ 1 ≤ b ∧ b ≤ c
  | .read a => 1 ≤ a ∧ a ≤ c
  | .bad => False
def spIsM : Sp := fun vs H Q _ => ∃ (v : V) (c : Int), vs = [v, .int c] ∧ ∃ m, IsM H v m ∧ ∀ b : Bool, (b = true ↔ okM c m) → Q (.bl b) H
theorem ok_is_move {f : Addr} {fd : FuncData} (F : Fun K "_is_move" "_is_move" s_is_move f fd) {f_lies_within : Addr} {fd_lies_within : FuncData} (D_lies_within : Def K mg "lies_within" s_lies_within p_lies_within f_lies_within fd_lies_within) (G_lies_within : FnOk P w K mg base CX0 2 f_lies_within fd_lies_within p_lies_within spWithin) : FnOk P w K mg base CX0 3 f fd p_is_move spIsM := by
  refine F.ok sc_is_move (fun vs H Q E h => ?_) (fun cdv A outer s H vs Q E hr h => ?_)
  · obtain ⟨v, c, rfl, _⟩ := h
    rfl
  · obtain ⟨v, c, rfl, m, hm, q⟩ := h
    refine ⟨_, (pss_cons (ps_if (pt_not (pt_val (pe_callB call_isi (by rfl) T.b_isinstance (by first | exact PySem.boot_isinstance | decide +kernel) (pa_cons (pv 0) (pa_cons (pe_bltn (v := .ty "tuple") (by rfl) T.b_tuple (by first | exact PySem.boot_tuple | decide +kernel) rfl) pa_nil))))) (pss_one (ps_ret (by exact pe_bl))) pss_nil)
      (pss_cons (ps_if (PW.pt (pw_and (pt_cmpR op_eq (pe_callB call_len_seq (by rfl) T.b_len (by first | exact PySem.boot_len | decide +kernel) (pa_cons (pv 0) pa_nil)) pe_int (nomark _)) (pw_and1 (pt_cmpR op_eq (pe_ix ix_tup (pv 0) pe_int (fun _ _ => rfl)) pe_str (nomark _))))) (pss_one (ps_ret (by exact (pe_and (pe_call G_lies_within (hr.mono (by first | decide | omega)) rfl D_lies_within.g D_lies_within.fn.kp D_lies_within.b .nil pass0 (pa_cons (pe_ix ix_tup (pv 0) pe_int (fun _ _ => rfl)) (pa_cons pe_int (pa_cons (pv 1) pa_nil)))) (pe_one (pe_call G_lies_within (hr.mono (by first | decide | omega)) rfl D_lies_within.g D_lies_within.fn.kp D_lies_within.b .nil pass0 (pa_cons (pe_ix ix_tup (pv 0) pe_int (fun _ _ => rfl)) (pa_cons pe_int (pa_cons (pv 1) pa_nil))))))))) pss_nil)
      (pss_one (ps_ret (by exact (pe_and (pe_cmpR op_eq (pe_callB call_len_seq (by rfl) T.b_len (by first | exact PySem.boot_len | decide +kernel) (pa_cons (pv 0) pa_nil)) pe_int (nomark _)) (pe_and (pe_cmpR op_eq (pe_ix ix_tup (pv 0) pe_int (fun _ _ => rfl)) pe_str (nomark _)) (pe_one (pe_call G_lies_within (hr.mono (by first | decide | omega)) rfl D_lies_within.g D_lies_within.fn.kp D_lies_within.b .nil pass0 (pa_cons (pe_ix ix_tup (pv 0) pe_int (fun _ _ => rfl)) (pa_cons pe_int (pa_cons (pv 1) pa_nil)))))))))))), ?_⟩
    have no : Q (.bl false) H → True := fun _ => trivial
    cases hm with
    | up t a b h =>
      walk_at "rd"
      refine ⟨t, _, rfl, .inr (SqT.of h), ?_⟩
      walk_at "rd"
      refine ⟨_, _, _, rfl, .inl ⟨a, rfl, fun c1 k1 => ?_⟩⟩
      cases c1 with
      | false =>
        walk_at "rd"
        exact q false ⟨fun z => (nomatch z), fun z => absurd (k1.mpr z.1) Bool.false_ne_true⟩
      | true =>
        walk_at "rd"
        refine ⟨_, _, _, rfl, .inl ⟨b, rfl, fun c2 k2 => ?_⟩⟩
        exact q c2 ⟨fun z => ⟨k1.mp rfl, k2.mp z⟩, fun z => k2.mpr z.2⟩
    | read t a h =>
      walk_at "rd"
      refine ⟨t, _, rfl, .inr (SqT.of h), ?_⟩
      walk_at "rd"
      refine ⟨t, _, rfl, .inr (SqT.of h), ?_⟩
      walk_at "rd"
      refine ⟨_, _, _, rfl, .inl ⟨a, rfl, fun c2 k2 => ?_⟩⟩
      exact q c2 ⟨fun z => k2.mp z, fun z => k2.mpr z⟩
    | flat v h =>
      cases v <;> first | (exact absurd h Bool.false_ne_true) | (walk_at "rd"; exact q false ⟨fun z => (nomatch z), fun z => z.elim⟩)
    | lst a xs h =>
      walk_at "rd"
      exact q false ⟨fun z => (nomatch z), fun z => z.elim⟩
    | nil t h =>
      walk_at "rd"
      refine ⟨t, _, rfl, .inr (SqT.of h), ?_⟩
      walk_at "rd"
      refine ⟨t, _, rfl, .inr (SqT.of h), ?_⟩
      walk_at "rd"
      exact q false ⟨fun z => (nomatch z), fun z => z.elim⟩
    | tup t w rest h fl h1 h2 =>
      have nob : Q (.bl false) H := q false ⟨fun z => (nomatch z), fun z => z.elim⟩
      walk_at "rd"
      refine ⟨t, _, rfl, .inr (SqT.of h), ?_⟩
      rcases rest with _ | ⟨x, _ | ⟨y, _ | ⟨z, zs⟩⟩⟩
      · walk_at "rd"
        refine ⟨t, _, rfl, .inr (SqT.of h), ?_⟩
        walk_at "rd"
        exact nob
      · walk_at "rd"
        refine ⟨t, _, rfl, .inr (SqT.of h), ?_⟩
        walk_at "rd"
        refine ite2 (fun hc => ?_) (fun hc => nob)
        have hw := V.str.inj (of_decide_eq_true hc)
        walk_at "rd"
        refine ⟨_, _, _, rfl, ?_⟩
        rcases flat_int (H := H) (fl x List.mem_cons_self) with ⟨i, rfl⟩ | ⟨n, hn⟩
        · exact absurd rfl (h2 hw i)
        · exact .inr ⟨n, hn, nob⟩
      · walk_at "rd"
        refine ite2 (fun hc => ?_) (fun hc => ?_)
        · have hw := V.str.inj (of_decide_eq_true hc)
          walk_at "rd"
          refine ⟨_, _, _, rfl, ?_⟩
          rcases flat_int (H := H) (fl x List.mem_cons_self) with ⟨i, rfl⟩ | ⟨n, hn⟩
          · refine .inl ⟨i, rfl, fun c1 k1 => ?_⟩
            cases c1 with
            | false =>
              walk_at "rd"
              exact nob
            | true =>
              walk_at "rd"
              refine ⟨_, _, _, rfl, ?_⟩
              rcases flat_int (H := H) (fl y (List.mem_cons_of_mem _ List.mem_cons_self)) with ⟨j, rfl⟩ | ⟨n, hn⟩
              · exact absurd rfl (h1 hw i j)
              · exact .inr ⟨n, hn, nob⟩
          · refine .inr ⟨n, hn, ?_⟩
            walk_at "rd"
            exact nob
        · walk_at "rd"
          refine ⟨t, _, rfl, .inr (SqT.of h), ?_⟩
          walk_at "rd"
          exact nob
      · walk_at "rd"
        refine ⟨t, _, rfl, .inr (SqT.of h), ?_⟩
        walk_at "rd"
        exact nob
def okT (c : Int) (w : Str) (rest : List V) : Prop := (w = "up" ∧ ∃ a b, rest = [.int a, .int b] ∧ okM c (.up a b)) ∨ (w = "read" ∧ ∃ a, rest = [.int a] ∧ okM c (.read a))
omit T in
theorem IsM.kinds {H : Hp} {v : V} {m : Mv} (h : IsM H v m) : ((flatV v = true ∨ (∃ a xs, v = .ref a ∧ H a = some (.lst xs)) ∨ ∃ a, v = .ref a ∧ H a = some (.tup [])) ∧ m = .bad) ∨
    ∃ t w rest, v = .ref t ∧ H t = some (.tup (.str w :: rest)) ∧ (∀ x ∈ rest, flatV x = true) ∧ ∀ c, okM c m ↔ okT c w rest := by
  cases h with
  | up t a b h =>
    refine .inr ⟨t, _, _, rfl, h, fun x hx => ?_, fun c => ⟨fun z => .inl ⟨rfl, a, b, rfl, z⟩, fun z => ?_⟩⟩
    · simp only [List.mem_cons, List.mem_nil_iff, or_false] at hx
      rcases hx with rfl | rfl <;> rfl
    · rcases z with ⟨_, a', b', e, z⟩ | ⟨e, _⟩
      · injection e with e1 e2
        injection e2 with e2 _
        cases V.int.inj e1
        cases V.int.inj e2
        exact z
      · exact absurd e (by decide)
  | read t a h =>
    refine .inr ⟨t, _, _, rfl, h, fun x hx => ?_, fun c => ⟨fun z => .inr ⟨rfl, a, rfl, z⟩, fun z => ?_⟩⟩
    · simp only [List.mem_cons, List.mem_nil_iff, or_false] at hx
      rw [hx]
      rfl
    · rcases z with ⟨e, _⟩ | ⟨_, a', e, z⟩
      · exact absurd e (by decide)
      · injection e with e1 _
        cases V.int.inj e1
        exact z
  | flat v h => exact .inl ⟨.inl h, rfl⟩
  | lst a xs h => exact .inl ⟨.inr (.inl ⟨a, xs, rfl, h⟩), rfl⟩
  | nil t h => exact .inl ⟨.inr (.inr ⟨t, rfl, h⟩), rfl⟩
  | tup t w rest h fl h1 h2 =>
    refine .inr ⟨t, w, rest, rfl, h, fl, fun c => ⟨fun z => z.elim, fun z => ?_⟩⟩
    rcases z with ⟨e, a, b, e2, _⟩ | ⟨e, a, e2, _⟩
    · exact absurd e2 (h1 e a b)
    · exact absurd e2 (h2 e a)
omit T in
theorem cut1 (x : V) (xs : List V) : cutV (x :: xs) (some 1) none = xs := by
  unfold cutV
  rw [show (some (1 : Int)) = some ((1 : Nat) : Int) from rfl, HT.sIx_nat, HT.sIx_none]
  have e : min 1 (x :: xs).length = 1 := by rw [List.length_cons]; omega
  rw [e]
  show List.take ((xs.length + 1) - 1) xs = xs
  rw [Nat.add_sub_cancel, List.take_length]
omit T in
theorem at0 (x : V) (xs : List V) : atI (x :: xs) 0 = some x := atI_nat (xs := x :: xs) (j := 0) (v := x) rfl
def spShape : Sp := fun vs H Q _ => ∃ (v : V) (c : Int), vs = [v, .int c] ∧ ∃ m, IsM H v m ∧ ∀ b : Bool, (b = true ↔ okM c m) → ∀ H', Same H H' → Q (.bl b) H'
theorem ok_moveshape {f : Addr} {fd : FuncData} (F : Fun K "_law_moveshape" "_law_moveshape" s_moveshape f fd) {f_isint : Addr} {fd_isint : FuncData} (D_isint : Def K mg "_law_isint" s_isint p_isint f_isint fd_isint) (G_isint : FnOk P w K mg base CX0 1 f_isint fd_isint p_isint spWhole) : FnOk P w K mg base CX0 2 f fd p_moveshape spShape := by
  refine F.ok sc_moveshape (fun vs H Q E h => ?_) (fun cdv A outer s H vs Q E hr h => ?_)
  · obtain ⟨v, c, rfl, _⟩ := h
    rfl
  · obtain ⟨v, c, rfl, m, hm, q⟩ := h
    refine ⟨_, (pss_cons (ps_if (PW.pt (pw_or (pt_not (pt_val (pe_callB call_isi (by rfl) T.b_isinstance (by first | exact PySem.boot_isinstance | decide +kernel) (pa_cons (pv 0) (pa_cons (pe_bltn (v := .ty "tuple") (by rfl) T.b_tuple (by first | exact PySem.boot_tuple | decide +kernel) rfl) pa_nil))))) (pw_or (pt_cmpR op_lt (pe_callB call_len_seq (by rfl) T.b_len (by first | exact PySem.boot_len | decide +kernel) (pa_cons (pv 0) pa_nil)) pe_int (nomark _)) (pw_or1 (pt_not (pt_val (pe_callB call_isi (by rfl) T.b_isinstance (by first | exact PySem.boot_isinstance | decide +kernel) (pa_cons (pe_ix ix_tup (pv 0) pe_int (fun _ _ => rfl)) (pa_cons (pe_bltn (v := .ty "str") (by rfl) T.b_str (by first | exact PySem.boot_str | decide +kernel) rfl) pa_nil))))))))) (pss_one (ps_ret (by exact pe_bl))) pss_nil)
      (pss_cons (ps_for PassesOwn.never rfl (pi_tup (pe_slice sl_tup (pv 0) (po_some pe_int) po_none)) (pg_name (i := 2) sc_moveshape.nd rfl (Or.inl rfl)) (pss_one (ps_if (PW.pt (pw_or (pt_not (pt_val (pe_call G_isint (hr.mono (by first | decide | omega)) rfl D_isint.g D_isint.fn.kp D_isint.b .nil pass0 (pa_cons (pv 2) pa_nil)))) (pw_or (pt_cmpR op_lt (pv 2) pe_int (nomark _)) (pw_or1 (pt_cmpR op_gt (pv 2) (pv 1) (nomark _)))))) (pss_one (ps_ret (by exact pe_bl))) pss_nil)))
      (pss_cons (ps_if (pt_cmpR op_eq (pe_ix ix_tup (pv 0) pe_int (fun _ _ => rfl)) pe_str (nomark _)) (pss_one (ps_ret (by exact (pe_and (pe_cmpR op_eq (pe_callB call_len_seq (by rfl) T.b_len (by first | exact PySem.boot_len | decide +kernel) (pa_cons (pv 0) pa_nil)) pe_int (nomark _)) (pe_one (pe_cmpR op_gt (pe_ix ix_tup (pv 0) pe_int (fun _ _ => rfl)) pe_int (nomark _))))))) pss_nil)
      (pss_one (ps_ret (by exact (pe_and (pe_cmpR op_eq (pe_ix ix_tup (pv 0) pe_int (fun _ _ => rfl)) pe_str (nomark _)) (pe_and (pe_cmpR op_eq (pe_callB call_len_seq (by rfl) T.b_len (by first | exact PySem.boot_len | decide +kernel) (pa_cons (pv 0) pa_nil)) pe_int (nomark _)) (pe_one (pe_cmpR op_gt (pe_ix ix_tup (pv 0) pe_int (fun _ _ => rfl)) pe_int (nomark _))))))))))), ?_⟩
    rcases hm.kinds with ⟨hv, rfl⟩ | ⟨t, w, rest, rfl, h, fl, ok⟩
    · have nob : Q (.bl false) H := q false ⟨fun z => (nomatch z), fun z => z.elim⟩ H fun _ _ e => e
      rcases hv with hv | ⟨a, xs, rfl, ha⟩ | ⟨a, rfl, ha⟩
      · cases v <;> first | (exact absurd hv Bool.false_ne_true) | (walk_at "rd"; exact nob)
      · walk_at "rd"
        exact nob
      · walk_at "rd"
        refine ⟨a, _, rfl, .inr (SqT.of ha), ?_⟩
        walk_at "rd"
        exact nob
    · have q2 : ∀ b : Bool, (b = true ↔ okT c w rest) → ∀ H', Same H H' → Q (.bl b) H' := fun b hb => q b (hb.trans (ok c).symm)
      clear q ok hm
      have nob : ¬ okT c w rest → ∀ H', Same H H' → Q (.bl false) H' := fun n => q2 false ⟨fun z => (nomatch z), fun z => absurd z n⟩
      walk_at "rd"
      refine ⟨t, _, rfl, .inr (SqT.of h), ?_⟩
      walk_at "rd"
      refine ite2 (fun hc => ?_) (fun hc => ?_)
      · have hl := of_decide_eq_true hc
        have hr0 : rest = [] := by
          cases rest with
          | nil => rfl
          | cons _ _ => exact absurd hl (by rw [List.length_cons, List.length_cons]; omega)
        walk_at "rd"
        exact nob (by rw [hr0]; rintro (⟨_, _, _, e, _⟩ | ⟨_, _, e, _⟩) <;> cases e) H fun _ _ e => e
      walk_at "rd"
      refine ⟨t, _, 0, .str w, rfl, rfl, SqT.of h, at0 _ _, ?_⟩
      walk_at "rd"
      have hlen : 0 < rest.length := by
        have := of_ndec hc
        rw [List.length_cons] at this
        omega
      refine ⟨t, _, rfl, SqT.of h, ?_, fun p hp => ?_⟩
      · intro z
        have z1 := z.1
        rw [show (some (1 : Int)) = some ((1 : Nat) : Int) from rfl, HT.sIx_nat, List.length_cons] at z1
        omega
      rw [cut1]
      generalize hg : upd H p _ = H1
      have s1 : Same H H1 := by rw [← hg]; exact same_new hp
      have e1 : H1 p = some (.tup rest) := by rw [← hg]; exact upd_same
      clear hg
      have h' := s1 _ _ h
      walk_at "rd"
      refine ⟨⟨_, SqT.of e1⟩, for_tup (K := K) (a := p) (xs := rest) (fun i σ H' => (∃ v : Option V, σ = [some (.ref t), some (.int c), v]) ∧ H' = H1 ∧ ∀ (k : Nat) (x : V), k < i → rest[k]? = some x → ∃ j : Int, x = .int j ∧ 0 ≤ j ∧ j ≤ c) ⟨⟨_, rfl⟩, rfl, fun k x hk => absurd hk (Nat.not_lt_zero _)⟩ (fun i σ H' _ ⟨_, e, _⟩ => by rw [e]; exact SqT.of e1) ?_ ?_⟩
      · rintro i x σ H' hi ⟨⟨v, rfl⟩, rfl, hk⟩
        have outs : (∀ j : Int, x = .int j → ¬ (0 ≤ j ∧ j ≤ c)) → ¬ okT c w rest := by
          intro n z
          rcases z with ⟨_, a, b, rfl, ⟨z1, z2⟩, z3, z4⟩ | ⟨_, a, rfl, z1, z2⟩
          · rcases i with _ | _ | i
            · cases hi; exact n a rfl ⟨z1, z2⟩
            · cases hi; exact n b rfl ⟨by omega, z4⟩
            · cases hi
          · rcases i with _ | i
            · cases hi; exact n a rfl ⟨by omega, z2⟩
            · cases hi
        walk_at "rd"
        rcases flat_int (H := H') (fl x (List.mem_of_getElem? hi)) with ⟨j, rfl⟩ | ⟨n, hn⟩
        · refine .inl ⟨j, rfl, ?_⟩
          walk_at "rd"
          refine ite2 (fun hc => ?_) (fun hc => ?_)
          · have h0 := of_decide_eq_true hc
            walk_at "rd"
            exact nob (outs fun j' e z => by cases V.int.inj e; omega) _ s1
          walk_at "rd"
          refine ite2 (fun hc2 => ?_) (fun hc2 => ?_)
          · have h0 := of_decide_eq_true hc2
            walk_at "rd"
            exact nob (outs fun j' e z => by cases V.int.inj e; omega) _ s1
          · have a1 := of_ndec hc
            have a2 := of_ndec hc2
            refine ⟨⟨_, rfl⟩, rfl, fun k y hk2 hy => ?_⟩
            rcases Nat.lt_succ_iff_lt_or_eq.mp hk2 with z | z
            · exact hk k y z hy
            · rw [z, hi] at hy
              cases hy
              exact ⟨j, rfl, by omega, by omega⟩
        · refine .inr ⟨n, hn, ?_⟩
          walk_at "rd"
          exact nob (outs fun j e z => by subst e; cases hn) _ s1
      · rintro σ H' ⟨⟨v, rfl⟩, rfl, hk⟩
        have all : ∀ (k : Nat) (x : V), rest[k]? = some x → ∃ j : Int, x = .int j ∧ 0 ≤ j ∧ j ≤ c := fun k x hx => hk k x (by have := List.getElem?_eq_some_iff.mp hx; exact this.1) hx
        clear hk
        walk_at "rd"
        refine ⟨t, _, 0, .str w, rfl, rfl, SqT.of h', at0 _ _, ?_⟩
        walk_at "rd"
        refine ite2 (fun hc => ?_) (fun hc => ?_)
        · have hw := V.str.inj (of_decide_eq_true hc)
          walk_at "rd"
          refine ⟨t, _, rfl, .inr (SqT.of h'), ?_⟩
          walk_at "rd"
          refine ite2 (fun hc => ?_) (fun hc => nob ?_ _ s1)
          · have hl := V.int.inj (of_decide_eq_true hc)
            rw [List.length_cons] at hl
            obtain ⟨x, y, rfl⟩ : ∃ x y, rest = [x, y] := by
              rcases rest with _ | ⟨x, _ | ⟨y, _ | ⟨z, zs⟩⟩⟩
              · exact absurd hl (by decide)
              · rw [List.length_cons, List.length_nil] at hl
                omega
              · exact ⟨x, y, rfl⟩
              · rw [List.length_cons, List.length_cons, List.length_cons] at hl
                omega
            obtain ⟨a, rfl, a1, a2⟩ := all 0 x rfl
            obtain ⟨b, rfl, b1, b2⟩ := all 1 y rfl
            walk_at "rd"
            refine q2 _ ⟨fun z => .inl ⟨hw, a, b, rfl, ⟨a1, a2⟩, by have := of_decide_eq_true z; omega, b2⟩, fun z => decide_eq_true ?_⟩ _ s1
            rcases z with ⟨_, a', b', e, _, z3, _⟩ | ⟨e, _⟩
            · injection e with _ e2
              injection e2 with e2 _
              cases V.int.inj e2
              omega
            · rw [hw] at e
              exact absurd e (by decide)
          · rintro (⟨_, a, b, rfl, _⟩ | ⟨e, _⟩)
            · exact hc rfl
            · rw [hw] at e
              exact absurd e (by decide)
        · walk_at "rd"
          have hw := of_decide_eq_false (Bool.eq_false_iff.mpr hc)
          refine ⟨t, _, 0, .str w, rfl, rfl, SqT.of h', at0 _ _, ?_⟩
          walk_at "rd"
          refine ite2 (fun hc2 => ?_) (fun hc2 => nob ?_ _ s1)
          · have hw2 := V.str.inj (of_decide_eq_true hc2)
            walk_at "rd"
            refine ⟨t, _, rfl, .inr (SqT.of h'), ?_⟩
            walk_at "rd"
            refine ite2 (fun hc => ?_) (fun hc => nob ?_ _ s1)
            · have hl := V.int.inj (of_decide_eq_true hc)
              rw [List.length_cons] at hl
              obtain ⟨x, rfl⟩ : ∃ x, rest = [x] := by
                rcases rest with _ | ⟨x, _ | ⟨y, zs⟩⟩
                · exact absurd hl (by decide)
                · exact ⟨x, rfl⟩
                · rw [List.length_cons, List.length_cons] at hl
                  omega
              obtain ⟨a, rfl, a1, a2⟩ := all 0 x rfl
              walk_at "rd"
              refine q2 _ ⟨fun z => .inr ⟨hw2, a, rfl, by have := of_decide_eq_true z; show 1 ≤ a; omega, a2⟩, fun z => decide_eq_true ?_⟩ _ s1
              rcases z with ⟨e, _⟩ | ⟨_, a', e, z1, _⟩
              · rw [hw2] at e
                exact absurd e (by decide)
              · injection e with e1 _
                cases V.int.inj e1
                omega
            · rintro (⟨e, _⟩ | ⟨_, a, rfl, _⟩)
              · rw [hw2] at e
                exact absurd e (by decide)
              · exact hc rfl
          · rintro (⟨e, _⟩ | ⟨e, _⟩)
            · exact hw (congrArg V.str e)
            · exact hc2 (decide_eq_true (congrArg V.str e))
end
end K47

set_option Elab.async false
set_option linter.all false
set_option maxRecDepth 100000
set_option maxHeartbeats 4000000
set_option pp.deepTerms false
set_option pp.deepTerms.threshold 12
namespace K47
open PySem PySem.Spec PyProof.Rows L2
local macro_rules | `(tactic| walk_at "ty") => `(tactic| first | exact .base (.int _) | exact .base (.bl _) | exact .base (.str _) | exact .base .non | assumption | exact .base (.tup (by assumption)) | exact .base (.lst (by assumption)))
local macro_rules | `(tactic| walk_at "cm") => `(tactic| first | exact cm_r (by decide) (by decide) | exact cm_l (by decide) (by decide) | exact cm_fmod (by decide) (by decide) | exact cm_r (by omega) (by omega) | exact cm_l (by omega) (by omega))
local macro_rules | `(tactic| walk_at "dv") => `(tactic| first | exact ⟨by decide, by decide⟩ | exact ⟨by omega, by omega⟩)
local macro_rules | `(tactic| walk_at "r1") => `(tactic| first
  | refine ⟨_, rfl, ?_⟩ | refine ⟨_, _, rfl, rfl, ?_⟩ | refine Or.inl ⟨_, rfl, ?_⟩ | refine Or.inr ⟨_, rfl, ?_⟩
  | refine And.intro (a := CMul _ _) (by walk_at "cm") ?_ | refine And.intro (a := CDivN _ _) (by walk_at "dv") ?_ | refine And.intro (a := _ ≠ (0 : Int)) (by first | decide | omega) ?_ | refine And.intro (a := scal _ _ = true) rfl ?_ | refine ⟨_, _, _, _, rfl, rfl, SqL.of (by first | exact upd_same | assumption), rfl, ?_⟩ | refine ⟨_, _, _, _, rfl, rfl, (by first | exact upd_same | assumption), rfl, ?_⟩ | refine ⟨_, _, rfl, ?_⟩ | refine And.intro (a := (_ : V) = V.non) rfl ?_ | refine And.intro (a := CPow _ _) ⟨by decide, by decide, by decide⟩ ?_ | refine And.intro (a := (_ : List V) = []) rfl ?_ | refine ⟨_, _, rfl, SqT.of (by first | exact upd_same | assumption), rfl, ?_⟩
  | refine ⟨_, _, _, _, rfl, rfl, SqT.of (by first | exact upd_same | assumption), rfl, ?_⟩
  | refine ⟨_, _, _, _, true, rfl, ClsV.ty _, (by walk_at "ty"), kit_ty (by decide +kernel), ?_⟩ | refine ⟨_, _, _, _, false, rfl, ClsV.ty _, (by walk_at "ty"), kit_ty (by decide +kernel), ?_⟩)
local macro_rules | `(tactic| walk_at "rd") => `(tactic| repeat walk_at "r1")
local macro_rules | `(tactic| walk_at "yes") => `(tactic| (change (if true = true then _ else _); rw [if_pos rfl]))
local macro_rules | `(tactic| walk_at "no") => `(tactic| (change (if false = true then _ else _); rw [if_neg Bool.false_ne_true]))
local macro_rules | `(tactic| walk_at "nw") => `(tactic| refine And.intro (a := _ ≤ sizeLine) (sz_le (Nat.le_of_ble_eq_true rfl)) ?_)

section
variable {P : Program} {w : World} {K : PySem.W.Frag} {mg : Str → Option Value} {base : Heap}
variable {C_VaultError C_NumberError C_BadPrime C_BadTable C_BadCells C_ShapeError C_PaperError C_BadMove fV fI_BadMove fI_BadCells fI_BadPrime fI_BadTable : Addr}
variable (T : Txt P K mg C_VaultError C_NumberError C_BadPrime C_BadTable C_BadCells C_ShapeError C_PaperError C_BadMove fV fI_BadMove fI_BadCells fI_BadPrime fI_BadTable)
include T
/-- what the cells hold, the value that is due, the ups so far -/
structure PlaySt where
  h : Int → Option Int
  due : Int
  ups : Int
def setH (h : Int → Option Int) (b v : Int) : Int → Option Int := fun x => if x = b then some v else h x
/-- one move of n values and c cells; none: it is bad -/
noncomputable def stepM (n c : Int) (s : PlaySt) (m : Mv) : Option PlaySt := open Classical in
  if s.due = 0 ∨ ¬ okM c m then none else match m with
    | .up a b => match s.h a with
      | none => none
      | some i => if i < n then some ⟨setH s.h b (i + 1), s.due, s.ups + 1⟩ else none
    | .read a => if s.h a = some s.due then some ⟨s.h, s.due - 1, s.ups⟩ else none
    | .bad => none
def st0 (n : Int) : PlaySt := ⟨fun x => if x = 0 then some 0 else none, n, 0⟩
/-- the moves one behind another: the state, or the number of the first bad one -/
noncomputable def runM (n c : Int) : List Mv → Nat → PlaySt → PlaySt ⊕ Nat
  | [], _, s => .inl s
  | m :: ms, at_, s => match stepM n c s m with
    | none => .inr at_
    | some s' => runM n c ms (at_ + 1) s'
omit T in
theorem runM_at {n c : Int} : ∀ {ms : List Mv} {i k : Nat} {m : Mv} {s : PlaySt}, ms[i]? = some m → runM n c (ms.drop i) k s = (match stepM n c s m with | none => .inr k | some s' => runM n c (ms.drop (i + 1)) (k + 1) s')
  | m' :: ms, 0, k, m, s, h => by
    cases h
    rfl
  | m' :: ms, i + 1, k, m, s, h => runM_at (ms := ms) (i := i) h
/-- the answer: the ups, or the number of the bad move -/
noncomputable def verdict (n c : Int) (ms : List Mv) : Int ⊕ Nat :=
  match runM n c ms 0 (st0 n) with
  | .inr k => .inr k
  | .inl s => if s.due > 0 then .inr ms.length else .inl s.ups
/-- the law's list of what the cells hold -/
def Held (c : Int) (hs : List Int) (h : Int → Option Int) : Prop := (hs.length : Int) = c + 1 ∧ ∀ a : Nat, (a : Int) ≤ c → ∃ z, hs[a]? = some z ∧ ((h a = none ∧ z = -1) ∨ (h a = some z ∧ 0 ≤ z))
def IsMs (H : Hp) (xs : List V) (ms : List Mv) : Prop := Paired (IsM H) xs ms
omit T in
theorem IsM.keep {H H' : Hp} {v : V} {m : Mv} (h : IsM H v m) (s : Same H H') : IsM H' v m := by
  cases h with
  | up t a b h => exact .up t a b (s _ _ h)
  | read t a h => exact .read t a (s _ _ h)
  | flat v h => exact .flat v h
  | lst a xs h => exact .lst a xs (s _ _ h)
  | nil t h => exact .nil t (s _ _ h)
  | tup t w rest h fl h1 h2 => exact .tup t w rest (s _ _ h) fl h1 h2
omit T in
theorem Held.start (c : Nat) : Held c (0 :: List.replicate c (-1)) (st0 n).h := by
  refine ⟨by rw [List.length_cons, List.length_replicate]; omega, fun a ha => ?_⟩
  cases a with
  | zero => exact ⟨0, rfl, .inr ⟨rfl, Int.le_refl 0⟩⟩
  | succ a =>
    refine ⟨-1, ?_, .inl ⟨?_, rfl⟩⟩
    · rw [List.getElem?_cons_succ, List.getElem?_replicate, if_pos (by omega)]
    · show (if ((a + 1 : Nat) : Int) = 0 then some 0 else none) = none
      rw [if_neg (by omega)]
omit T in
theorem Held.set {c : Int} {hs : List Int} {h : Int → Option Int} (x : Held c hs h) {b : Nat} (hb : (b : Int) ≤ c) {v : Int} (hv : 0 ≤ v) : Held c (hs.set b v) (setH h b v) := by
  refine ⟨by rw [List.length_set]; exact x.1, fun a ha => ?_⟩
  by_cases e : a = b
  · subst e
    refine ⟨v, ?_, .inr ⟨if_pos rfl, hv⟩⟩
    rw [List.getElem?_set, if_pos rfl, if_pos (by have := x.1; omega)]
  · obtain ⟨z, z1, z2⟩ := x.2 a ha
    refine ⟨z, by rw [List.getElem?_set, if_neg (Ne.symm e)]; exact z1, ?_⟩
    have en : setH h b v a = h a := if_neg (by omega)
    rw [en]
    exact z2
omit T in
theorem same_free {H H' : Hp} {l : Addr} (e : H' l = none) (h : Same H H') : H l = none := by
  cases q : H l with
  | none => rfl
  | some o =>
    rw [h _ _ q] at e
    cases e
omit T in
theorem ixNat {n j : Nat} (hj : j < n) : ixN n (j : Int) = some j := by
  unfold ixN
  rw [if_pos (by omega), if_pos (by omega), Int.toNat_natCast]
def spPlay (K : PySem.W.Frag) : Sp := fun vs H Q _ => ∃ (n c : Int) (l : Addr), vs = [.int n, .int c, .ref l] ∧ (0 ≤ n ∧ n ≤ 120 ∧ 1 ≤ c ∧ c ≤ 120) ∧ ∃ (xs : List V) (ms : List Mv), H l = some (.lst xs) ∧ xs.length ≤ 20000 ∧ IsMs H xs ms ∧
  ∀ t H' b k, Same H H' → H' t = some (.tup [.bl b, .int k]) → (b = true ∧ verdict n c ms = .inl k ∨ b = false ∧ ∃ j : Nat, k = j ∧ verdict n c ms = .inr j) → Q (.ref t) H'
theorem ok_play {f : Addr} {fd : FuncData} (F : Fun K "_law_play" "_law_play" s_play f fd) {f_moveshape : Addr} {fd_moveshape : FuncData} (D_moveshape : Def K mg "_law_moveshape" s_moveshape p_moveshape f_moveshape fd_moveshape) (G_moveshape : FnOk P w K mg base CX0 2 f_moveshape fd_moveshape p_moveshape spShape) : FnOk P w K mg base CX0 3 f fd p_play (spPlay K) := by
  refine F.ok sc_play (fun vs H Q E h => ?_) (fun cdv A outer s H vs Q E hr h => ?_)
  · obtain ⟨n, c, l, rfl, _⟩ := h
    rfl
  · obtain ⟨n, c, l, rfl, ⟨n0, n1, c0, c1⟩, xs, ms, hl, hz, hm, q⟩ := h
    refine ⟨_, (pss_cons (ps_set (i := 3) sc_play.nd rfl (Or.inl rfl) (by exact (pe_op op_cat (pe_lst (pa_cons pe_int pa_nil)) (pe_op op_rep (pe_lst (pa_cons (pe_op op_sub pe_int pe_int) pa_nil)) (pv 1)))))
      (pss_cons (ps_set (i := 4) sc_play.nd rfl (Or.inl rfl) (by exact (pv 0)))
      (pss_cons (ps_set (i := 5) sc_play.nd rfl (Or.inl rfl) (by exact pe_int))
      (pss_cons (ps_for PassesOwn.never rfl (pi_range1 (by rfl) T.b_range (pa_cons (pe_callB call_len_seq (by rfl) T.b_len (by first | exact PySem.boot_len | decide +kernel) (pa_cons (pv 2) pa_nil)) pa_nil)) (pg_name (i := 6) sc_play.nd rfl (Or.inl rfl)) (pss_cons (ps_set (i := 7) sc_play.nd rfl (Or.inl rfl) (by exact (pe_ix ix_list (pv 2) (pv 6) (fun _ _ => rfl))))
          (pss_cons (ps_if (PW.pt (pw_or (pt_cmpR op_eq (pv 4) pe_int (nomark _)) (pw_or1 (pt_not (pt_val (pe_call G_moveshape (hr.mono (by first | decide | omega)) rfl D_moveshape.g D_moveshape.fn.kp D_moveshape.b .nil pass0 (pa_cons (pv 7) (pa_cons (pv 1) pa_nil)))))))) (pss_one (ps_ret (by exact (pe_tup (pa_cons pe_bl (pa_cons (pv 6) pa_nil)))))) pss_nil)
          (pss_one (ps_if (pt_cmpR op_eq (pe_ix ix_tup (pv 7) pe_int (fun _ _ => rfl)) pe_str (nomark _)) (pss_cons (ps_set (i := 8) sc_play.nd rfl (Or.inl rfl) (by exact (pe_ix ix_list (pv 3) (pe_ix ix_tup (pv 7) pe_int (fun _ _ => rfl)) (fun _ _ => rfl))))
              (pss_cons (ps_if (PW.pt (pw_or (pt_cmpR op_lt (pv 8) pe_int (nomark _)) (pw_or1 (pt_cmpR op_ge (pv 8) (pv 0) (nomark _))))) (pss_one (ps_ret (by exact (pe_tup (pa_cons pe_bl (pa_cons (pv 6) pa_nil)))))) pss_nil)
              (pss_cons (ps_asg (by exact (pe_op op_add (pv 8) pe_int)) (pg_sub (pv 3) (pe_ix ix_tup (pv 7) pe_int (fun _ _ => rfl)) set_list))
              (pss_one (ps_set (i := 5) sc_play.nd rfl (Or.inl rfl) (by exact (pe_op op_add (pv 5) pe_int))))))) (pss_cons (ps_if (pt_cmpR op_ne (pe_ix ix_list (pv 3) (pe_ix ix_tup (pv 7) pe_int (fun _ _ => rfl)) (fun _ _ => rfl)) (pv 4) (nomark _)) (pss_one (ps_ret (by exact (pe_tup (pa_cons pe_bl (pa_cons (pv 6) pa_nil)))))) pss_nil)
              (pss_one (ps_set (i := 4) sc_play.nd rfl (Or.inl rfl) (by exact (pe_op op_sub (pv 4) pe_int))))))))))
      (pss_cons (ps_if (pt_cmpR op_gt (pv 4) pe_int (nomark _)) (pss_one (ps_ret (by exact (pe_tup (pa_cons pe_bl (pa_cons (pe_callB call_len_seq (by rfl) T.b_len (by first | exact PySem.boot_len | decide +kernel) (pa_cons (pv 2) pa_nil)) pa_nil)))))) pss_nil)
      (pss_one (ps_ret (by exact (pe_tup (pa_cons pe_bl (pa_cons (pv 5) pa_nil))))))))))), ?_⟩
    obtain ⟨c, rfl⟩ : ∃ k : Nat, c = (k : Int) := ⟨c.toNat, by omega⟩
    walk_at "rd"
    walk_at "nw"
    intro p1 h1
    walk_at "rd"
    walk_at "nw"
    intro p2 h2
    walk_at "rd"
    refine ⟨p2, c, _, rfl, rfl, upd_same, by omega, by omega, sz_le (by show 1 * ((c : Int).toNat) ≤ 100000; omega), fun p3 h3 => ?_⟩
    generalize hg : upd (upd (upd H p1 _) p2 _) p3 _ = H3
    have s3 : Same H H3 := by rw [← hg]; exact ((same_new h1).trans (same_new h2)).trans (same_new h3)
    have e1 : H3 p1 = some (.lst [.int 0]) := by rw [← hg]; exact same_new h3 _ _ (same_new h2 _ _ upd_same)
    have e3 : H3 p3 = some (.lst (List.replicate c (V.int (-1)))) := by
      rw [← hg, upd_same]
      congr 2
      show (List.replicate ((c : Int).toNat) [V.int (-1)]).flatten = _
      rw [show ((c : Int).toNat) = c by omega, List.flatten_replicate_singleton]
    clear hg
    refine ⟨p1, p3, _, _, rfl, rfl, e1, e3, sz_le (by rw [List.length_replicate]; show 1 + c ≤ 100000; omega), fun d h4 => ?_⟩
    have nl : H3 d = none := h4
    have hd0 : H d = none := same_free nl s3
    generalize hg : upd H3 d _ = H4
    have s4 : Same H H4 := by rw [← hg]; exact s3.trans (same_new h4)
    have e4 : H4 d = some (.lst ((0 :: List.replicate c (-1)).map V.int)) := by
      rw [← hg, upd_same]
      congr 2
      show V.int 0 :: List.replicate c (V.int (-1)) = V.int 0 :: (List.replicate c (-1)).map V.int
      rw [List.map_replicate]
    clear hg
    walk_at "rd"
    refine ⟨l, xs, rfl, .inl (SqL.of (s4 _ _ hl)), ?_⟩
    walk_at "rd"
    refine ⟨by omega, by omega, ?_⟩
    rw [show ((xs.length : Nat) : Int).toNat = xs.length by omega]
    have hlen : ms.length = xs.length := hm.length.symm
    refine for_range (fun i σ H' => ∃ (hs : List Int) (s : PlaySt) (v7 v8 v6 : Option V), σ = [some (.int n), some (.int c), some (.ref l), some (.ref d), some (.int s.due), some (.int s.ups), v6, v7, v8] ∧ Same H H' ∧ H' d = some (.lst (hs.map V.int)) ∧ Held c hs s.h ∧ 0 ≤ s.due ∧ s.due ≤ n ∧ runM n c ms 0 (st0 n) = runM n c (ms.drop i) i s) ⟨_, st0 n, none, none, none, rfl, s4, e4, Held.start c, n0, Int.le_refl n, rfl⟩ ?_ ?_
    · rintro i σ H5 hi ⟨hs, s, v7, v8, v6, rfl, s5, e5, hh, d0, d1, hrun⟩
      have hi2 : i < xs.length := hi
      have hx : xs[i]? = some xs[i] := List.getElem?_eq_getElem hi2
      obtain ⟨m, hmi, him⟩ := pairedAt hm hx
      generalize xs[i] = x at hx him
      rw [runM_at hmi] at hrun
      walk_at "rd"
      refine ⟨l, xs, 0 + (i : Int), x, rfl, rfl, SqL.of (s5 _ _ hl), by rw [Int.zero_add]; exact atI_nat hx, ?_⟩
      walk_at "rd"
      have e0 : (0 : Int) + (i : Int) = (i : Int) := Int.zero_add _
      -- a bad move ends it
      have bad : stepM n c s m = none → ∀ t H6, Same H5 H6 → H6 t = some (.tup [.bl false, .int (0 + i)]) → Q (.ref t) H6 := by
        intro hn t H6 s6 e6
        rw [hn] at hrun
        refine q t H6 false (0 + i) (s5.trans s6) e6 (.inr ⟨rfl, i, e0, ?_⟩)
        unfold verdict
        rw [hrun]
      refine ite2 (fun hc => ?_) (fun hc => ?_)
      · have hd := V.int.inj (of_decide_eq_true hc)
        have hn : stepM n c s m = none := by
          unfold stepM
          rw [if_pos (.inl hd)]
        walk_at "rd"
        walk_at "nw"
        intro t ht
        exact bad hn t _ (same_new ht) upd_same
      have hdue : s.due ≠ 0 := fun z => of_ndec hc (congrArg V.int z)
      walk_at "rd"
      have him5 := him.keep s5
      refine ⟨m, him5, fun bb hb H6 s6 => ?_⟩
      cases bb with
      | false =>
        have hno : ¬ okM c m := fun z => absurd (hb.mpr z) Bool.false_ne_true
        have hn : stepM n c s m = none := by
          unfold stepM
          rw [if_pos (.inr hno)]
        walk_at "rd"
        walk_at "nw"
        intro t ht
        exact bad hn t _ (s6.trans (same_new ht)) upd_same
      | true =>
        have hok := hb.mp rfl
        have hif : ¬ (s.due = 0 ∨ ¬ okM c m) := fun z => z.elim hdue fun w => w hok
        have him6 := him5.keep s6
        have e6 := s6 _ _ e5
        clear him him5 hb
        cases him6 with
        | up t a b ht =>
          obtain ⟨⟨a0, a1⟩, b0, b1⟩ := hok
          obtain ⟨a, rfl⟩ : ∃ k : Nat, a = (k : Int) := ⟨a.toNat, by omega⟩
          obtain ⟨b, rfl⟩ : ∃ k : Nat, b = (k : Int) := ⟨b.toNat, by omega⟩
          obtain ⟨z, z1, z2⟩ := hh.2 a a1
          walk_at "rd"
          refine ⟨d, _, _, .int z, rfl, rfl, SqL.of e6, atI_nat (by rw [List.getElem?_map, z1]; rfl), ?_⟩
          walk_at "rd"
          refine ite2 (fun hc => ?_) (fun hc => ?_)
          · have hz := of_decide_eq_true hc
            have hn : stepM n c s (.up a b) = none := by
              unfold stepM
              rw [if_neg hif]
              rcases z2 with ⟨z2, _⟩ | ⟨_, z3⟩
              · simp only [z2]
              · omega
            walk_at "rd"
            walk_at "nw"
            intro t ht
            exact bad hn t _ (s6.trans (same_new ht)) upd_same
          walk_at "rd"
          refine ite2 (fun hc2 => ?_) (fun hc2 => ?_)
          · have hz := of_decide_eq_true hc2
            have hn : stepM n c s (.up a b) = none := by
              unfold stepM
              rw [if_neg hif]
              rcases z2 with ⟨z2, _⟩ | ⟨z2, z3⟩
              · simp only [z2]
              · simp only [z2]
                rw [if_neg (by omega)]
            walk_at "rd"
            walk_at "nw"
            intro t ht
            exact bad hn t _ (s6.trans (same_new ht)) upd_same
          · have y1 := of_ndec hc
            have y2 := of_ndec hc2
            have z3 : s.h a = some z := by
              rcases z2 with ⟨_, z3⟩ | ⟨z3, _⟩
              · omega
              · exact z3
            have hn : stepM n c s (.up a b) = some ⟨setH s.h b (z + 1), s.due, s.ups + 1⟩ := by
              unfold stepM
              rw [if_neg hif]
              simp only [z3]
              rw [if_pos (by omega)]
            rw [hn] at hrun
            walk_at "rd"
            have hlb : b < (hs.map V.int).length := by
              rw [List.length_map]
              have := hh.1
              omega
            refine ⟨d, _, b, b, rfl, rfl, e6, ixNat hlb, ?_⟩
            walk_at "rd"
            refine ⟨hs.set b (z + 1), ⟨setH s.h b (z + 1), s.due, s.ups + 1⟩, _, _, _, rfl, (s5.trans s6).mut hd0, ?_, hh.set b1 (by omega), d0, d1, hrun⟩
            rw [upd_same, List.map_set]
        | read t a ht =>
          obtain ⟨a0, a1⟩ := hok
          obtain ⟨a, rfl⟩ : ∃ k : Nat, a = (k : Int) := ⟨a.toNat, by omega⟩
          obtain ⟨z, z1, z2⟩ := hh.2 a a1
          walk_at "rd"
          refine ⟨d, _, _, .int z, rfl, rfl, SqL.of e6, atI_nat (by rw [List.getElem?_map, z1]; rfl), ?_⟩
          walk_at "rd"
          refine ite2 (fun hc => ?_) (fun hc => ?_)
          · have hz : z ≠ s.due := fun w => of_decide_eq_false (bnot_t hc) (congrArg V.int w)
            have hn : stepM n c s (.read a) = none := by
              unfold stepM
              rw [if_neg hif]
              show (if s.h a = some s.due then _ else _) = none
              rw [if_neg fun w => by
                rcases z2 with ⟨z2, _⟩ | ⟨z2, _⟩
                · rw [z2] at w
                  cases w
                · rw [z2] at w
                  exact hz (Option.some.inj w)]
            walk_at "rd"
            walk_at "nw"
            intro t ht
            exact bad hn t _ (s6.trans (same_new ht)) upd_same
          · have hz : z = s.due := V.int.inj (of_decide_eq_true (bnot_f hc))
            have hn : stepM n c s (.read a) = some ⟨s.h, s.due - 1, s.ups⟩ := by
              unfold stepM
              rw [if_neg hif]
              show (if s.h a = some s.due then _ else _) = _
              rw [if_pos (by
                rcases z2 with ⟨_, z3⟩ | ⟨z2, _⟩
                · omega
                · rw [z2, hz])]
            rw [hn] at hrun
            walk_at "rd"
            exact ⟨hs, ⟨s.h, s.due - 1, s.ups⟩, _, _, _, rfl, s5.trans s6, e6, hh, by show 0 ≤ s.due - 1; omega, by show s.due - 1 ≤ n; omega, hrun⟩
        | _ => exact hok.elim
    · rintro σ H5 ⟨hs, s, v7, v8, v6, rfl, s5, e5, hh, d0, d1, hrun⟩
      walk_at "rd"
      refine ite2 (fun hc => ?_) (fun hc => ?_)
      · have hz := of_decide_eq_true hc
        walk_at "rd"
        refine ⟨l, xs, rfl, .inl (SqL.of (s5 _ _ hl)), ?_⟩
        walk_at "rd"
        walk_at "nw"
        intro t ht
        refine q t _ false _ (s5.trans (same_new ht)) upd_same (.inr ⟨rfl, xs.length, rfl, ?_⟩)
        unfold verdict
        rw [hrun, ← hlen, List.drop_length]
        show (if s.due > 0 then (Sum.inr ms.length : Int ⊕ Nat) else _) = _
        rw [if_pos hz]
      · have hz := of_ndec hc
        walk_at "rd"
        walk_at "nw"
        intro t ht
        refine q t _ true _ (s5.trans (same_new ht)) upd_same (.inl ⟨rfl, ?_⟩)
        unfold verdict
        rw [hrun, ← hlen, List.drop_length]
        show (if s.due > 0 then _ else (Sum.inl s.ups : Int ⊕ Nat)) = _
        rw [if_neg hz]
end
end K47

set_option Elab.async false
set_option linter.all false
set_option maxRecDepth 100000
set_option maxHeartbeats 4000000
set_option pp.deepTerms false
set_option pp.deepTerms.threshold 12
namespace K47
open PySem PySem.Spec PyProof.Rows L2
local macro_rules | `(tactic| walk_at "ty") => `(tactic| first | exact .base (.int _) | exact .base (.bl _) | exact .base (.str _) | exact .base .non | assumption | exact .base (.tup (by assumption)) | exact .base (.lst (by assumption)))
local macro_rules | `(tactic| walk_at "cm") => `(tactic| first | exact cm_r (by decide) (by decide) | exact cm_l (by decide) (by decide) | exact cm_fmod (by decide) (by decide) | exact cm_r (by omega) (by omega) | exact cm_l (by omega) (by omega))
local macro_rules | `(tactic| walk_at "dv") => `(tactic| first | exact ⟨by decide, by decide⟩ | exact ⟨by omega, by omega⟩)
local macro_rules | `(tactic| walk_at "r1") => `(tactic| first
  | refine ⟨_, rfl, ?_⟩ | refine ⟨_, _, rfl, rfl, ?_⟩ | refine Or.inl ⟨_, rfl, ?_⟩ | refine Or.inr ⟨_, rfl, ?_⟩
  | refine And.intro (a := CMul _ _) (by walk_at "cm") ?_ | refine And.intro (a := CDivN _ _) (by walk_at "dv") ?_ | refine And.intro (a := _ ≠ (0 : Int)) (by first | decide | omega) ?_ | refine And.intro (a := scal _ _ = true) rfl ?_ | refine ⟨_, _, _, _, rfl, rfl, SqL.of (by first | exact upd_same | assumption), rfl, ?_⟩ | refine ⟨_, _, _, _, rfl, rfl, (by first | exact upd_same | assumption), rfl, ?_⟩ | refine ⟨_, _, rfl, ?_⟩ | refine And.intro (a := (_ : V) = V.non) rfl ?_ | refine And.intro (a := CPow _ _) ⟨by decide, by decide, by decide⟩ ?_ | refine And.intro (a := (_ : List V) = []) rfl ?_ | refine ⟨_, _, rfl, SqT.of (by first | exact upd_same | assumption), rfl, ?_⟩
  | refine ⟨_, _, _, _, rfl, rfl, SqT.of (by first | exact upd_same | assumption), rfl, ?_⟩
  | refine ⟨_, _, _, _, true, rfl, ClsV.ty _, (by walk_at "ty"), kit_ty (by decide +kernel), ?_⟩ | refine ⟨_, _, _, _, false, rfl, ClsV.ty _, (by walk_at "ty"), kit_ty (by decide +kernel), ?_⟩)
local macro_rules | `(tactic| walk_at "rd") => `(tactic| repeat walk_at "r1")
local macro_rules | `(tactic| walk_at "yes") => `(tactic| (change (if true = true then _ else _); rw [if_pos rfl]))
local macro_rules | `(tactic| walk_at "no") => `(tactic| (change (if false = true then _ else _); rw [if_neg Bool.false_ne_true]))
local macro_rules | `(tactic| walk_at "nw") => `(tactic| refine And.intro (a := _ ≤ sizeLine) (sz_le (Nat.le_of_ble_eq_true rfl)) ?_)

section
variable {P : Program} {w : World} {K : PySem.W.Frag} {mg : Str → Option Value} {base : Heap}
variable {C_VaultError C_NumberError C_BadPrime C_BadTable C_BadCells C_ShapeError C_PaperError C_BadMove fV fI_BadMove fI_BadCells fI_BadPrime fI_BadTable : Addr}
variable (T : Txt P K mg C_VaultError C_NumberError C_BadPrime C_BadTable C_BadCells C_ShapeError C_PaperError C_BadMove fV fI_BadMove fI_BadCells fI_BadPrime fI_BadTable)
include T
omit T in
theorem stop_ex {n c : Nat} (hn : 1 ≤ n) : ∃ m, M11.IsStop n c m := by
  have key : ∀ N, (∃ m, M11.IsStop n c m) ∨ ∀ j, 1 ≤ j → j ≤ N → M11.sm n c j ≠ some (M11.T n (c + 1)) := by
    intro N
    induction N with
    | zero => exact .inr fun j h1 h2 => by omega
    | succ N ih =>
      rcases ih with h | h
      · exact .inl h
      · by_cases e : M11.sm n c (N + 1) = some (M11.T n (c + 1))
        · have hlt := M11.stop_more (i := N) hn h
          exact .inl ⟨N + 1, by omega, by omega, e, fun j h1 h2 => h j h1 (by omega)⟩
        · exact .inr fun j h1 h2 => (Nat.lt_or_ge j (N + 1)).elim (fun z => h j h1 (by omega)) fun z => by rw [show j = N + 1 by omega]; exact e
  rcases key n with h | h
  · exact h
  · exact absurd (M11.stop_more hn h) (Nat.lt_irrefl n)
/-- the best list: n values behind those of the cell o, into the cells f to f + c -/
inductive Best : Nat → Nat → Int → Int → List Mv → Prop
  | nil (c : Nat) (o f : Int) : Best 0 c o f []
  | last (n s : Nat) (o f : Int) (ys : List Mv) (h : M11.IsStop n 0 s) (b : Best (s - 1) 0 o f ys) : Best n 0 o f (.up o f :: (List.replicate (s - 1) (.up f f) ++ (.read f :: ys)))
  | more (n c s : Nat) (o f : Int) (xs ys : List Mv) (h : M11.IsStop n (c + 1) s) (a : Best (n - s) c f (f + 1) xs) (b : Best (s - 1) (c + 1) o f ys) : Best n (c + 1) o f (.up o f :: (List.replicate (s - 1) (.up f f) ++ (xs ++ (.read f :: ys))))
omit T in
theorem Best.uniq {n c : Nat} {o f : Int} {xs ys : List Mv} (a : Best n c o f xs) (b : Best n c o f ys) : xs = ys := by
  induction a generalizing ys with
  | nil c o f =>
    cases b with
    | nil => rfl
    | last _ s _ _ _ h _ => have := h.lo; have := h.hi; omega
    | more _ _ s _ _ _ _ h _ _ => have := h.lo; have := h.hi; omega
  | last n s o f zs h a ih =>
    cases b with
    | nil => have := h.lo; have := h.hi; omega
    | last _ s' _ _ zs' h' b =>
      obtain rfl := h.uniq h'
      rw [ih b]
  | more n c s o f xs zs h a1 a2 ih1 ih2 =>
    cases b with
    | nil => have := h.lo; have := h.hi; omega
    | more _ _ s' _ _ xs' zs' h' b1 b2 =>
      obtain rfl := h.uniq h'
      rw [ih1 b1, ih2 b2]
def Runs (n c : Int) (ms : List Mv) (s s' : PlaySt) : Prop := ∀ k, runM n c ms k s = .inl s'
omit T in
theorem Runs.nil {n c : Int} {s : PlaySt} : Runs n c [] s s := fun _ => rfl
omit T in
theorem Runs.cons {n c : Int} {m : Mv} {ms : List Mv} {s s1 s' : PlaySt} (h : stepM n c s m = some s1) (r : Runs n c ms s1 s') : Runs n c (m :: ms) s s' := fun k => by
  unfold runM
  rw [h]
  exact r (k + 1)
omit T in
theorem Runs.append {n c : Int} {xs ys : List Mv} {s s1 s' : PlaySt} (a : Runs n c xs s s1) (b : Runs n c ys s1 s') : Runs n c (xs ++ ys) s s' := by
  induction xs generalizing s with
  | nil =>
    have e := a 0
    injection e with e
    rw [e]
    exact b
  | cons m ms ih =>
    cases e : stepM n c s m with
    | none =>
      have q := a 0
      unfold runM at q
      rw [e] at q
      cases q
    | some s2 =>
      refine Runs.cons e (ih fun k => ?_)
      have q : ∀ k, runM n c (m :: ms) k s = .inl s1 := a
      have w : ∀ k, runM n c ms (k + 1) s2 = .inl s1 := fun k => by
        have z := q k
        unfold runM at z
        rw [e] at z
        exact z
      have shift : ∀ (ms : List Mv) (s2 s1 : PlaySt) (i j : Nat), runM n c ms i s2 = .inl s1 → runM n c ms j s2 = .inl s1 := by
        intro ms
        induction ms with
        | nil => intro s2 s1 i j h; exact h
        | cons m ms ih =>
          intro s2 s1 i j h
          unfold runM at h ⊢
          cases e : stepM n c s2 m with
          | none => rw [e] at h; cases h
          | some s3 => rw [e] at h; exact ih s3 s1 _ _ h
      exact shift _ _ _ _ _ (w 0)
omit T in
theorem step_up {n c a b i : Int} {s : PlaySt} (hd : s.due ≠ 0) (ha : 0 ≤ a ∧ a ≤ c) (hb : 1 ≤ b ∧ b ≤ c) (h : s.h a = some i) (hi : i < n) : stepM n c s (.up a b) = some ⟨setH s.h b (i + 1), s.due, s.ups + 1⟩ := by
  unfold stepM
  rw [if_neg (fun z => z.elim hd fun w => w ⟨ha, hb⟩)]
  simp only [h]
  rw [if_pos hi]
omit T in
theorem step_read {n c a : Int} {s : PlaySt} (hd : s.due ≠ 0) (ha : 1 ≤ a ∧ a ≤ c) (h : s.h a = some s.due) : stepM n c s (.read a) = some ⟨s.h, s.due - 1, s.ups⟩ := by
  unfold stepM
  rw [if_neg (fun z => z.elim hd fun w => w ha)]
  show (if s.h a = some s.due then _ else _) = _
  rw [if_pos h]
omit T in
theorem runs_ups {n c f : Int} (hf : 1 ≤ f ∧ f ≤ c) : ∀ (j : Nat) (s : PlaySt) (v : Int), s.due ≠ 0 → s.h f = some v → v + j ≤ n → ∃ h', Runs n c (List.replicate j (.up f f)) s ⟨h', s.due, s.ups + j⟩ ∧ h' f = some (v + j) ∧ ∀ a, a ≠ f → h' a = s.h a
  | 0, s, v, hd, h, hv => ⟨s.h, by rw [show s.ups + ((0 : Nat) : Int) = s.ups from Int.add_zero _]; exact Runs.nil, by rw [h]; congr 1; omega, fun _ _ => rfl⟩
  | j + 1, s, v, hd, h, hv => by
    have st := step_up (n := n) (c := c) (a := f) (b := f) (i := v) hd ⟨by omega, hf.2⟩ hf h (by omega)
    obtain ⟨h', r, e1, e2⟩ := runs_ups (n := n) hf j ⟨setH s.h f (v + 1), s.due, s.ups + 1⟩ (v + 1) hd (if_pos rfl) (by omega)
    refine ⟨h', ?_, by rw [e1]; congr 1; omega, fun a ha => by rw [e2 a ha]; exact if_neg ha⟩
    have e3 : s.ups + ((j + 1 : Nat) : Int) = s.ups + 1 + (j : Int) := by omega
    rw [e3]
    exact Runs.cons st r
omit T in
theorem Best.runs {N C : Int} {l k : Nat} {o f : Int} {ms : List Mv} (x : Best l k o f ms) : ∀ (s : PlaySt) (b : Int), s.h o = some b → s.due = b + l → 0 ≤ b → b + l ≤ N → 0 ≤ o → o < f → 1 ≤ f → f + k ≤ C →
    ∃ h', Runs N C ms s ⟨h', b, s.ups + M11.T l (k + 1)⟩ ∧ ∀ a, a < f → h' a = s.h a := by
  induction x with
  | nil k o f =>
    intro s b h1 h2 h3 h4 h5 h6 h7 h8
    refine ⟨s.h, ?_, fun _ _ => rfl⟩
    rw [M11.T_0, Int.add_zero, show b = s.due by omega]
    exact Runs.nil
  | last n s o f ys h bb ih =>
    intro S b h1 h2 h3 h4 h5 h6 h7 h8
    have lo := h.lo
    have hi := h.hi
    obtain rfl : s = n := h.uniq (M11.stop_1 (by omega))
    have hsum : M11.T s 1 = (s : Int) + M11.T (s - 1) 1 := by
      have z := h.at_
      unfold M11.sm at z
      rw [if_pos rfl, if_neg (Nat.lt_irrefl s)] at z
      exact (Option.some.inj z).symm
    have st := step_up (n := N) (c := C) (a := o) (b := f) (i := b) (s := S) (by omega) ⟨h5, by omega⟩ ⟨h7, by omega⟩ h1 (by omega)
    obtain ⟨g1, r1, e1, e2⟩ := runs_ups (n := N) (c := C) (f := f) ⟨h7, by omega⟩ (s - 1) ⟨setH S.h f (b + 1), S.due, S.ups + 1⟩ (b + 1) (by show S.due ≠ 0; omega) (if_pos rfl) (by omega)
    have sr := step_read (n := N) (c := C) (a := f) (s := ⟨g1, S.due, S.ups + 1 + ((s - 1 : Nat) : Int)⟩) (by show S.due ≠ 0; omega) ⟨h7, by omega⟩ (by show g1 f = some S.due; rw [e1]; congr 1; omega)
    have e3 : ∀ a, a < f → g1 a = S.h a := fun a ha => by rw [e2 a (by omega)]; exact if_neg (by omega)
    obtain ⟨g2, r2, e4⟩ := ih ⟨g1, S.due - 1, S.ups + 1 + ((s - 1 : Nat) : Int)⟩ b (by rw [← h1]; exact e3 o h6) (by show S.due - 1 = _; omega) h3 (by omega) h5 h6 h7 h8
    refine ⟨g2, Runs.cons st (Runs.append r1 (Runs.cons sr ?_)), fun a ha => (e4 a ha).trans (e3 a ha)⟩
    have e5 : S.ups + M11.T s (0 + 1) = S.ups + 1 + ((s - 1 : Nat) : Int) + M11.T (s - 1) (0 + 1) := by
      show S.ups + M11.T s 1 = _ + M11.T (s - 1) 1
      rw [hsum]
      omega
    rw [e5]
    exact r2
  | more n k s o f xs ys h aa bb iha ihb =>
    intro S b h1 h2 h3 h4 h5 h6 h7 h8
    have lo := h.lo
    have hi := h.hi
    have hsum : M11.T n (k + 2) = (s : Int) + M11.T (n - s) (k + 1) + M11.T (s - 1) (k + 2) := by
      have z := h.at_
      unfold M11.sm at z
      rw [if_neg (Nat.succ_ne_zero k)] at z
      exact (Option.some.inj z).symm
    have st := step_up (n := N) (c := C) (a := o) (b := f) (i := b) (s := S) (by omega) ⟨h5, by omega⟩ ⟨h7, by omega⟩ h1 (by omega)
    obtain ⟨g1, r1, e1, e2⟩ := runs_ups (n := N) (c := C) (f := f) ⟨h7, by omega⟩ (s - 1) ⟨setH S.h f (b + 1), S.due, S.ups + 1⟩ (b + 1) (by show S.due ≠ 0; omega) (if_pos rfl) (by omega)
    have e3 : ∀ a, a < f → g1 a = S.h a := fun a ha => by rw [e2 a (by omega)]; exact if_neg (by omega)
    obtain ⟨g2, r2, e4⟩ := iha ⟨g1, S.due, S.ups + 1 + ((s - 1 : Nat) : Int)⟩ (b + s) (by show g1 f = _; rw [e1]; congr 1; omega) (by show S.due = _; omega) (by omega) (by omega) (by omega) (by omega) (by omega) (by omega)
    have e5 : g2 f = some (b + s) := by
      rw [e4 f (by omega)]
      show g1 f = _
      rw [e1]
      congr 1
      omega
    have sr := step_read (n := N) (c := C) (a := f) (s := ⟨g2, b + s, S.ups + 1 + ((s - 1 : Nat) : Int) + M11.T (n - s) (k + 1)⟩) (by show b + s ≠ 0; omega) ⟨h7, by omega⟩ e5
    have e6 : ∀ a, a < f → g2 a = S.h a := fun a ha => (e4 a (by omega)).trans (e3 a ha)
    obtain ⟨g3, r3, e7⟩ := ihb ⟨g2, b + s - 1, S.ups + 1 + ((s - 1 : Nat) : Int) + M11.T (n - s) (k + 1)⟩ b (by rw [← h1]; exact e6 o h6) (by show b + s - 1 = _; omega) h3 (by omega) h5 h6 h7 h8
    refine ⟨g3, Runs.cons st (Runs.append r1 (Runs.append r2 (Runs.cons sr ?_))), fun a ha => (e7 a ha).trans (e6 a ha)⟩
    have e8 : S.ups + M11.T n (k + 1 + 1) = S.ups + 1 + ((s - 1 : Nat) : Int) + M11.T (n - s) (k + 1) + M11.T (s - 1) (k + 1 + 1) := by
      show S.ups + M11.T n (k + 2) = _ + M11.T (s - 1) (k + 2)
      rw [hsum]
      omega
    rw [e8]
    exact r3
omit T in
/-- the best list is right, with the least steps -/
theorem Best.verdict {n k : Nat} {ms : List Mv} (x : Best n k 0 1 ms) : verdict n ((k + 1 : Nat) : Int) ms = .inl (M11.T n (k + 1)) := by
  obtain ⟨h', r, _⟩ := x.runs (N := n) (C := ((k + 1 : Nat) : Int)) (st0 n) 0 rfl (by show (n : Int) = _; omega) (Int.le_refl 0) (by omega) (Int.le_refl 0) (by omega) (Int.le_refl 1) (by omega)
  have r0 := r 0
  unfold K47.verdict
  rw [r0]
  show (if (0 : Int) > 0 then _ else (Sum.inl ((st0 n).ups + M11.T n (k + 1)) : Int ⊕ Nat)) = _
  rw [if_neg (by omega)]
  show (Sum.inl (0 + M11.T n (k + 1)) : Int ⊕ Nat) = _
  rw [Int.zero_add]
end
end K47

set_option Elab.async false
set_option linter.all false
set_option maxRecDepth 100000
set_option maxHeartbeats 4000000
set_option pp.deepTerms false
set_option pp.deepTerms.threshold 12
namespace K47
open PySem PySem.Spec PyProof.Rows L2
local macro_rules | `(tactic| walk_at "ty") => `(tactic| first | exact .base (.int _) | exact .base (.bl _) | exact .base (.str _) | exact .base .non | assumption | exact .base (.tup (by assumption)) | exact .base (.lst (by assumption)))
local macro_rules | `(tactic| walk_at "cm") => `(tactic| first | exact cm_r (by decide) (by decide) | exact cm_l (by decide) (by decide) | exact cm_fmod (by decide) (by decide) | exact cm_r (by omega) (by omega) | exact cm_l (by omega) (by omega))
local macro_rules | `(tactic| walk_at "dv") => `(tactic| first | exact ⟨by decide, by decide⟩ | exact ⟨by omega, by omega⟩)
local macro_rules | `(tactic| walk_at "r1") => `(tactic| first
  | refine ⟨_, rfl, ?_⟩ | refine ⟨_, _, rfl, rfl, ?_⟩ | refine Or.inl ⟨_, rfl, ?_⟩ | refine Or.inr ⟨_, rfl, ?_⟩
  | refine And.intro (a := CMul _ _) (by walk_at "cm") ?_ | refine And.intro (a := CDivN _ _) (by walk_at "dv") ?_ | refine And.intro (a := _ ≠ (0 : Int)) (by first | decide | omega) ?_ | refine And.intro (a := scal _ _ = true) rfl ?_ | refine ⟨_, _, _, _, rfl, rfl, SqL.of (by first | exact upd_same | assumption), rfl, ?_⟩ | refine ⟨_, _, _, _, rfl, rfl, (by first | exact upd_same | assumption), rfl, ?_⟩ | refine ⟨_, _, rfl, ?_⟩ | refine And.intro (a := (_ : V) = V.non) rfl ?_ | refine And.intro (a := CPow _ _) ⟨by decide, by decide, by decide⟩ ?_ | refine And.intro (a := (_ : List V) = []) rfl ?_ | refine ⟨_, _, rfl, SqT.of (by first | exact upd_same | assumption), rfl, ?_⟩
  | refine ⟨_, _, _, _, rfl, rfl, SqT.of (by first | exact upd_same | assumption), rfl, ?_⟩
  | refine ⟨_, _, _, _, true, rfl, ClsV.ty _, (by walk_at "ty"), kit_ty (by decide +kernel), ?_⟩ | refine ⟨_, _, _, _, false, rfl, ClsV.ty _, (by walk_at "ty"), kit_ty (by decide +kernel), ?_⟩)
local macro_rules | `(tactic| walk_at "rd") => `(tactic| repeat walk_at "r1")
local macro_rules | `(tactic| walk_at "yes") => `(tactic| (change (if true = true then _ else _); rw [if_pos rfl]))
local macro_rules | `(tactic| walk_at "no") => `(tactic| (change (if false = true then _ else _); rw [if_neg Bool.false_ne_true]))
local macro_rules | `(tactic| walk_at "nw") => `(tactic| refine And.intro (a := _ ≤ sizeLine) (sz_le (Nat.le_of_ble_eq_true rfl)) ?_)

section
variable {P : Program} {w : World} {K : PySem.W.Frag} {mg : Str → Option Value} {base : Heap}
variable {C_VaultError C_NumberError C_BadPrime C_BadTable C_BadCells C_ShapeError C_PaperError C_BadMove fV fI_BadMove fI_BadCells fI_BadPrime fI_BadTable : Addr}
variable (T : Txt P K mg C_VaultError C_NumberError C_BadPrime C_BadTable C_BadCells C_ShapeError C_PaperError C_BadMove fV fI_BadMove fI_BadCells fI_BadPrime fI_BadTable)
include T
omit T in
theorem Best.zero {k : Nat} {o f : Int} {ms : List Mv} (x : Best 0 k o f ms) : ms = [] := by
  cases x with
  | nil => rfl
  | last _ s _ _ _ h _ => have := h.lo; have := h.hi; omega
  | more _ _ s _ _ _ _ h _ _ => have := h.lo; have := h.hi; omega
/-- a move that is written right -/
inductive IsU (H : Hp) : V → Mv → Prop
  | up (t : Addr) (a b : Int) (h : H t = some (.tup [.str "up", .int a, .int b])) : IsU H (.ref t) (.up a b)
  | read (t : Addr) (a : Int) (h : H t = some (.tup [.str "read", .int a])) : IsU H (.ref t) (.read a)
omit T in
theorem IsU.isM {H : Hp} {v : V} {m : Mv} (h : IsU H v m) : IsM H v m := by
  cases h with
  | up t a b h => exact .up t a b h
  | read t a h => exact .read t a h
omit T in
theorem IsU.keep {H H' : Hp} {v : V} {m : Mv} (h : IsU H v m) (s : Same H H') : IsU H' v m := by
  cases h with
  | up t a b h => exact .up t a b (s _ _ h)
  | read t a h => exact .read t a (s _ _ h)
omit T in
theorem IsU.but {H H' : Hp} {v : V} {m : Mv} {l : Addr} {xs : List V} (h : IsU H v m) (hl : H l = some (.lst xs)) (s : But l H H') : IsU H' v m := by
  cases h with
  | up t a b h => exact .up t a b (s _ _ (fun z => by rw [z, hl] at h; cases h) h)
  | read t a h => exact .read t a (s _ _ (fun z => by rw [z, hl] at h; cases h) h)
omit T in
theorem Us.map {H H' : Hp} {xs : List V} {ms : List Mv} (h : Paired (IsU H) xs ms) (f : ∀ v m, IsU H v m → IsU H' v m) : Paired (IsU H') xs ms := by
  induction h with
  | nil => exact .nil
  | cons a k ih => exact .cons (f _ _ a) ih
omit T in
theorem Us.app {H : Hp} {xs ys : List V} {ms ns : List Mv} (h : Paired (IsU H) xs ms) (k : Paired (IsU H) ys ns) : Paired (IsU H) (xs ++ ys) (ms ++ ns) := by
  induction h with
  | nil => exact k
  | cons a _ ih => exact .cons a ih
/-- the list at l, with moves added behind -/
def spWr : Nat → Sp
  | 0 => fun _ _ _ _ => False
  | d + 1 => fun vs H Q _ => ∃ (left o f c : Int) (l : Addr), vs = [.int left, .int o, .int f, .int c, .ref l] ∧ ∃ (n kk : Nat) (xs : List V) (ms : List Mv), (left = n ∧ f + kk = c + 1 ∧ kk ≤ d ∧ (n = 0 ∨ 1 ≤ kk)) ∧ n ≤ 120 ∧ c ≤ 120 ∧ 1 ≤ f ∧ H l = some (.lst xs) ∧ Best n (kk - 1) o f ms ∧ xs.length + ms.length ≤ 50000 ∧
    ∀ ys H', H' l = some (.lst (xs ++ ys)) → Paired (IsU H') ys ms → But l H H' → Q .non H'
theorem ok_write {f : Addr} {fd : FuncData} (F : Fun K "_write_moves" "_write_moves" s_write_moves f fd) (D_write_moves : Def K mg "_write_moves" s_write_moves p_write_moves f fd) {f_best_stop : Addr} {fd_best_stop : FuncData} (D_best_stop : Def K mg "best_stop" s_best_stop p_best_stop f_best_stop fd_best_stop) (G_best_stop : FnOk P w K mg base (L2N.CX P w) 6 f_best_stop fd_best_stop p_best_stop (spR C_BadCells spStop2)) : ∀ d, FnOk P w K mg base (L2N.CX P w) (d + 6) f fd p_write_moves (spWr d)
  | 0 => ⟨fun _ _ _ _ h => h.elim, fun _ _ _ _ _ _ _ _ _ _ _ _ _ h => h.elim⟩
  | d + 1 => by
    have G_write_moves := ok_write F D_write_moves D_best_stop G_best_stop d
    refine F.okN sc_write_moves (fun vs H Q E h => ?_) (fun cdv A outer s H vs Q E hr h => ?_)
    · obtain ⟨a, b, c, e, g, rfl, _⟩ := h
      rfl
    · obtain ⟨_, o, ff, c, l, rfl, n, kk, xs, ms, ⟨rfl, hk, hd, hn0⟩, hn, hc, hf, hl, hb, hz, q⟩ := h
      have passO := passes_of (X := cxOf (L2N.CX P w) P w K mg base N_write_moves "_write_moves" (defScope s_write_moves) f cdv A outer s H E) rfl
      have tk := L2N.takes_of (X := cxOf (L2N.CX P w) P w K mg base N_write_moves "_write_moves" (defScope s_write_moves) f cdv A outer s H E) rfl rfl rfl rfl
      refine ⟨_, (pss_cons (ps_set (i := 5) sc_write_moves.nd rfl (Or.inl rfl) (by exact (pv 0)))
      (pss_one (ps_while passO (pt_cmpR op_gt (pv 5) pe_int (nomark _)) (pss_cons (ps_set (i := 6) sc_write_moves.nd rfl (Or.inl rfl) (by exact (pe_callS G_best_stop (hr.mono (by first | decide | omega)) rfl D_best_stop.g D_best_stop.fn.kp D_best_stop.b (fun σ => L2N.passAt tk σ) (pa_cons (pv 5) (pa_cons (pe_op op_add (pe_op op_sub (pv 3) (pv 2)) pe_int) pa_nil)))))
          (pss_cons (ps_expr (pe_bm PySem.F.plainAttrs_list PySem.F.slot_list_append PySem.F.type_list_append mt_append (pv 4) (pa_cons (pe_tup (pa_cons pe_str (pa_cons (pv 1) (pa_cons (pv 2) pa_nil)))) pa_nil)))
          (pss_cons (ps_expr (pe_bm PySem.F.plainAttrs_list PySem.F.slot_list_extend PySem.F.type_list_extend mt_extend (pv 4) (pa_cons (pe_lc (own := [("_", 7)]) (g := gName 7) rfl sc_write_moves.nd (pi_range1 (by rfl) T.b_range (pa_cons (pe_op op_sub (pv 6) pe_int) pa_nil)) (blkOk_by (own := [("_", 7)]) (N := N_write_moves) (sc := defScope s_write_moves) (by decide +kernel)) (fun _ _ _ _ _ => pg_name (i := 7) sc_write_moves.nd rfl (Or.inl rfl)) (fun _ _ _ _ _ => pts_nil) (fun _ _ _ _ _ => (pe_tup (pa_cons pe_str (pa_cons (pv 2) (pa_cons (pv 2) pa_nil)))))) pa_nil)))
          (pss_cons (ps_expr (pe_callS G_write_moves hr rfl D_write_moves.g D_write_moves.fn.kp D_write_moves.b (fun σ => L2N.passAt tk σ) (pa_cons (pe_op op_sub (pv 5) (pv 6)) (pa_cons (pv 2) (pa_cons (pe_op op_add (pv 2) pe_int) (pa_cons (pv 3) (pa_cons (pv 4) pa_nil)))))))
          (pss_cons (ps_expr (pe_bm PySem.F.plainAttrs_list PySem.F.slot_list_append PySem.F.type_list_append mt_append (pv 4) (pa_cons (pe_tup (pa_cons pe_str (pa_cons (pv 2) pa_nil))) pa_nil)))
          (pss_one (ps_set (i := 5) sc_write_moves.nd rfl (Or.inl rfl) (by exact (pe_op op_sub (pv 6) pe_int)))))))))))), ?_⟩
      walk_at "rd"
      refine ⟨fun m σ H' => ∃ (n' : Nat) (zs : List V) (done rest : List Mv) (v6 v7 : Option V), m = n' ∧ σ = [some (.int n), some (.int o), some (.int ff), some (.int c), some (.ref l), some (.int n'), v6, v7] ∧ n' ≤ 120 ∧ (n' = 0 ∨ 1 ≤ kk) ∧ H' l = some (.lst (xs ++ zs)) ∧ Paired (IsU H') zs done ∧ But l H H' ∧ Best n' (kk - 1) o ff rest ∧ ms = done ++ rest, ⟨n, n, [], [], ms, none, none, rfl, rfl, hn, hn0, by rw [List.append_nil]; exact hl, .nil, .refl, hb, rfl⟩, ?_⟩
      rintro n' σ H1 ⟨_, zs, done, rest, v6, v7, rfl, rfl, hn', hk', h1, i1, b1, hb1, rfl⟩
      walk_at "rd"
      refine ite2 (fun hcnd => ?_) (fun hcnd => ?_)
      · have hpos : 0 < (n' : Int) := of_decide_eq_true hcnd
        have hk1 : 1 ≤ kk := by omega
        obtain ⟨k, rfl⟩ : ∃ k, kk = k + 1 := ⟨kk - 1, by omega⟩
        have hb1 : Best n' k o ff rest := hb1
        refine ⟨fun σ' H'' => ∃ m', m' < n' ∧ ∃ (n' : Nat) (zs : List V) (done' rest' : List Mv) (v6 v7 : Option V), m' = n' ∧ σ' = [some (.int n), some (.int o), some (.int ff), some (.int c), some (.ref l), some (.int n'), v6, v7] ∧ n' ≤ 120 ∧ (n' = 0 ∨ 1 ≤ k + 1) ∧ H'' l = some (.lst (xs ++ zs)) ∧ Paired (IsU H'') zs done' ∧ But l H H'' ∧ Best n' (k + 1 - 1) o ff rest' ∧ done ++ rest = done' ++ rest', fun _ _ h => h, ?_⟩
        -- the stop, and what the list has behind it
        obtain ⟨s, inner, tail, hs, hin, htail, hrest⟩ : ∃ (s : Nat) (inner tail : List Mv), M11.IsStop n' k s ∧ Best (n' - s) (k - 1) ff (ff + 1) inner ∧ Best (s - 1) k o ff tail ∧ rest = .up o ff :: (List.replicate (s - 1) (.up ff ff) ++ (inner ++ (.read ff :: tail))) := by
          cases hb1 with
          | nil => omega
          | last _ s _ _ ys h b =>
            obtain rfl := h.uniq (M11.stop_1 (by omega))
            exact ⟨_, [], ys, h, by rw [Nat.sub_self]; exact .nil _ _ _, b, by rw [List.nil_append]⟩
          | more _ k' s _ _ xs' ys h a b => exact ⟨s, xs', ys, h, a, b, rfl⟩
        have slo := hs.lo
        have shi := hs.hi
        walk_at "rd"
        refine .inl ⟨n', k, ⟨rfl, congrArg V.int (by omega)⟩, hn', by omega, by omega, fun s' hs' => ?_⟩
        rw [hs'.uniq hs]
        walk_at "rd"
        refine ⟨.inl ⟨rfl, _, SqL.of h1⟩, ?_⟩
        walk_at "rd"
        walk_at "nw"
        intro t1 ht1
        generalize hg : upd H1 t1 _ = H2
        have s2 : Same H1 H2 := by rw [← hg]; exact same_new ht1
        have e2 : H2 t1 = some (.tup [.str "up", .int o, .int ff]) := by rw [← hg]; exact upd_same
        clear hg
        have hzl : zs.length = done.length := i1.length
        have hml : (done ++ rest).length = done.length + (1 + ((s - 1) + (inner.length + (1 + tail.length)))) := by
          rw [hrest, List.length_append, List.length_cons, List.length_append, List.length_replicate, List.length_append, List.length_cons]
          omega
        refine ⟨l, _, _, rfl, rfl, s2 _ _ h1, sz_lt (by rw [List.length_append]; omega), ?_⟩
        generalize hg : upd H2 l _ = H3
        have b3 : But l H2 H3 := by rw [← hg]; exact .set
        have e3 : H3 l = some (.lst (xs ++ zs ++ [.ref t1])) := by rw [← hg]; exact upd_same
        clear hg
        have l2 := s2 _ _ h1
        have u3 : Paired (IsU H3) (zs ++ [.ref t1]) (done ++ [.up o ff]) := Us.app (Us.map i1 fun v m h => (h.keep s2).but l2 b3) (.cons ((IsU.up t1 o ff e2).but l2 b3) .nil)
        have b13 : But l H H3 := (b1.trans (.of s2)).trans b3
        clear e2 b3 s2 l2 i1 b1 h1
        walk_at "rd"
        refine ⟨.inl ⟨rfl, _, SqL.of e3⟩, ?_⟩
        walk_at "rd"
        refine ⟨by omega, by omega, fun D hD => ?_⟩
        rw [show ((s : Int) - 1).toNat = s - 1 by omega]
        refine lc_range (lo := 0) (n := s - 1) (fun i H' => Same H3 H' ∧ ∃ ts : List V, H' D = some (.lst ts) ∧ ts.length = i ∧ Paired (IsU H') ts (List.replicate i (.up ff ff))) ⟨same_new hD, [], upd_same, rfl, .nil⟩ ?_ ?_
        · rintro i H4 hi ⟨s4, ts, ed, hts, us⟩
          refine ⟨rfl, ?_⟩
          walk_at "rd"
          walk_at "nw"
          intro t2 ht2
          have s5 : Same H4 (upd H4 t2 (.tup [.str "up", .int ff, .int ff])) := same_new ht2
          refine ⟨ts, s5 _ _ ed, sz_lt (by omega), (s4.trans s5).mut hD, ts ++ [.ref t2], upd_same, by rw [List.length_append, hts]; rfl, ?_⟩
          rw [List.replicate_succ']
          exact Us.app (Us.map us fun v m h => (h.keep s5).but (s5 _ _ ed) .set) (.cons ((IsU.up t2 ff ff upd_same).but (s5 _ _ ed) .set) .nil)
        rintro H4 ⟨s4, ts, ed, hts, us⟩
        walk_at "rd"
        refine ⟨l, D, _, _, rfl, rfl, s4 _ _ e3, ed, sz_le (by rw [List.length_append, List.length_append, hts]; show xs.length + zs.length + 1 + (s - 1) ≤ 100000; omega), ?_⟩
        generalize hg : upd H4 l _ = H5
        have b5 : But l H4 H5 := by rw [← hg]; exact .set
        have e5 : H5 l = some (.lst (xs ++ zs ++ [.ref t1] ++ ts)) := by rw [← hg]; exact upd_same
        clear hg
        have l4 := s4 _ _ e3
        have u5 : Paired (IsU H5) (zs ++ [.ref t1] ++ ts) (done ++ [.up o ff] ++ List.replicate (s - 1) (.up ff ff)) := Us.app (Us.map u3 fun v m h => (h.keep s4).but l4 b5) (Us.map us fun v m h => h.but l4 b5)
        have b15 : But l H H5 := (b13.trans (.of s4)).trans b5
        clear u3 us b13 b5 l4 ed s4 e3
        walk_at "rd"
        obtain ⟨d', rfl⟩ : ∃ d', d = d' + 1 := ⟨d - 1, by omega⟩
        have hk0 : n' - s = 0 ∨ 1 ≤ k := by
          rcases Nat.eq_zero_or_pos k with z | z
          · subst z
            have := hs.uniq (M11.stop_1 (by omega))
            omega
          · exact .inr z
        refine ⟨_, _, _, _, _, rfl, n' - s, k, xs ++ zs ++ [.ref t1] ++ ts, inner, ⟨by omega, by omega, by omega, hk0⟩, by omega, hc, by omega, e5, hin, by rw [List.length_append, List.length_append, List.length_append, hts]; show xs.length + zs.length + 1 + (s - 1) + inner.length ≤ 50000; omega, fun ys H6 h6 u6 b6 => ?_⟩
        walk_at "rd"
        refine ⟨.inl ⟨rfl, _, SqL.of h6⟩, ?_⟩
        walk_at "rd"
        walk_at "nw"
        intro t3 ht3
        generalize hg : upd H6 t3 _ = H7
        have s7 : Same H6 H7 := by rw [← hg]; exact same_new ht3
        have e7 : H7 t3 = some (.tup [.str "read", .int ff]) := by rw [← hg]; exact upd_same
        clear hg
        have hyl : ys.length = inner.length := u6.length
        refine ⟨l, _, _, rfl, rfl, s7 _ _ h6, sz_lt (by rw [List.length_append, List.length_append, List.length_append, List.length_append, hts]; show xs.length + zs.length + 1 + (s - 1) + ys.length < 100000; omega), ?_⟩
        generalize hg : upd H7 l _ = H8
        have b8 : But l H7 H8 := by rw [← hg]; exact .set
        have e8 : H8 l = some (.lst (xs ++ zs ++ [.ref t1] ++ ts ++ ys ++ [.ref t3])) := by rw [← hg]; exact upd_same
        clear hg
        have l7 := s7 _ _ h6
        have u8 : Paired (IsU H8) (zs ++ [.ref t1] ++ ts ++ ys ++ [.ref t3]) (done ++ [.up o ff] ++ List.replicate (s - 1) (.up ff ff) ++ inner ++ [.read ff]) :=
          Us.app (Us.app (Us.map u5 fun v m h => ((h.but e5 b6).keep s7).but l7 b8) (Us.map u6 fun v m h => (h.keep s7).but l7 b8)) (.cons ((IsU.read t3 ff e7).but l7 b8) .nil)
        walk_at "rd"
        refine ⟨s - 1, by omega, s - 1, zs ++ [.ref t1] ++ ts ++ ys ++ [.ref t3], done ++ [.up o ff] ++ List.replicate (s - 1) (.up ff ff) ++ inner ++ [.read ff], tail, some (.int s), v7, rfl, ?_, by omega, .inr (by omega), ?_, u8, ((b15.trans b6).trans (.of s7)).trans b8, htail, ?_⟩
        · rw [show ((s - 1 : Nat) : Int) = (s : Int) - 1 by omega]
          rfl
        · rw [e8]
          simp only [List.append_assoc]
        · rw [hrest]
          simp only [List.append_assoc, List.cons_append, List.nil_append]
      · have h0 : n' = 0 := by
          have := of_ndec hcnd
          omega
        subst h0
        obtain rfl := hb1.zero
        walk_at "rd"
        rw [List.append_nil] at q
        exact q zs H1 h1 i1 b1
def spMoves : Nat → Nat → Hp → VK → Prop := fun n c H Q => ∀ l zs ms H', Same H H' → H l = none → H' l = some (.lst zs) → Paired (IsU H') zs ms → Best n c 0 1 ms → Q (.ref l) H'
end
end K47

set_option Elab.async false
set_option linter.all false
set_option maxRecDepth 100000
set_option maxHeartbeats 4000000
set_option pp.deepTerms false
set_option pp.deepTerms.threshold 12
namespace K47
open PySem PySem.Spec PyProof.Rows L2
local macro_rules | `(tactic| walk_at "ty") => `(tactic| first | exact .base (.int _) | exact .base (.bl _) | exact .base (.str _) | exact .base .non | assumption | exact .base (.tup (by assumption)) | exact .base (.lst (by assumption)))
local macro_rules | `(tactic| walk_at "cm") => `(tactic| first | exact cm_r (by decide) (by decide) | exact cm_l (by decide) (by decide) | exact cm_fmod (by decide) (by decide) | exact cm_r (by omega) (by omega) | exact cm_l (by omega) (by omega))
local macro_rules | `(tactic| walk_at "dv") => `(tactic| first | exact ⟨by decide, by decide⟩ | exact ⟨by omega, by omega⟩)
local macro_rules | `(tactic| walk_at "r1") => `(tactic| first
  | refine ⟨_, rfl, ?_⟩ | refine ⟨_, _, rfl, rfl, ?_⟩ | refine Or.inl ⟨_, rfl, ?_⟩ | refine Or.inr ⟨_, rfl, ?_⟩
  | refine And.intro (a := CMul _ _) (by walk_at "cm") ?_ | refine And.intro (a := CDivN _ _) (by walk_at "dv") ?_ | refine And.intro (a := _ ≠ (0 : Int)) (by first | decide | omega) ?_ | refine And.intro (a := scal _ _ = true) rfl ?_ | refine ⟨_, _, _, _, rfl, rfl, SqL.of (by first | exact upd_same | assumption), rfl, ?_⟩ | refine ⟨_, _, _, _, rfl, rfl, (by first | exact upd_same | assumption), rfl, ?_⟩ | refine ⟨_, _, rfl, ?_⟩ | refine And.intro (a := (_ : V) = V.non) rfl ?_ | refine And.intro (a := CPow _ _) ⟨by decide, by decide, by decide⟩ ?_ | refine And.intro (a := (_ : List V) = []) rfl ?_ | refine ⟨_, _, rfl, SqT.of (by first | exact upd_same | assumption), rfl, ?_⟩
  | refine ⟨_, _, _, _, rfl, rfl, SqT.of (by first | exact upd_same | assumption), rfl, ?_⟩
  | refine ⟨_, _, _, _, true, rfl, ClsV.ty _, (by walk_at "ty"), kit_ty (by decide +kernel), ?_⟩ | refine ⟨_, _, _, _, false, rfl, ClsV.ty _, (by walk_at "ty"), kit_ty (by decide +kernel), ?_⟩)
local macro_rules | `(tactic| walk_at "rd") => `(tactic| repeat walk_at "r1")
local macro_rules | `(tactic| walk_at "yes") => `(tactic| (change (if true = true then _ else _); rw [if_pos rfl]))
local macro_rules | `(tactic| walk_at "no") => `(tactic| (change (if false = true then _ else _); rw [if_neg Bool.false_ne_true]))
local macro_rules | `(tactic| walk_at "nw") => `(tactic| refine And.intro (a := _ ≤ sizeLine) (sz_le (Nat.le_of_ble_eq_true rfl)) ?_)

section
variable {P : Program} {w : World} {K : PySem.W.Frag} {mg : Str → Option Value} {base : Heap}
variable {C_VaultError C_NumberError C_BadPrime C_BadTable C_BadCells C_ShapeError C_PaperError C_BadMove fV fI_BadMove fI_BadCells fI_BadPrime fI_BadTable : Addr}
variable (T : Txt P K mg C_VaultError C_NumberError C_BadPrime C_BadTable C_BadCells C_ShapeError C_PaperError C_BadMove fV fI_BadMove fI_BadCells fI_BadPrime fI_BadTable)
include T
omit T in
theorem Best.ex : ∀ (N n : Nat), n ≤ N → ∀ (c : Nat) (o f : Int), ∃ ms, Best n c o f ms
  | 0, n, h, c, o, f => by
    obtain rfl : n = 0 := by omega
    exact ⟨[], .nil c o f⟩
  | N + 1, n, h, c, o, f => by
    by_cases h0 : n = 0
    · subst h0
      exact ⟨[], .nil c o f⟩
    · obtain ⟨s, hs⟩ := stop_ex (n := n) (c := c) (by omega)
      have lo := hs.lo
      have hi := hs.hi
      obtain ⟨ys, hy⟩ := Best.ex N (s - 1) (by omega) c o f
      cases c with
      | zero => exact ⟨_, .last n s o f ys hs hy⟩
      | succ c =>
        obtain ⟨xs, hx⟩ := Best.ex N (n - s) (by omega) c f (f + 1)
        exact ⟨_, .more n c s o f xs ys hs hx hy⟩
omit T in
theorem Best.len {n c : Nat} {o f : Int} {ms : List Mv} (x : Best n c o f ms) : (ms.length : Int) = M11.T n (c + 1) + n := by
  induction x with
  | nil c o f =>
    rw [M11.T_0]
    rfl
  | last n s o f ys h bb ih =>
    have lo := h.lo
    have hi := h.hi
    obtain rfl : s = n := h.uniq (M11.stop_1 (by omega))
    have z := h.at_
    unfold M11.sm at z
    rw [if_pos rfl, if_neg (Nat.lt_irrefl s)] at z
    have z := Option.some.inj z
    rw [List.length_cons, List.length_append, List.length_replicate, List.length_cons]
    have ih : (ys.length : Int) = M11.T (s - 1) 1 + ((s - 1 : Nat) : Int) := ih
    show _ = M11.T s 1 + (s : Int)
    have z : (s : Int) + M11.T (s - 1) 1 = M11.T s 1 := z
    omega
  | more n k s o f xs ys h aa bb iha ihb =>
    have lo := h.lo
    have hi := h.hi
    have z := h.at_
    unfold M11.sm at z
    rw [if_neg (Nat.succ_ne_zero k)] at z
    have z := Option.some.inj z
    rw [List.length_cons, List.length_append, List.length_replicate, List.length_append, List.length_cons]
    omega
omit T in
theorem T_small {n c : Nat} (hn : n ≤ 120) : M11.T n (c + 1) ≤ 14520 := by
  obtain ⟨r, hr, e⟩ := M11.T_is n c
  have hle := hr.le
  rw [e]
  unfold M11.S
  have h1 : (r : Int) * ((n : Int) + 1) ≤ 120 * 121 := Int.mul_le_mul (by omega) (by omega) (by omega) (by omega)
  omega
theorem ok_move_list {f : Addr} {fd : FuncData} (F : Fun K "move_list" "move_list" s_move_list f fd) {f_need_cells : Addr} {fd_need_cells : FuncData} (D_need_cells : Def K mg "need_cells" s_need_cells p_need_cells f_need_cells fd_need_cells) (G_need_cells : FnOk P w K mg base (L2N.CX P w) 3 f_need_cells fd_need_cells p_need_cells (spNeed C_BadCells)) {f_write_moves : Addr} {fd_write_moves : FuncData} (D_write_moves : Def K mg "_write_moves" s_write_moves p_write_moves f_write_moves fd_write_moves) (G_write_moves : FnOk P w K mg base (L2N.CX P w) 130 f_write_moves fd_write_moves p_write_moves (spWr 124)) : FnOk P w K mg base (L2N.CX P w) 131 f fd p_move_list (spR C_BadCells spMoves) := by
  refine F.okN sc_move_list (fun vs H Q E h => ?_) (fun cdv A outer s H vs Q E hr h => ?_)
  · obtain ⟨a, b, rfl, _⟩ := h
    rfl
  · obtain ⟨a, b, rfl, q⟩ := h
    have tk := L2N.takes_of (X := cxOf (L2N.CX P w) P w K mg base N_move_list "move_list" (defScope s_move_list) f cdv A outer s H E) rfl rfl rfl rfl
    refine ⟨_, (pss_cons (ps_expr (pe_callS G_need_cells (hr.mono (by first | decide | omega)) rfl D_need_cells.g D_need_cells.fn.kp D_need_cells.b (fun σ => L2N.passAt tk σ) (pa_cons (pv 1) pa_nil)))
      (pss_cons (ps_set (i := 2) sc_move_list.nd rfl (Or.inl rfl) (by exact (pe_lst pa_nil)))
      (pss_cons (ps_expr (pe_callS G_write_moves (hr.mono (by first | decide | omega)) rfl D_write_moves.g D_write_moves.fn.kp D_write_moves.b (fun σ => L2N.passAt tk σ) (pa_cons (pv 0) (pa_cons pe_int (pa_cons pe_int (pa_cons (pv 1) (pa_cons (pv 2) pa_nil)))))))
      (pss_one (ps_ret (by exact (pv 2))))))), ?_⟩
    walk_at "rd"
    rcases q with ⟨n', c', ⟨rfl, rfl⟩, hn, hc, q⟩ | ⟨h, q⟩
    · refine .inl ⟨_, rfl, by omega, ?_⟩
      walk_at "rd"
      walk_at "nw"
      intro l hl
      walk_at "rd"
      obtain ⟨ms, hb⟩ := Best.ex n' n' (Nat.le_refl _) c' 0 1
      have hlen := hb.len
      have hT := T_small (c := c') hn
      refine ⟨_, _, _, _, _, rfl, n', c' + 1, [], ms, ⟨rfl, by omega, by show c' + 1 ≤ 123; omega, .inr (by omega)⟩, hn, by omega, by omega, upd_same, hb, by show 0 + ms.length ≤ 50000; omega, fun ys H1 h1 u1 b1 => ?_⟩
      walk_at "rd"
      refine q l ys ms H1 (fun b o e => b1 b o (fun z => by rw [z, hl] at e; cases e) (same_new hl b o e)) hl ?_ u1 hb
      rw [h1, List.nil_append]
    · exact .inr ⟨h, q⟩
end
end K47

set_option Elab.async false
set_option linter.all false
set_option maxRecDepth 100000
set_option maxHeartbeats 4000000
set_option pp.deepTerms false
set_option pp.deepTerms.threshold 12
namespace K47
open PySem PySem.Spec PyProof.Rows L2
local macro_rules | `(tactic| walk_at "ty") => `(tactic| first | exact .base (.int _) | exact .base (.bl _) | exact .base (.str _) | exact .base .non | assumption | exact .base (.tup (by assumption)) | exact .base (.lst (by assumption)))
local macro_rules | `(tactic| walk_at "cm") => `(tactic| first | exact cm_r (by decide) (by decide) | exact cm_l (by decide) (by decide) | exact cm_fmod (by decide) (by decide) | exact cm_r (by omega) (by omega) | exact cm_l (by omega) (by omega))
local macro_rules | `(tactic| walk_at "dv") => `(tactic| first | exact ⟨by decide, by decide⟩ | exact ⟨by omega, by omega⟩)
local macro_rules | `(tactic| walk_at "r1") => `(tactic| first
  | refine ⟨_, rfl, ?_⟩ | refine ⟨_, _, rfl, rfl, ?_⟩ | refine Or.inl ⟨_, rfl, ?_⟩ | refine Or.inr ⟨_, rfl, ?_⟩
  | refine And.intro (a := CMul _ _) (by walk_at "cm") ?_ | refine And.intro (a := CDivN _ _) (by walk_at "dv") ?_ | refine And.intro (a := _ ≠ (0 : Int)) (by first | decide | omega) ?_ | refine And.intro (a := scal _ _ = true) rfl ?_ | refine ⟨_, _, _, _, rfl, rfl, SqL.of (by first | exact upd_same | assumption), rfl, ?_⟩ | refine ⟨_, _, _, _, rfl, rfl, (by first | exact upd_same | assumption), rfl, ?_⟩ | refine ⟨_, _, rfl, ?_⟩ | refine And.intro (a := (_ : V) = V.non) rfl ?_ | refine And.intro (a := CPow _ _) ⟨by decide, by decide, by decide⟩ ?_ | refine And.intro (a := (_ : List V) = []) rfl ?_ | refine ⟨_, _, rfl, SqT.of (by first | exact upd_same | assumption), rfl, ?_⟩
  | refine ⟨_, _, _, _, rfl, rfl, SqT.of (by first | exact upd_same | assumption), rfl, ?_⟩
  | refine ⟨_, _, _, _, true, rfl, ClsV.ty _, (by walk_at "ty"), kit_ty (by decide +kernel), ?_⟩ | refine ⟨_, _, _, _, false, rfl, ClsV.ty _, (by walk_at "ty"), kit_ty (by decide +kernel), ?_⟩)
local macro_rules | `(tactic| walk_at "rd") => `(tactic| repeat walk_at "r1")
local macro_rules | `(tactic| walk_at "yes") => `(tactic| (change (if true = true then _ else _); rw [if_pos rfl]))
local macro_rules | `(tactic| walk_at "no") => `(tactic| (change (if false = true then _ else _); rw [if_neg Bool.false_ne_true]))
local macro_rules | `(tactic| walk_at "nw") => `(tactic| refine And.intro (a := _ ≤ sizeLine) (sz_le (Nat.le_of_ble_eq_true rfl)) ?_)

section
variable {P : Program} {w : World} {K : PySem.W.Frag} {mg : Str → Option Value} {base : Heap}
variable {C_VaultError C_NumberError C_BadPrime C_BadTable C_BadCells C_ShapeError C_PaperError C_BadMove fV fI_BadMove fI_BadCells fI_BadPrime fI_BadTable : Addr}
variable (T : Txt P K mg C_VaultError C_NumberError C_BadPrime C_BadTable C_BadCells C_ShapeError C_PaperError C_BadMove fV fI_BadMove fI_BadCells fI_BadPrime fI_BadTable)
include T
def HeldD (kvs : List (Key × V)) (h : Int → Option Int) : Prop := ∀ x : Int, valV kvs (Sum.inl x) = (h x).map V.int
omit T in
theorem HeldD.set {kvs : List (Key × V)} {h : Int → Option Int} (x : HeldD kvs h) (b v : Int) : HeldD (putK kvs (Sum.inl b) (.int v)) (setH h b v) := fun y => by
  rw [valV_put]
  by_cases e : y = b
  · subst e
    rw [if_pos rfl]
    show _ = (if y = y then some v else h y).map V.int
    rw [if_pos rfl]
    rfl
  · rw [if_neg (fun z => e (Sum.inl.inj z))]
    show _ = (if y = b then some v else h y).map V.int
    rw [if_neg e]
    exact x y
omit T in
theorem putK_len {kvs : List (Key × V)} {k : Key} {v : V} : (putK kvs k v).length ≤ kvs.length + 1 := by
  unfold putK
  split
  · rw [List.length_map]
    omega
  · rw [List.length_append]
    exact Nat.le_refl _
omit T in
theorem stepM_neg {n c : Int} {s : PlaySt} {m : Mv} (h : s.due = 0 ∨ ¬ okM c m) : stepM n c s m = none := by
  unfold stepM
  rw [if_pos h]
def spCheck (K : PySem.W.Frag) (Cc Cm : Addr) : Sp := fun vs H Q E => ∃ (n : Int) (b v : V), vs = [.int n, b, v] ∧
  ((∃ c : Int, b = .int c ∧ (0 ≤ n ∧ n ≤ 120 ∧ 1 ≤ c ∧ c ≤ 120) ∧ ∃ (a : Addr) (xs : List V) (ms : List Mv), v = .ref a ∧ (H a = some (.lst xs) ∨ H a = some (.tup xs)) ∧ xs.length ≤ 20000 ∧ IsMs H xs ms ∧
    ∀ H', Same H H' → (∀ k, verdict n c ms = .inl k → Q (.int k) H') ∧ ∀ j : Nat, verdict n c ms = .inr j → ∀ d, H' d = none → E (.ref Cm) (some d) (upd H' d (.xd (excD ["at"] "BadMove" [.int j])))) ∨
  ((∃ i, b = .int i ∧ i < 1) ∨ (∃ n, NotInt H b n)) ∧ ∀ d, H d = none → E (.ref Cc) (some d) (upd H d (.xd (excD ["cells"] "BadCells" [b]))))
def CkI (n c : Int) (a d : Addr) (ms : List Mv) (H : Hp) : Nat → L2.St → Hp → Prop := fun i σ H' => ∃ (kvs : List (Key × V)) (s : PlaySt) (v6 v7 v8 : Option V),
  σ = [some (.int n), some (.int c), some (.ref a), some (.ref d), some (.int s.due), some (.int s.ups), v6, v7, v8] ∧ Same H H' ∧ H' d = some (.dK kvs) ∧ HeldD kvs s.h ∧ kvs.length ≤ i + 1 ∧ 0 ≤ s.due ∧ s.due ≤ n ∧
  runM n c ms 0 (st0 n) = runM n c (ms.drop i) i s
omit T in
theorem HeldD.start {n : Int} : HeldD [(Sum.inl 0, .int 0)] (st0 n).h := fun x => by
  by_cases e : x = 0
  · subst e
    rfl
  · rw [valV_neg (fun z => e (Sum.inl.inj z).symm), valV_nil]
    show none = (if x = 0 then some 0 else none).map V.int
    rw [if_neg e]
    rfl
theorem ok_check_moves {f : Addr} {fd : FuncData} (F : Fun K "check_moves" "check_moves" s_check_moves f fd) {f_need_cells : Addr} {fd_need_cells : FuncData} (D_need_cells : Def K mg "need_cells" s_need_cells p_need_cells f_need_cells fd_need_cells) (G_need_cells : FnOk P w K mg base (L2N.CX P w) 3 f_need_cells fd_need_cells p_need_cells (spNeed C_BadCells)) {f_is_move : Addr} {fd_is_move : FuncData} (D_is_move : Def K mg "_is_move" s_is_move p_is_move f_is_move fd_is_move) (G_is_move : FnOk P w K mg base CX0 3 f_is_move fd_is_move p_is_move spIsM) : FnOk P w K mg base (L2N.CX P w) 4 f fd p_check_moves (spCheck K C_BadCells C_BadMove) := by
  refine F.okN sc_check_moves (fun vs H Q E h => ?_) (fun cdv A outer s H vs Q E hr h => ?_)
  · obtain ⟨n, b, v, rfl, _⟩ := h
    rfl
  · obtain ⟨n, b, v, rfl, q⟩ := h
    have tk := L2N.takes_of (X := cxOf (L2N.CX P w) P w K mg base N_check_moves "check_moves" (defScope s_check_moves) f cdv A outer s H E) rfl rfl rfl rfl
    have passO := passes_of (X := cxOf (L2N.CX P w) P w K mg base N_check_moves "check_moves" (defScope s_check_moves) f cdv A outer s H E) rfl
    refine ⟨_, (pss_cons (ps_expr (pe_callS G_need_cells (hr.mono (by first | decide | omega)) rfl D_need_cells.g D_need_cells.fn.kp D_need_cells.b (fun σ => L2N.passAt tk σ) (pa_cons (pv 1) pa_nil)))
      (pss_cons (ps_set (i := 3) sc_check_moves.nd rfl (Or.inl rfl) (by exact (pe_disp (pps_cons pe_int pe_int pps_nil) (by rfl) (by rfl) (fun z => by cases z) (by decide))))
      (pss_cons (ps_set (i := 4) sc_check_moves.nd rfl (Or.inl rfl) (by exact (pv 0)))
      (pss_cons (ps_set (i := 5) sc_check_moves.nd rfl (Or.inl rfl) (by exact pe_int))
      (pss_cons (ps_for passO rfl (pi_enum2 (by rfl) T.b_enumerate (pa_cons (pv 2) pa_nil)) (pg_tup rfl (pgs_cons (pg_name (i := 6) sc_check_moves.nd rfl (Or.inl rfl)) (pgs_cons (pg_name (i := 7) sc_check_moves.nd rfl (Or.inl rfl)) pgs_nil))) (pss_cons (ps_if (PW.pt (pw_or (pt_cmpR op_eq (pv 4) pe_int (nomark _)) (pw_or (pt_not (pt_val (pe_call G_is_move (hr.mono (by first | decide | omega)) rfl D_is_move.g D_is_move.fn.kp D_is_move.b .nil pass0 (pa_cons (pv 7) (pa_cons (pv 1) pa_nil))))) (pw_or1 (pt_cmp (pc_dnotin (hu_of hr) (pe_ix ix_tup (pv 7) pe_int (fun _ _ => rfl)) (pv 3))))))) (pss_one (ps_raiseN rfl T.lf_BadMove hr (L2N.takes_of rfl rfl rfl rfl) T.g_BadMove (pa_cons (pv 6) pa_nil))) pss_nil)
          (pss_cons (ps_set (i := 8) sc_check_moves.nd rfl (Or.inl rfl) (by exact (pe_dget (hu_of hr) (pv 3) (pe_ix ix_tup (pv 7) pe_int (fun _ _ => rfl)) (fun _ _ => rfl))))
          (pss_one (ps_if (PW.pt (pw_and (pt_cmpR op_eq (pe_ix ix_tup (pv 7) pe_int (fun _ _ => rfl)) pe_str (nomark _)) (pw_and1 (pt_cmpR op_lt (pv 8) (pv 0) (nomark _))))) (pss_cons (ps_dput (hu_of hr) (pv 3) (pe_ix ix_tup (pv 7) pe_int (fun _ _ => rfl)) (pe_op op_add (pv 8) pe_int) rfl)
              (pss_one (ps_aug (i := 5) sc_check_moves.nd rfl (Or.inl rfl) pe_int ip_add))) (pss_one (ps_if (PW.pt (pw_and (pt_cmpR op_eq (pe_ix ix_tup (pv 7) pe_int (fun _ _ => rfl)) pe_str (nomark _)) (pw_and1 (pt_cmpR op_eq (pv 8) (pv 4) (nomark _))))) (pss_one (ps_aug (i := 4) sc_check_moves.nd rfl (Or.inl rfl) pe_int ip_sub)) (pss_one (ps_raiseN rfl T.lf_BadMove hr (L2N.takes_of rfl rfl rfl rfl) T.g_BadMove (pa_cons (pv 6) pa_nil))))))))))
      (pss_cons (ps_if (pt_cmpR op_gt (pv 4) pe_int (nomark _)) (pss_one (ps_raiseN rfl T.lf_BadMove hr (L2N.takes_of rfl rfl rfl rfl) T.g_BadMove (pa_cons (pe_callB call_len_seq (by rfl) T.b_len (by first | exact PySem.boot_len | decide +kernel) (pa_cons (pv 2) pa_nil)) pa_nil))) pss_nil)
      (pss_one (ps_ret (by exact (pv 5)))))))))), ?_⟩
    walk_at "rd"
    rcases q with ⟨c, rfl, ⟨n0, n1, c0, c1⟩, a, xs, ms, rfl, hv, hz, hm, q⟩ | ⟨h, q⟩
    · refine .inl ⟨_, rfl, by omega, ?_⟩
      walk_at "rd"
      intro d hd
      refine ⟨upd_same, [(Sum.inl 0, .int 0)], rfl, by show 1 ≤ 15; decide, ?_⟩
      generalize hg : upd (upd H d _) d _ = H1
      have s1 : Same H H1 := by rw [← hg, upd2]; exact same_new hd
      have e1 : H1 d = some (.dK [(Sum.inl 0, .int 0)]) := by rw [← hg]; exact upd_same
      clear hg
      walk_at "rd"
      have h0 : CkI n c a d ms H 0 [some (.int n), some (.int c), some (.ref a), some (.ref d), some (.int n), some (.int 0), none, none, none] H1 := ⟨_, st0 n, none, none, none, rfl, s1, e1, .start, Nat.le_refl _, n0, Int.le_refl _, rfl⟩
      rcases hv with hv | hv
      · refine .inl ⟨⟨xs, SqL.of (s1 _ _ hv)⟩, for_enumL (K := K) (a := a) (xs := xs) (CkI n c a d ms H) h0 (fun i σ H' _ z => ?_) ?_ ?_⟩
        · obtain ⟨_, _, _, _, _, _, z, _⟩ := z
          exact SqL.of (z _ _ hv)
        · rintro i x t σ H5 hi ht ⟨kvs, s, v6, v7, v8, rfl, s5, e5, hh, hk, d0, d1, hrun⟩
          obtain ⟨m, hmi, him⟩ := pairedAt hm hi
          rw [runM_at hmi] at hrun
          generalize hg : upd H5 t _ = H6
          have st : Same H5 H6 := by rw [← hg]; exact same_new ht
          have e6t : H6 t = some (.tup [.int i, x]) := by rw [← hg]; exact upd_same
          have e6 := st _ _ e5
          have s6 : Same H H6 := s5.trans st
          clear hg
          refine ⟨t, [.int i, x], rfl, SqT.of e6t, rfl, ?_⟩
          walk_at "rd"
          have bad : stepM n c s m = none → ∀ H7, Same H6 H7 → ∀ e, H7 e = none → E (.ref C_BadMove) (some e) (upd H7 e (.xd (excD ["at"] "BadMove" [.int (i : Nat)]))) := by
            intro hn H7 s7
            rw [hn] at hrun
            refine (q H7 (s6.trans s7)).2 i ?_
            unfold verdict
            rw [hrun]
          refine ite2 (fun hc => ?_) (fun hc => ?_)
          · have hdue : s.due = 0 := V.int.inj (of_decide_eq_true hc)
            walk_at "rd"
            exact ⟨rfl, fun e he => bad (stepM_neg (.inl hdue)) _ (fun _ _ z => z) e he⟩
          have hdue : s.due ≠ 0 := fun z => of_ndec hc (congrArg V.int z)
          walk_at "rd"
          have him6 := him.keep s6
          refine ⟨m, him6, fun bb hb => ?_⟩
          cases bb with
          | false =>
            have hno : ¬ okM c m := fun z => absurd (hb.mpr z) Bool.false_ne_true
            walk_at "rd"
            exact ⟨rfl, fun e he => bad (stepM_neg (.inr hno)) _ (fun _ _ z => z) e he⟩
          | true =>
            have hok := hb.mp rfl
            have hif : ¬ (s.due = 0 ∨ ¬ okM c m) := fun z => z.elim hdue fun w => w hok
            clear him hb
            cases him6 with
            | up w a1 b1 hw =>
              obtain ⟨⟨a0, a1'⟩, b0, b1'⟩ := hok
              iterate 4 walk_at "r1"
              refine ⟨d, _, rfl, DGet.k (k := Sum.inl a1) e6, ?_⟩
              rw [hh a1]
              cases hsa : s.h a1 with
              | none =>
                have hn : stepM n c s (.up a1 b1) = none := by
                  unfold stepM
                  rw [if_neg hif]
                  simp only [hsa]
                walk_at "rd"
                exact ⟨rfl, fun e he => bad hn _ (fun _ _ z => z) e he⟩
              | some i0 =>
                have hg1 : DGet H6 d (.int a1) (some (.int i0)) := by
                  have := DGet.k (k := Sum.inl a1) e6
                  rwa [hh a1, hsa] at this
                iterate 4 walk_at "r1"
                refine ⟨d, .int i0, rfl, hg1, ?_⟩
                walk_at "rd"
                refine ite2 (fun hc2 => ?_) (fun hc2 => ?_)
                · have hlt := of_decide_eq_true hc2
                  have hn : stepM n c s (.up a1 b1) = some ⟨setH s.h b1 (i0 + 1), s.due, s.ups + 1⟩ := by
                    unfold stepM
                    rw [if_neg hif]
                    simp only [hsa]
                    rw [if_pos hlt]
                  rw [hn] at hrun
                  have hi3 : i < xs.length := (List.getElem?_eq_some_iff.mp hi).1
                  iterate 5 walk_at "r1"
                  refine ⟨d, _, rfl, DPut.k (k := Sum.inl b1) e6 (sz_lt (by omega)), ?_⟩
                  walk_at "rd"
                  exact ⟨_, ⟨setH s.h b1 (i0 + 1), s.due, s.ups + 1⟩, _, _, _, rfl, s6.mut hd, upd_same, hh.set b1 (i0 + 1), Nat.le_trans putK_len (by omega), d0, d1, hrun⟩
                · have hn : stepM n c s (.up a1 b1) = none := by
                    unfold stepM
                    rw [if_neg hif]
                    simp only [hsa]
                    rw [if_neg (of_ndec hc2)]
                  walk_at "rd"
                  exact ⟨rfl, fun e he => bad hn _ (fun _ _ z => z) e he⟩
            | read w a1 hw =>
              obtain ⟨a0, a1'⟩ := hok
              iterate 4 walk_at "r1"
              refine ⟨d, _, rfl, DGet.k (k := Sum.inl a1) e6, ?_⟩
              rw [hh a1]
              cases hsa : s.h a1 with
              | none =>
                have hn : stepM n c s (.read a1) = none := by
                  unfold stepM
                  rw [if_neg hif]
                  show (if s.h a1 = some s.due then _ else _) = none
                  rw [if_neg fun w => by rw [hsa] at w; cases w]
                walk_at "rd"
                exact ⟨rfl, fun e he => bad hn _ (fun _ _ z => z) e he⟩
              | some i0 =>
                have hg1 : DGet H6 d (.int a1) (some (.int i0)) := by
                  have := DGet.k (k := Sum.inl a1) e6
                  rwa [hh a1, hsa] at this
                iterate 4 walk_at "r1"
                refine ⟨d, .int i0, rfl, hg1, ?_⟩
                walk_at "rd"
                refine ite2 (fun hc2 => ?_) (fun hc2 => ?_)
                · have hz : i0 = s.due := V.int.inj (of_decide_eq_true hc2)
                  have hn : stepM n c s (.read a1) = some ⟨s.h, s.due - 1, s.ups⟩ := by
                    unfold stepM
                    rw [if_neg hif]
                    show (if s.h a1 = some s.due then _ else _) = _
                    rw [if_pos (by rw [hsa, hz])]
                  rw [hn] at hrun
                  walk_at "rd"
                  exact ⟨kvs, ⟨s.h, s.due - 1, s.ups⟩, _, _, _, rfl, s6, e6, hh, by omega, by show 0 ≤ s.due - 1; omega, by show s.due - 1 ≤ n; omega, hrun⟩
                · have hz : i0 ≠ s.due := fun w => of_ndec hc2 (congrArg V.int w)
                  have hn : stepM n c s (.read a1) = none := by
                    unfold stepM
                    rw [if_neg hif]
                    show (if s.h a1 = some s.due then _ else _) = none
                    rw [if_neg fun w => by
                      rw [hsa] at w
                      exact hz (Option.some.inj w)]
                  walk_at "rd"
                  exact ⟨rfl, fun e he => bad hn _ (fun _ _ z => z) e he⟩
            | _ => exact hok.elim
        · rintro σ H5 ⟨kvs, s, v6, v7, v8, rfl, s5, e5, hh, hk, d0, d1, hrun⟩
          walk_at "rd"
          refine ite2 (fun hc => ?_) (fun hc => ?_)
          · have hz := of_decide_eq_true hc
            walk_at "rd"
            refine ⟨a, xs, rfl, ?_, ?_⟩
            · first | exact .inl (SqL.of (s5 _ _ hv)) | exact .inr (SqT.of (s5 _ _ hv))
            walk_at "rd"
            refine ⟨rfl, fun e he => ?_⟩
            refine (q H5 s5).2 xs.length ?_ e he
            have hlen : ms.length = xs.length := hm.length.symm
            unfold verdict
            rw [hrun, ← hlen, List.drop_length]
            show (if s.due > 0 then (Sum.inr ms.length : Int ⊕ Nat) else _) = _
            rw [if_pos hz]
          · have hz := of_ndec hc
            walk_at "rd"
            refine (q H5 s5).1 s.ups ?_
            have hlen : ms.length = xs.length := hm.length.symm
            unfold verdict
            rw [hrun, ← hlen, List.drop_length]
            show (if s.due > 0 then _ else (Sum.inl s.ups : Int ⊕ Nat)) = _
            rw [if_neg hz]
      · refine .inr ⟨⟨xs, SqT.of (s1 _ _ hv)⟩, for_enumT (K := K) (a := a) (xs := xs) (CkI n c a d ms H) h0 (fun i σ H' _ z => ?_) ?_ ?_⟩
        · obtain ⟨_, _, _, _, _, _, z, _⟩ := z
          exact SqT.of (z _ _ hv)
        · rintro i x t σ H5 hi ht ⟨kvs, s, v6, v7, v8, rfl, s5, e5, hh, hk, d0, d1, hrun⟩
          obtain ⟨m, hmi, him⟩ := pairedAt hm hi
          rw [runM_at hmi] at hrun
          generalize hg : upd H5 t _ = H6
          have st : Same H5 H6 := by rw [← hg]; exact same_new ht
          have e6t : H6 t = some (.tup [.int i, x]) := by rw [← hg]; exact upd_same
          have e6 := st _ _ e5
          have s6 : Same H H6 := s5.trans st
          clear hg
          refine ⟨t, [.int i, x], rfl, SqT.of e6t, rfl, ?_⟩
          walk_at "rd"
          have bad : stepM n c s m = none → ∀ H7, Same H6 H7 → ∀ e, H7 e = none → E (.ref C_BadMove) (some e) (upd H7 e (.xd (excD ["at"] "BadMove" [.int (i : Nat)]))) := by
            intro hn H7 s7
            rw [hn] at hrun
            refine (q H7 (s6.trans s7)).2 i ?_
            unfold verdict
            rw [hrun]
          refine ite2 (fun hc => ?_) (fun hc => ?_)
          · have hdue : s.due = 0 := V.int.inj (of_decide_eq_true hc)
            walk_at "rd"
            exact ⟨rfl, fun e he => bad (stepM_neg (.inl hdue)) _ (fun _ _ z => z) e he⟩
          have hdue : s.due ≠ 0 := fun z => of_ndec hc (congrArg V.int z)
          walk_at "rd"
          have him6 := him.keep s6
          refine ⟨m, him6, fun bb hb => ?_⟩
          cases bb with
          | false =>
            have hno : ¬ okM c m := fun z => absurd (hb.mpr z) Bool.false_ne_true
            walk_at "rd"
            exact ⟨rfl, fun e he => bad (stepM_neg (.inr hno)) _ (fun _ _ z => z) e he⟩
          | true =>
            have hok := hb.mp rfl
            have hif : ¬ (s.due = 0 ∨ ¬ okM c m) := fun z => z.elim hdue fun w => w hok
            clear him hb
            cases him6 with
            | up w a1 b1 hw =>
              obtain ⟨⟨a0, a1'⟩, b0, b1'⟩ := hok
              iterate 4 walk_at "r1"
              refine ⟨d, _, rfl, DGet.k (k := Sum.inl a1) e6, ?_⟩
              rw [hh a1]
              cases hsa : s.h a1 with
              | none =>
                have hn : stepM n c s (.up a1 b1) = none := by
                  unfold stepM
                  rw [if_neg hif]
                  simp only [hsa]
                walk_at "rd"
                exact ⟨rfl, fun e he => bad hn _ (fun _ _ z => z) e he⟩
              | some i0 =>
                have hg1 : DGet H6 d (.int a1) (some (.int i0)) := by
                  have := DGet.k (k := Sum.inl a1) e6
                  rwa [hh a1, hsa] at this
                iterate 4 walk_at "r1"
                refine ⟨d, .int i0, rfl, hg1, ?_⟩
                walk_at "rd"
                refine ite2 (fun hc2 => ?_) (fun hc2 => ?_)
                · have hlt := of_decide_eq_true hc2
                  have hn : stepM n c s (.up a1 b1) = some ⟨setH s.h b1 (i0 + 1), s.due, s.ups + 1⟩ := by
                    unfold stepM
                    rw [if_neg hif]
                    simp only [hsa]
                    rw [if_pos hlt]
                  rw [hn] at hrun
                  have hi3 : i < xs.length := (List.getElem?_eq_some_iff.mp hi).1
                  iterate 5 walk_at "r1"
                  refine ⟨d, _, rfl, DPut.k (k := Sum.inl b1) e6 (sz_lt (by omega)), ?_⟩
                  walk_at "rd"
                  exact ⟨_, ⟨setH s.h b1 (i0 + 1), s.due, s.ups + 1⟩, _, _, _, rfl, s6.mut hd, upd_same, hh.set b1 (i0 + 1), Nat.le_trans putK_len (by omega), d0, d1, hrun⟩
                · have hn : stepM n c s (.up a1 b1) = none := by
                    unfold stepM
                    rw [if_neg hif]
                    simp only [hsa]
                    rw [if_neg (of_ndec hc2)]
                  walk_at "rd"
                  exact ⟨rfl, fun e he => bad hn _ (fun _ _ z => z) e he⟩
            | read w a1 hw =>
              obtain ⟨a0, a1'⟩ := hok
              iterate 4 walk_at "r1"
              refine ⟨d, _, rfl, DGet.k (k := Sum.inl a1) e6, ?_⟩
              rw [hh a1]
              cases hsa : s.h a1 with
              | none =>
                have hn : stepM n c s (.read a1) = none := by
                  unfold stepM
                  rw [if_neg hif]
                  show (if s.h a1 = some s.due then _ else _) = none
                  rw [if_neg fun w => by rw [hsa] at w; cases w]
                walk_at "rd"
                exact ⟨rfl, fun e he => bad hn _ (fun _ _ z => z) e he⟩
              | some i0 =>
                have hg1 : DGet H6 d (.int a1) (some (.int i0)) := by
                  have := DGet.k (k := Sum.inl a1) e6
                  rwa [hh a1, hsa] at this
                iterate 4 walk_at "r1"
                refine ⟨d, .int i0, rfl, hg1, ?_⟩
                walk_at "rd"
                refine ite2 (fun hc2 => ?_) (fun hc2 => ?_)
                · have hz : i0 = s.due := V.int.inj (of_decide_eq_true hc2)
                  have hn : stepM n c s (.read a1) = some ⟨s.h, s.due - 1, s.ups⟩ := by
                    unfold stepM
                    rw [if_neg hif]
                    show (if s.h a1 = some s.due then _ else _) = _
                    rw [if_pos (by rw [hsa, hz])]
                  rw [hn] at hrun
                  walk_at "rd"
                  exact ⟨kvs, ⟨s.h, s.due - 1, s.ups⟩, _, _, _, rfl, s6, e6, hh, by omega, by show 0 ≤ s.due - 1; omega, by show s.due - 1 ≤ n; omega, hrun⟩
                · have hz : i0 ≠ s.due := fun w => of_ndec hc2 (congrArg V.int w)
                  have hn : stepM n c s (.read a1) = none := by
                    unfold stepM
                    rw [if_neg hif]
                    show (if s.h a1 = some s.due then _ else _) = none
                    rw [if_neg fun w => by
                      rw [hsa] at w
                      exact hz (Option.some.inj w)]
                  walk_at "rd"
                  exact ⟨rfl, fun e he => bad hn _ (fun _ _ z => z) e he⟩
            | _ => exact hok.elim
        · rintro σ H5 ⟨kvs, s, v6, v7, v8, rfl, s5, e5, hh, hk, d0, d1, hrun⟩
          walk_at "rd"
          refine ite2 (fun hc => ?_) (fun hc => ?_)
          · have hz := of_decide_eq_true hc
            walk_at "rd"
            refine ⟨a, xs, rfl, ?_, ?_⟩
            · first | exact .inl (SqL.of (s5 _ _ hv)) | exact .inr (SqT.of (s5 _ _ hv))
            walk_at "rd"
            refine ⟨rfl, fun e he => ?_⟩
            refine (q H5 s5).2 xs.length ?_ e he
            have hlen : ms.length = xs.length := hm.length.symm
            unfold verdict
            rw [hrun, ← hlen, List.drop_length]
            show (if s.due > 0 then (Sum.inr ms.length : Int ⊕ Nat) else _) = _
            rw [if_pos hz]
          · have hz := of_ndec hc
            walk_at "rd"
            refine (q H5 s5).1 s.ups ?_
            have hlen : ms.length = xs.length := hm.length.symm
            unfold verdict
            rw [hrun, ← hlen, List.drop_length]
            show (if s.due > 0 then _ else (Sum.inl s.ups : Int ⊕ Nat)) = _
            rw [if_neg hz]
    · exact .inr ⟨h, q⟩
end
end K47

set_option Elab.async false
set_option linter.all false
set_option maxRecDepth 100000
set_option maxHeartbeats 4000000
set_option pp.deepTerms false
set_option pp.deepTerms.threshold 12
namespace K47
open PySem PySem.Spec PyProof.Rows L2
local macro_rules | `(tactic| walk_at "ty") => `(tactic| first | exact .base (.int _) | exact .base (.bl _) | exact .base (.str _) | exact .base .non | assumption | exact .base (.tup (by assumption)) | exact .base (.lst (by assumption)))
local macro_rules | `(tactic| walk_at "cm") => `(tactic| first | exact cm_r (by decide) (by decide) | exact cm_l (by decide) (by decide) | exact cm_fmod (by decide) (by decide) | exact cm_r (by omega) (by omega) | exact cm_l (by omega) (by omega))
local macro_rules | `(tactic| walk_at "dv") => `(tactic| first | exact ⟨by decide, by decide⟩ | exact ⟨by omega, by omega⟩)
local macro_rules | `(tactic| walk_at "r1") => `(tactic| first
  | refine ⟨_, rfl, ?_⟩ | refine ⟨_, _, rfl, rfl, ?_⟩ | refine Or.inl ⟨_, rfl, ?_⟩ | refine Or.inr ⟨_, rfl, ?_⟩
  | refine And.intro (a := CMul _ _) (by walk_at "cm") ?_ | refine And.intro (a := CDivN _ _) (by walk_at "dv") ?_ | refine And.intro (a := _ ≠ (0 : Int)) (by first | decide | omega) ?_ | refine And.intro (a := scal _ _ = true) rfl ?_ | refine ⟨_, _, _, _, rfl, rfl, SqL.of (by first | exact upd_same | assumption), rfl, ?_⟩ | refine ⟨_, _, _, _, rfl, rfl, (by first | exact upd_same | assumption), rfl, ?_⟩ | refine ⟨_, _, rfl, ?_⟩ | refine And.intro (a := (_ : V) = V.non) rfl ?_ | refine And.intro (a := CPow _ _) ⟨by decide, by decide, by decide⟩ ?_ | refine And.intro (a := (_ : List V) = []) rfl ?_ | refine ⟨_, _, rfl, SqT.of (by first | exact upd_same | assumption), rfl, ?_⟩
  | refine ⟨_, _, _, _, rfl, rfl, SqT.of (by first | exact upd_same | assumption), rfl, ?_⟩
  | refine ⟨_, _, _, _, true, rfl, ClsV.ty _, (by walk_at "ty"), kit_ty (by decide +kernel), ?_⟩ | refine ⟨_, _, _, _, false, rfl, ClsV.ty _, (by walk_at "ty"), kit_ty (by decide +kernel), ?_⟩)
local macro_rules | `(tactic| walk_at "rd") => `(tactic| repeat walk_at "r1")
local macro_rules | `(tactic| walk_at "yes") => `(tactic| (change (if true = true then _ else _); rw [if_pos rfl]))
local macro_rules | `(tactic| walk_at "no") => `(tactic| (change (if false = true then _ else _); rw [if_neg Bool.false_ne_true]))
local macro_rules | `(tactic| walk_at "nw") => `(tactic| refine And.intro (a := _ ≤ sizeLine) (sz_le (Nat.le_of_ble_eq_true rfl)) ?_)

section
variable {P : Program} {w : World} {K : PySem.W.Frag} {mg : Str → Option Value} {base : Heap}
variable {C_VaultError C_NumberError C_BadPrime C_BadTable C_BadCells C_ShapeError C_PaperError C_BadMove fV fI_BadMove fI_BadCells fI_BadPrime fI_BadTable : Addr}
variable (T : Txt P K mg C_VaultError C_NumberError C_BadPrime C_BadTable C_BadCells C_ShapeError C_PaperError C_BadMove fV fI_BadMove fI_BadCells fI_BadPrime fI_BadTable)
include T
/-! ### small things, and how they are shown -/
def SmV : V → Bool
  | .non => true
  | .bl _ => true
  | .int i => decide (-127 ≤ i ∧ i ≤ 127)
  | .str s => (s.cps.toList.all fun c => decide (c < 16 ^ 8)) && decide (s.cps.size ≤ 8)
  | _ => false
omit T in
theorem SmV.flat {v : V} (h : SmV v = true) : flatV v = true := by
  cases v <;> first | rfl | cases h
/-! ### what stands in the lists of moves -/
inductive It1 (st : Addr) (H : Hp) : V → Prop
  | flat (v : V) (h : SmV v = true) : It1 st H v
  | lst (a : Addr) (ys : List V) (n : a ≠ st) (h : H a = some (.lst ys)) (f : ∀ y ∈ ys, SmV y = true) (l : ys.length ≤ 4) : It1 st H (.ref a)
  | nil (a : Addr) (h : H a = some (.tup [])) : It1 st H (.ref a)
  | tup (a : Addr) (w : Str) (rest : List V) (h : H a = some (.tup (.str w :: rest))) (f : ∀ y ∈ (.str w :: rest), SmV y = true) (l : rest.length ≤ 3) : It1 st H (.ref a)
/-- a tuple stays a tuple -/
def TK (H H' : Hp) : Prop := ∀ b xs, H b = some (.tup xs) → H' b = some (.tup xs)
omit T in
theorem TK.but {st : Addr} {H H' : Hp} (S : Store H st) (b : ButS st H H') : TK H H' := fun t xs h => b.1 _ _ (fun z => by
  obtain ⟨_, _, _, _, _, _, _, _, e, _⟩ := S.ex
  rw [z, e] at h
  cases h) h
omit T in
theorem TK.mut {p : Addr} {H : Hp} {ys : List V} {o : HO} (e : H p = some (.lst ys)) : TK H (upd H p o) := fun t xs h => by
  rw [upd_ne fun z => by rw [z, e] at h; cases h]
  exact h
omit T in
theorem TK.of {H H' : Hp} (s : Same H H') : TK H H' := fun _ _ h => s _ _ h
omit T in
theorem TK.trans {H H1 H2 : Hp} (a : TK H H1) (b : TK H1 H2) : TK H H2 := fun t xs h => b _ _ (a _ _ h)
omit T in
theorem It1.keep {st : Addr} {H H' : Hp} {v : V} (h : It1 st H v) (S : Store H st) (b : ButS st H H') : It1 st H' v := by
  cases h with
  | flat v h => exact .flat v h
  | lst a ys n h f l => exact .lst a ys n (b.1 _ _ n h) f l
  | nil a h => exact .nil a (TK.but S b _ _ h)
  | tup a w rest h f l => exact .tup a w rest (TK.but S b _ _ h) f l
omit T in
theorem It1.ism {st : Addr} {H : Hp} {v : V} (h : It1 st H v) : ∃ m, IsM H v m := by
  cases h with
  | flat v h => exact ⟨_, .flat v (SmV.flat h)⟩
  | lst a ys n h f l => exact ⟨_, .lst a ys h⟩
  | nil a h => exact ⟨_, .nil a h⟩
  | tup a w rest h f l =>
    have fl : ∀ x ∈ rest, flatV x = true := fun x hx => SmV.flat (f x (List.mem_cons_of_mem _ hx))
    by_cases h1 : w = "up" ∧ ∃ x y, rest = [.int x, .int y]
    · obtain ⟨rfl, x, y, rfl⟩ := h1
      exact ⟨_, .up a x y h⟩
    by_cases h2 : w = "read" ∧ ∃ x, rest = [.int x]
    · obtain ⟨rfl, x, rfl⟩ := h2
      exact ⟨_, .read a x h⟩
    exact ⟨_, .tup a w rest h fl (fun e x y z => h1 ⟨e, x, y, z⟩) fun e x z => h2 ⟨e, x, z⟩⟩
omit T in
theorem It1s.ism {st : Addr} {H : Hp} : ∀ {xs : List V}, (∀ x ∈ xs, It1 st H x) → ∃ ms, IsMs H xs ms
  | [], _ => ⟨[], .nil⟩
  | x :: xs, h => by
    obtain ⟨m, hm⟩ := (h x List.mem_cons_self).ism
    obtain ⟨ms, hms⟩ := It1s.ism fun y hy => h y (List.mem_cons_of_mem _ hy)
    exact ⟨m :: ms, .cons hm hms⟩
/-- a written move -/
def UR (H : Hp) (v : V) : Prop := ∃ t w rest, v = .ref t ∧ H t = some (.tup (.str w :: rest)) ∧ (∀ y ∈ (.str w :: rest), SmV y = true) ∧ rest.length ≤ 3
omit T in
theorem UR.it {st : Addr} {H : Hp} {v : V} (h : UR H v) : It1 st H v := by
  obtain ⟨t, w, rest, rfl, h, f, l⟩ := h
  exact .tup t w rest h f l
omit T in
theorem UR.keep {H H' : Hp} {v : V} (h : UR H v) (k : TK H H') : UR H' v := by
  obtain ⟨t, w, rest, rfl, h, f, l⟩ := h
  exact ⟨t, w, rest, rfl, k _ _ h, f, l⟩
omit T in
theorem sm_int {i : Int} (h0 : 0 ≤ i) (h1 : i ≤ 127) : SmV (.int i) = true := decide_eq_true ⟨by omega, h1⟩
omit T in
theorem UR.up {H : Hp} {t : Addr} {a b : Int} (h : H t = some (.tup [.str "up", .int a, .int b])) (a0 : 0 ≤ a) (a1 : a ≤ 127) (b0 : 0 ≤ b) (b1 : b ≤ 127) : UR H (.ref t) := by
  refine ⟨t, "up", [.int a, .int b], rfl, h, fun y hy => ?_, by show 2 ≤ 3; decide⟩
  simp only [List.mem_cons, List.mem_nil_iff, or_false] at hy
  rcases hy with rfl | rfl | rfl
  · decide +kernel
  · exact sm_int a0 a1
  · exact sm_int b0 b1
omit T in
theorem UR.read {H : Hp} {t : Addr} {a : Int} (h : H t = some (.tup [.str "read", .int a])) (a0 : 0 ≤ a) (a1 : a ≤ 127) : UR H (.ref t) := by
  refine ⟨t, "read", [.int a], rfl, h, fun y hy => ?_, by show 1 ≤ 3; decide⟩
  simp only [List.mem_cons, List.mem_nil_iff, or_false] at hy
  rcases hy with rfl | rfl
  · decide +kernel
  · exact sm_int a0 a1
/-! ### the law's drawn list of moves -/
/-- a list of written moves, begun behind H -/
structure Mvs (st : Addr) (H : Hp) (p : Addr) (xs : List V) (H1 : Hp) : Prop where
  h0 : H p = none
  hl : H1 p = some (.lst xs)
  hx : ∀ x ∈ xs, UR H1 x
  S : Store H1 st
  b : ButS st H H1
omit T in
theorem Mvs.push {st p t : Addr} {H H1 : Hp} {xs : List V} {y : HO} (S0 : Store H st) (x : Mvs st H p xs H1) (ht : H1 t = none) (hu : UR (upd H1 t y) (.ref t)) : Mvs st H p (xs ++ [.ref t]) (upd (upd H1 t y) p (.lst (xs ++ [.ref t]))) := by
  have s1 : Same H1 (upd H1 t y) := same_new ht
  have hp : (upd H1 t y) p = some (.lst xs) := s1 _ _ x.hl
  obtain ⟨S2, b2⟩ := ButS.mutAway (o := .lst (xs ++ [.ref t])) S0 (x.b.trans (.of s1)) x.h0 (x.S.keep s1)
  refine ⟨x.h0, upd_same, fun z hz => ?_, S2, b2⟩
  rcases List.mem_append.mp hz with hz | hz
  · exact ((x.hx z hz).keep (TK.of s1)).keep (TK.mut hp)
  · rw [List.mem_singleton] at hz
    rw [hz]
    exact hu.keep (TK.mut hp)
omit T in
theorem Mvs.cat {st p D : Addr} {H H4 H5 : Hp} {ys zs : List V} (x : Mvs st H p ys H4) (S5 : Store H5 st) (b5 : ButS st H4 H5) (hz : ∀ z ∈ zs, UR H5 z) (hD : H5 D = none) : Mvs st H D (ys ++ zs) (upd H5 D (.lst (ys ++ zs))) := by
  have b := x.b.trans b5
  refine ⟨b.free S5 hD, upd_same, fun z h => ?_, S5.keep (same_new hD), b.trans (.new hD)⟩
  rcases List.mem_append.mp h with h | h
  · exact ((x.hx z h).keep (TK.but x.S b5)).keep (TK.of (same_new hD))
  · exact (hz z h).keep (TK.of (same_new hD))
omit T in
theorem Mvs.at {st p : Addr} {H H4 H5 : Hp} {ys : List V} (S0 : Store H st) (x : Mvs st H p ys H4) (b5 : ButS st H4 H5) : H5 p = some (.lst ys) := b5.1 _ _ (fun z => by
  obtain ⟨_, _, _, _, _, _, _, _, e, _⟩ := S0.ex
  have := x.h0
  rw [z, e] at this
  cases this) x.hl
def MvI (st : Addr) (src f la : Int) (n0 : Nat) (H : Hp) : L2.St → Hp → Prop := fun σ H' => ∃ (p : Addr) (xs : List V) (m : Nat) (v6 v7 v8 : Option V),
  σ = [some (.ref st), some (.int m), some (.int src), some (.int f), some (.int la), some (.ref p), v6, v7, v8] ∧ H p = none ∧ H' p = some (.lst xs) ∧ (∀ x ∈ xs, UR H' x) ∧ xs.length + 122 * m ≤ 122 * n0 ∧ m ≤ n0 ∧ Store H' st ∧ ButS st H H'
def spMv : Nat → Sp
  | 0 => fun _ _ _ _ => False
  | d + 1 => fun vs H Q _ => ∃ (st : Addr) (n src f la : Int), vs = [.ref st, .int n, .int src, .int f, .int la] ∧ (0 ≤ n ∧ n ≤ d ∧ n ≤ 120) ∧ (0 ≤ src ∧ src ≤ 127 ∧ 1 ≤ f ∧ f ≤ la + 1 ∧ la ≤ 120 ∧ (n = 0 ∨ f ≤ la)) ∧ Store H st ∧
    ∀ l xs H', H l = none → H' l = some (.lst xs) → (∀ x ∈ xs, UR H' x) → (xs.length : Int) ≤ 122 * n → Store H' st → ButS st H H' → Q (.ref l) H'
theorem ok_moves {f : Addr} {fd : FuncData} (F : Fun K "_law_moves" "_law_moves" s_moves f fd) (D_moves : Def K mg "_law_moves" s_moves p_moves f fd) {f_edge : Addr} {fd_edge : FuncData} (D_edge : Def K mg "_law_edge" s_edge p_edge f_edge fd_edge) (G_edge : FnOk P w K mg base CX0 3 f_edge fd_edge p_edge spTake) : ∀ d, FnOk P w K mg base CX0 (d + 4) f fd p_moves (spMv d)
  | 0 => ⟨fun _ _ _ _ h => h.elim, fun _ _ _ _ _ _ _ _ _ _ _ _ _ h => h.elim⟩
  | d + 1 => by
    have G_moves := ok_moves F D_moves D_edge G_edge d
    refine F.ok sc_moves (fun vs H Q E h => ?_) (fun cdv A outer s H vs Q E hr h => ?_)
    · obtain ⟨a, b, c, e, g, rfl, _⟩ := h
      rfl
    · obtain ⟨st, n, src, ff, la, rfl, ⟨n0, nd, n40⟩, ⟨s0, s1, f0, f1, la1, hnf⟩, S, q⟩ := h
      obtain ⟨n, rfl⟩ : ∃ k : Nat, n = (k : Int) := ⟨n.toNat, by omega⟩
      refine ⟨_, (pss_cons (ps_set (i := 5) sc_moves.nd rfl (Or.inl rfl) (by exact (pe_lst pa_nil)))
      (pss_mid (ps_for PassesOwn.never rfl (pi_range1 (by rfl) T.b_range (pa_cons (pv 1) pa_nil)) (pg_name (i := 6) sc_moves.nd rfl (Or.inl rfl)) (pss_mid (ps_if (pt_cmpR op_eq (pv 1) pe_int (nomark _)) (pss_one ps_break) pss_nil)
          (pss_cons (ps_set (i := 7) sc_moves.nd rfl (Or.inl rfl) (by exact (pe_op op_add pe_int (pe_call G_edge (hr.mono (by first | decide | omega)) rfl D_edge.g D_edge.fn.kp D_edge.b .nil pass0 (pa_cons (pv 0) (pa_cons (pv 1) pa_nil))))))
          (pss_mid (ps_if (pt_cmpR op_eq (pv 3) (pv 4) (nomark _)) (pss_one (ps_set (i := 7) sc_moves.nd rfl (Or.inl rfl) (by exact (pv 1)))) pss_nil)
          (pss_cons (ps_expr (pe_bm PySem.F.plainAttrs_list PySem.F.slot_list_append PySem.F.type_list_append mt_append (pv 5) (pa_cons (pe_tup (pa_cons pe_str (pa_cons (pv 2) (pa_cons (pv 3) pa_nil)))) pa_nil)))
          (pss_mid (ps_for PassesOwn.never rfl (pi_range1 (by rfl) T.b_range (pa_cons (pe_op op_sub (pv 7) pe_int) pa_nil)) (pg_name (i := 8) sc_moves.nd rfl (Or.inl rfl)) (pss_one (ps_expr (pe_bm PySem.F.plainAttrs_list PySem.F.slot_list_append PySem.F.type_list_append mt_append (pv 5) (pa_cons (pe_tup (pa_cons pe_str (pa_cons (pv 3) (pa_cons (pv 3) pa_nil)))) pa_nil)))))
          (pss_cons (ps_set (i := 5) sc_moves.nd rfl (Or.inl rfl) (by exact (pe_op op_cat (pv 5) (pe_call G_moves hr rfl D_moves.g D_moves.fn.kp D_moves.b .nil pass0 (pa_cons (pv 0) (pa_cons (pe_op op_sub (pv 1) (pv 7)) (pa_cons (pv 3) (pa_cons (pe_op op_add (pv 3) pe_int) (pa_cons (pv 4) pa_nil)))))))))
          (pss_cons (ps_expr (pe_bm PySem.F.plainAttrs_list PySem.F.slot_list_append PySem.F.type_list_append mt_append (pv 5) (pa_cons (pe_tup (pa_cons pe_str (pa_cons (pv 3) pa_nil))) pa_nil)))
          (pss_one (ps_set (i := 1) sc_moves.nd rfl (Or.inl rfl) (by exact (pe_op op_sub (pv 7) pe_int))))))))))))
      (pss_one (ps_ret (by exact (pv 5)))))), ?_⟩
      walk_at "rd"
      walk_at "nw"
      intro p hp
      walk_at "rd"
      refine ⟨MvI st src ff la n H, ?_, ?_⟩
      · walk_at "rd"
        refine ⟨by omega, by omega, ?_⟩
        rw [show ((n : Nat) : Int).toNat = n by omega]
        refine for_range (fun _ σ H' => MvI st src ff la n H σ H') ⟨p, [], n, none, none, none, rfl, hp, upd_same, fun x hx => (nomatch hx), by show 0 + 122 * n ≤ 122 * n; omega, Nat.le_refl _, S.keep (same_new hp), .new hp⟩ ?_ (fun σ H' h => h)
        rintro i σ H1 hi I1
        have I2 := I1
        obtain ⟨p, xs, m, v6, v7, v8, rfl, h0, hl, hx, hz, hm, S1, b1⟩ := I2
        walk_at "rd"
        refine ⟨fun σ' H' => σ' = [some (.ref st), some (.int m), some (.int src), some (.int ff), some (.int la), some (.ref p), some (.int (0 + i)), v7, v8] ∧ H' = H1 ∧ m ≠ 0, ?_, ?_⟩
        · walk_at "rd"
          refine ite2 (fun hc => ?_) (fun hc => ?_)
          · walk_at "rd"
            exact ⟨p, xs, m, _, _, _, rfl, h0, hl, hx, hz, hm, S1, b1⟩
          · exact ⟨rfl, rfl, fun z => of_ndec hc (by rw [z]; rfl)⟩
        rintro σ' H' ⟨rfl, rfl, hm0⟩
        walk_at "rd"
        refine ⟨by omega, S1, fun dr H2 dr0 dr1 S2 b2 => ?_⟩
        have hdr : dr < m := by
          revert dr1
          split <;> omega
        walk_at "rd"
        refine ⟨fun σ' H' => ∃ sp : Nat, σ' = [some (.ref st), some (.int m), some (.int src), some (.int ff), some (.int la), some (.ref p), some (.int (0 + i)), some (.int sp), v8] ∧ H' = H2 ∧ 1 ≤ sp ∧ sp ≤ m ∧ (ff = la → sp = m), ?_, ?_⟩
        · walk_at "rd"
          refine ite2 (fun hc => ?_) (fun hc => ?_)
          · walk_at "rd"
            exact ⟨rfl, by omega, Nat.le_refl _, fun _ => rfl⟩
          · obtain ⟨e, rfl⟩ : ∃ e : Nat, dr = e := ⟨dr.toNat, by omega⟩
            exact ⟨1 + e, by rw [Int.natCast_add]; rfl, rfl, by omega, by omega, fun z => absurd (congrArg V.int z) (of_ndec hc)⟩
        rintro σ' H' ⟨sp, rfl, rfl, sp1, spm, spl⟩
        have M2 : Mvs st H p xs H' := ⟨h0, b2.1 _ _ (fun z => by
          obtain ⟨_, _, _, _, _, _, _, _, e, _⟩ := S.ex
          rw [z, e] at h0
          cases h0) hl, fun x hx2 => (hx x hx2).keep (TK.but S1 b2), S2, b1.trans b2⟩
        have hm1 : m ≤ 120 := by omega
        clear hl hx S1 b1 S2 b2 dr0 dr1
        walk_at "rd"
        refine ⟨.inl ⟨rfl, _, SqL.of M2.hl⟩, ?_⟩
        walk_at "rd"
        walk_at "nw"
        intro t1 ht1
        refine ⟨p, _, _, rfl, rfl, same_new ht1 _ _ M2.hl, sz_lt (by omega), ?_⟩
        have M3 := M2.push S ht1 (y := .tup [.str "up", .int src, .int ff]) (UR.up upd_same s0 s1 (by omega) (by omega))
        generalize hg : upd (upd H' t1 _) p _ = H3 at M3 ⊢
        clear hg M2 ht1
        walk_at "rd"
        refine ⟨fun σ' H' => ∃ (v8' : Option V) (ys : List V), σ' = [some (.ref st), some (.int m), some (.int src), some (.int ff), some (.int la), some (.ref p), some (.int (0 + i)), some (.int sp), v8'] ∧ Mvs st H p ys H' ∧ ys.length = xs.length + sp, ?_, ?_⟩
        · walk_at "rd"
          refine ⟨by omega, by omega, ?_⟩
          rw [show ((sp : Int) - 1).toNat = sp - 1 by omega]
          refine for_range (fun j σ' H' => ∃ (v8' : Option V) (ys : List V), σ' = [some (.ref st), some (.int m), some (.int src), some (.int ff), some (.int la), some (.ref p), some (.int (0 + i)), some (.int sp), v8'] ∧ Mvs st H p ys H' ∧ ys.length = xs.length + 1 + j) ⟨_, _, rfl, M3, by rw [List.length_append]; rfl⟩ ?_ ?_
          · rintro j σ' H4 hj ⟨v8', ys, rfl, M4, hy⟩
            walk_at "rd"
            refine ⟨.inl ⟨rfl, _, SqL.of M4.hl⟩, ?_⟩
            walk_at "rd"
            walk_at "nw"
            intro t2 ht2
            refine ⟨p, _, _, rfl, rfl, same_new ht2 _ _ M4.hl, sz_lt (by omega), ?_⟩
            exact ⟨_, _, rfl, M4.push S ht2 (UR.up upd_same (by omega) (by omega) (by omega) (by omega)), by rw [List.length_append, hy]; rfl⟩
          · rintro σ' H4 ⟨v8', ys, rfl, M4, hy⟩
            exact ⟨_, _, rfl, M4, by omega⟩
        rintro σ' H4 ⟨v8', ys, rfl, M4, hy⟩
        obtain ⟨d', rfl⟩ : ∃ d', d = d' + 1 := ⟨d - 1, by omega⟩
        walk_at "rd"
        refine ⟨st, (m : Int) - sp, _, _, _, rfl, ⟨by omega, by omega, by omega⟩, ⟨by omega, by omega, by omega, by omega, la1, ?_⟩, M4.S, fun l ys2 H5 hl0 hl5 hx5 hz5 S5 b5 => ?_⟩
        · by_cases e : ff = la
          · have := spl e
            omega
          · omega
        refine ⟨p, l, _, _, rfl, rfl, M4.at S b5, hl5, sz_le (by omega), fun D hD => ?_⟩
        have M6 := M4.cat S5 b5 hx5 hD
        generalize hg : upd H5 D _ = H6 at M6 ⊢
        clear hg hl5 hx5 S5 b5 hD M4
        walk_at "rd"
        refine ⟨.inl ⟨rfl, _, SqL.of M6.hl⟩, ?_⟩
        walk_at "rd"
        walk_at "nw"
        intro t3 ht3
        refine ⟨D, _, _, rfl, rfl, same_new ht3 _ _ M6.hl, sz_lt (by rw [List.length_append]; omega), ?_⟩
        have M7 := M6.push S ht3 (UR.read (a := ff) upd_same (by omega) (by omega))
        walk_at "rd"
        refine ⟨D, _, sp - 1, some (.int (0 + i)), some (.int sp), v8', ?_, M7.h0, M7.hl, M7.hx, ?_, by omega, M7.S, M7.b⟩
        · rw [show ((sp - 1 : Nat) : Int) = (sp : Int) - 1 by omega]
          rfl
        · rw [List.length_append, List.length_append]
          show ys.length + ys2.length + 1 + 122 * (sp - 1) ≤ 122 * n
          omega
      · rintro σ H1 I1
        obtain ⟨p, xs, m, v6, v7, v8, rfl, h0, hl, hx, hz, hm, S1, b1⟩ := I1
        walk_at "rd"
        exact q p xs H1 h0 hl hx (by omega) S1 b1
end
end K47

set_option Elab.async false
set_option linter.all false
set_option maxRecDepth 100000
set_option maxHeartbeats 4000000
set_option pp.deepTerms false
set_option pp.deepTerms.threshold 12
namespace K47
open PySem PySem.Spec PyProof.Rows L2
local macro_rules | `(tactic| walk_at "ty") => `(tactic| first | exact .base (.int _) | exact .base (.bl _) | exact .base (.str _) | exact .base .non | assumption | exact .base (.tup (by assumption)) | exact .base (.lst (by assumption)))
local macro_rules | `(tactic| walk_at "cm") => `(tactic| first | exact cm_r (by decide) (by decide) | exact cm_l (by decide) (by decide) | exact cm_fmod (by decide) (by decide) | exact cm_r (by omega) (by omega) | exact cm_l (by omega) (by omega))
local macro_rules | `(tactic| walk_at "dv") => `(tactic| first | exact ⟨by decide, by decide⟩ | exact ⟨by omega, by omega⟩)
local macro_rules | `(tactic| walk_at "r1") => `(tactic| first
  | refine ⟨_, rfl, ?_⟩ | refine ⟨_, _, rfl, rfl, ?_⟩ | refine Or.inl ⟨_, rfl, ?_⟩ | refine Or.inr ⟨_, rfl, ?_⟩
  | refine And.intro (a := CMul _ _) (by walk_at "cm") ?_ | refine And.intro (a := CDivN _ _) (by walk_at "dv") ?_ | refine And.intro (a := _ ≠ (0 : Int)) (by first | decide | omega) ?_ | refine And.intro (a := scal _ _ = true) rfl ?_ | refine ⟨_, _, _, _, rfl, rfl, SqL.of (by first | exact upd_same | assumption), rfl, ?_⟩ | refine ⟨_, _, _, _, rfl, rfl, (by first | exact upd_same | assumption), rfl, ?_⟩ | refine ⟨_, _, rfl, ?_⟩ | refine And.intro (a := (_ : V) = V.non) rfl ?_ | refine And.intro (a := CPow _ _) ⟨by decide, by decide, by decide⟩ ?_ | refine And.intro (a := (_ : List V) = []) rfl ?_ | refine ⟨_, _, rfl, SqT.of (by first | exact upd_same | assumption), rfl, ?_⟩
  | refine ⟨_, _, _, _, rfl, rfl, SqT.of (by first | exact upd_same | assumption), rfl, ?_⟩
  | refine ⟨_, _, _, _, true, rfl, ClsV.ty _, (by walk_at "ty"), kit_ty (by decide +kernel), ?_⟩ | refine ⟨_, _, _, _, false, rfl, ClsV.ty _, (by walk_at "ty"), kit_ty (by decide +kernel), ?_⟩)
local macro_rules | `(tactic| walk_at "rd") => `(tactic| repeat walk_at "r1")
local macro_rules | `(tactic| walk_at "yes") => `(tactic| (change (if true = true then _ else _); rw [if_pos rfl]))
local macro_rules | `(tactic| walk_at "no") => `(tactic| (change (if false = true then _ else _); rw [if_neg Bool.false_ne_true]))
local macro_rules | `(tactic| walk_at "nw") => `(tactic| refine And.intro (a := _ ≤ sizeLine) (sz_le (Nat.le_of_ble_eq_true rfl)) ?_)

section
variable {P : Program} {w : World} {K : PySem.W.Frag} {mg : Str → Option Value} {base : Heap}
variable {C_VaultError C_NumberError C_BadPrime C_BadTable C_BadCells C_ShapeError C_PaperError C_BadMove fV fI_BadMove fI_BadCells fI_BadPrime fI_BadTable : Addr}
variable (T : Txt P K mg C_VaultError C_NumberError C_BadPrime C_BadTable C_BadCells C_ShapeError C_PaperError C_BadMove fV fI_BadMove fI_BadCells fI_BadPrime fI_BadTable)
include T
omit T in
theorem sq_ge {d : Nat} (h : 2 ≤ d) : (d : Int) ≤ (d : Int) * d := by
  rw [← Int.natCast_mul]
  have := Nat.le_mul_self d
  omega
def spIsP : Sp := fun vs H Q _ => ∃ n : Int, vs = [.int n] ∧ n ≤ 20000 ∧ ∀ b : Bool, (b = true ↔ M02.IsP n) → Q (.bl b) H
theorem ok_is_prime {f : Addr} {fd : FuncData} (F : Fun K "is_prime" "is_prime" s_is_prime f fd) : FnOk P w K mg base CX0 1 f fd p_is_prime spIsP := by
  refine F.ok sc_is_prime (fun vs H Q E h => ?_) (fun cdv A outer s H vs Q E hr h => ?_)
  · obtain ⟨n, rfl, _⟩ := h
    rfl
  · obtain ⟨n, rfl, hn, q⟩ := h
    refine ⟨_, (pss_cons (ps_if (pt_cmpR op_lt (pv 0) pe_int (nomark _)) (pss_one (ps_ret (by exact pe_bl))) pss_nil)
      (pss_cons (ps_set (i := 1) sc_is_prime.nd rfl (Or.inl rfl) (by exact pe_int))
      (pss_cons (ps_while PassesOwn.never (pt_cmpR op_le (pe_op op_mul (pv 1) (pv 1)) (pv 0) (nomark _)) (pss_cons (ps_if (pt_cmpR op_eq (pe_op op_modN (pv 0) (pv 1)) pe_int (nomark _)) (pss_one (ps_ret (by exact pe_bl))) pss_nil)
          (pss_one (ps_aug (i := 1) sc_is_prime.nd rfl (Or.inl rfl) pe_int ip_add))))
      (pss_one (ps_ret (by exact pe_bl)))))), ?_⟩
    walk_at "rd"
    refine ite2 (fun hc => ?_) (fun hc => ?_)
    · have h2 := of_decide_eq_true hc
      walk_at "rd"
      exact q false ⟨fun z => (nomatch z), fun z => absurd z.1 (by omega)⟩
    have h2 : 2 ≤ n := by
      have := of_ndec hc
      omega
    walk_at "rd"
    refine ⟨fun m σ H' => ∃ d : Nat, m = n.toNat + 2 - d ∧ 2 ≤ d ∧ (d : Int) ≤ n + 1 ∧ M02.Free n d ∧ σ = [some (.int n), some (.int d)] ∧ H' = H, ⟨_, 2, rfl, Nat.le_refl 2, by omega, .two n, rfl, rfl⟩, ?_⟩
    rintro m σ H' ⟨d, rfl, d2, dn, hf, rfl, rfl⟩
    walk_at "rd"
    refine ite2 (fun hc => ?_) (fun hc => ?_)
    · have hle := of_decide_eq_true hc
      have hdn := Int.le_trans (sq_ge d2) hle
      refine ⟨fun σ' H'' => ∃ m', m' < n.toNat + 2 - d ∧ ∃ d : Nat, m' = n.toNat + 2 - d ∧ 2 ≤ d ∧ (d : Int) ≤ n + 1 ∧ M02.Free n d ∧ σ' = [some (.int n), some (.int d)] ∧ H'' = H', fun _ _ h => h, ?_⟩
      walk_at "rd"
      have em : n.fmod (d : Int) = n % (d : Int) := Int.fmod_eq_emod_of_nonneg _ (by omega)
      refine ite2 (fun hc => ?_) (fun hc => ?_)
      · have h0 := V.int.inj (of_decide_eq_true hc)
        walk_at "rd"
        exact q false ⟨fun z => (nomatch z), fun z => absurd z (M02.not_isP d2 hle (by rw [← em]; exact h0))⟩
      · have h0 : n % (d : Int) ≠ 0 := fun z => of_ndec hc (congrArg V.int (em.trans z))
        walk_at "rd"
        exact ⟨_, by omega, d + 1, rfl, by omega, by omega, hf.succ h0, rfl, rfl⟩
    · have hgt := of_ndec hc
      walk_at "rd"
      exact q true ⟨fun _ => hf.isP h2 (by omega), fun _ => rfl⟩
def spPrimes : Sp := fun vs H Q _ => vs = [] ∧ ∀ p, H p = none → Q (.ref p) (upd H p (.lst (M02.primes.map V.int)))
theorem ok_primes {f : Addr} {fd : FuncData} (F : Fun K "_law_primes" "_law_primes" s_primes f fd) : FnOk P w K mg base CX0 1 f fd p_primes spPrimes := by
  refine F.ok sc_primes (fun vs H Q E h => ?_) (fun cdv A outer s H vs Q E hr h => ?_)
  · obtain ⟨rfl, _⟩ := h
    rfl
  · obtain ⟨rfl, q⟩ := h
    refine ⟨_, (pss_one (ps_ret (by exact (pe_lst (pa_cons pe_int (pa_cons pe_int (pa_cons pe_int (pa_cons pe_int (pa_cons pe_int (pa_cons pe_int (pa_cons pe_int (pa_cons pe_int (pa_cons pe_int (pa_cons pe_int (pa_cons pe_int (pa_cons pe_int (pa_cons pe_int (pa_cons pe_int (pa_cons pe_int (pa_cons pe_int (pa_cons pe_int (pa_cons pe_int (pa_cons pe_int (pa_cons pe_int (pa_cons pe_int (pa_cons pe_int (pa_cons pe_int (pa_cons pe_int (pa_cons pe_int pa_nil))))))))))))))))))))))))))))), ?_⟩
    walk_at "rd"
    walk_at "nw"
    intro p hp
    exact q p hp
def spPrime : Sp := fun vs H Q _ => ∃ st : Addr, vs = [.ref st] ∧ Store H st ∧ ∀ d H', d ∈ M02.primes → Store H' st → ButS st H H' → Q (.int d) H'
theorem ok_prime {f : Addr} {fd : FuncData} (F : Fun K "_law_prime" "_law_prime" s_prime f fd) {f_take : Addr} {fd_take : FuncData} (D_take : Def K mg "_law_take" s_take p_take f_take fd_take) (G_take : FnOk P w K mg base CX0 2 f_take fd_take p_take spTake) {f_pick : Addr} {fd_pick : FuncData} (D_pick : Def K mg "_law_pick" s_pick p_pick f_pick fd_pick) (G_pick : FnOk P w K mg base CX0 3 f_pick fd_pick p_pick spPick) {f_primes : Addr} {fd_primes : FuncData} (D_primes : Def K mg "_law_primes" s_primes p_primes f_primes fd_primes) (G_primes : FnOk P w K mg base CX0 1 f_primes fd_primes p_primes spPrimes) : FnOk P w K mg base CX0 4 f fd p_prime spPrime := by
  refine F.ok sc_prime (fun vs H Q E h => ?_) (fun cdv A outer s H vs Q E hr h => ?_)
  · obtain ⟨st, rfl, _⟩ := h
    rfl
  · obtain ⟨st, rfl, S, q⟩ := h
    refine ⟨_, (pss_cons (ps_set (i := 1) sc_prime.nd rfl (Or.inl rfl) (by exact (pe_call G_pick (hr.mono (by first | decide | omega)) rfl D_pick.g D_pick.fn.kp D_pick.b .nil pass0 (pa_cons (pv 0) (pa_cons (pe_lst (pa_cons pe_int (pa_cons pe_int (pa_cons pe_int pa_nil)))) pa_nil)))))
      (pss_one (ps_ret (by exact (pe_ix ix_list (pe_call0 G_primes (hr.mono (by first | decide | omega)) rfl D_primes.g D_primes.fn.kp D_primes.b .nil pass0) (pe_call G_take (hr.mono (by first | decide | omega)) rfl D_take.g D_take.fn.kp D_take.b .nil pass0 (pa_cons (pv 0) (pa_cons (pv 1) pa_nil))) (fun _ _ => rfl)))))), ?_⟩
    walk_at "rd"
    walk_at "nw"
    intro l hl
    obtain ⟨u, hu⟩ := S.some
    walk_at "rd"
    refine ⟨st, l, _, rfl, upd_same, (ne_of_none hu hl).symm, Nat.le_of_ble_eq_true rfl, Nat.le_of_ble_eq_true rfl, S.keep (same_new hl), fun v H1 hv S1 b1 => ?_⟩
    obtain ⟨m, rfl, hm⟩ : ∃ m : Int, v = .int m ∧ 1 < m ∧ m ≤ 25 := by
      simp only [List.mem_cons, List.mem_nil_iff, or_false] at hv
      rcases hv with rfl | rfl | rfl
      · exact ⟨2, rfl, by decide⟩
      · exact ⟨5, rfl, by decide⟩
      · exact ⟨25, rfl, by decide⟩
    walk_at "rd"
    intro l2 h2
    obtain ⟨u1, hu1⟩ := S1.some
    walk_at "rd"
    refine ⟨by omega, S1.keep (same_new h2), fun d H2 d0 d1 S2 b2 => ?_⟩
    rw [if_pos (by omega)] at d1
    obtain ⟨j, rfl⟩ : ∃ j : Nat, d = (j : Int) := ⟨d.toNat, by omega⟩
    have hl25 : M02.primes.length = 25 := rfl
    have hj : j < M02.primes.length := by omega
    refine ⟨l2, _, _, _, rfl, rfl, SqL.of (b2.1 _ _ (ne_of_none hu1 h2).symm upd_same), atI_nat (by rw [List.getElem?_map, List.getElem?_eq_getElem hj]; rfl), ?_⟩
    exact q _ H2 (List.getElem_mem hj) S2 (((ButS.of (same_new hl)).trans b1).trans ((ButS.of (same_new h2)).trans b2))
def NoV (H : Hp) (v : V) : Prop := (∃ i, v = .int i ∧ i ∉ M02.primes) ∨ (∃ n, NotInt H v n)
def spNeedP (C : Addr) : Sp := fun vs H Q E => ∃ v : V, vs = [v] ∧ ((∃ i, v = .int i ∧ i ∈ M02.primes ∧ Q (.int i) H) ∨ NoV H v ∧ ∀ d, H d = none → E (.ref C) (some d) (upd H d (.xd (excD ["value"] "BadPrime" [v]))))
theorem ok_need_prime {f : Addr} {fd : FuncData} (F : Fun K "need_prime" "need_prime" s_need_prime f fd) {f_lies_within : Addr} {fd_lies_within : FuncData} (D_lies_within : Def K mg "lies_within" s_lies_within p_lies_within f_lies_within fd_lies_within) (G_lies_within : FnOk P w K mg base CX0 2 f_lies_within fd_lies_within p_lies_within spWithin) {f_is_prime : Addr} {fd_is_prime : FuncData} (D_is_prime : Def K mg "is_prime" s_is_prime p_is_prime f_is_prime fd_is_prime) (G_is_prime : FnOk P w K mg base CX0 1 f_is_prime fd_is_prime p_is_prime spIsP) : FnOk P w K mg base (L2N.CX P w) 3 f fd p_need_prime (spNeedP C_BadPrime) := by
  refine F.okN sc_need_prime (fun vs H Q E h => ?_) (fun cdv A outer s H vs Q E hr h => ?_)
  · obtain ⟨a, rfl, _⟩ := h
    rfl
  · obtain ⟨v, rfl, q⟩ := h
    have gp := T.g_GREATEST_PRIME
    obtain ⟨tgp, gp⟩ := gp
    refine ⟨_, (pss_cons (ps_if (PW.pt (pw_or (pt_not (pt_val (pe_call G_lies_within (hr.mono (by first | decide | omega)) rfl D_lies_within.g D_lies_within.fn.kp D_lies_within.b .nil pass0 (pa_cons (pv 0) (pa_cons pe_int (pa_cons (pe_glob (v := .int 97) rfl gp ⟨_, rfl⟩) pa_nil)))))) (pw_or1 (pt_not (pt_val (pe_call G_is_prime (hr.mono (by first | decide | omega)) rfl D_is_prime.g D_is_prime.fn.kp D_is_prime.b .nil pass0 (pa_cons (pv 0) pa_nil))))))) (pss_one (ps_raiseN rfl T.lf_BadPrime hr (L2N.takes_of rfl rfl rfl rfl) T.g_BadPrime (pa_cons (pv 0) pa_nil))) pss_nil)
      (pss_one (ps_ret (by exact (pv 0))))), ?_⟩
    walk_at "rd"
    rcases q with ⟨i, rfl, hi, q⟩ | ⟨⟨i, rfl, hi⟩ | ⟨n, h⟩, q⟩
    · have g := M02.primes_lo hi
      refine ⟨_, _, _, rfl, .inl ⟨i, rfl, fun c hc => ?_⟩⟩
      obtain rfl : c = true := hc.mpr (by omega)
      walk_at "rd"
      refine ⟨by omega, fun b hb => ?_⟩
      obtain rfl : b = true := hb.mpr ((M02.isP_iff g.1 g.2).mpr hi)
      walk_at "rd"
      exact q
    · refine ⟨_, _, _, rfl, .inl ⟨i, rfl, fun c hc => ?_⟩⟩
      cases c with
      | false =>
        walk_at "rd"
        exact ⟨rfl, fun d hd => q d hd⟩
      | true =>
        have g := hc.mp rfl
        walk_at "rd"
        refine ⟨by omega, fun b hb => ?_⟩
        cases b with
        | false =>
          walk_at "rd"
          exact ⟨rfl, fun d hd => q d hd⟩
        | true => exact absurd ((M02.isP_iff g.1 g.2).mp (hb.mp rfl)) hi
    · refine ⟨_, _, _, rfl, .inr ⟨n, h, ?_⟩⟩
      walk_at "rd"
      exact ⟨rfl, fun d hd => q d hd⟩
end
end K47

set_option Elab.async false
set_option linter.all false
set_option maxRecDepth 100000
set_option maxHeartbeats 4000000
set_option pp.deepTerms false
set_option pp.deepTerms.threshold 12
namespace K47
open PySem PySem.Spec PyProof.Rows L2
local macro_rules | `(tactic| walk_at "ty") => `(tactic| first | exact .base (.int _) | exact .base (.bl _) | exact .base (.str _) | exact .base .non | assumption | exact .base (.tup (by assumption)) | exact .base (.lst (by assumption)))
local macro_rules | `(tactic| walk_at "cm") => `(tactic| first | exact cm_r (by decide) (by decide) | exact cm_l (by decide) (by decide) | exact cm_fmod (by decide) (by decide) | exact cm_r (by omega) (by omega) | exact cm_l (by omega) (by omega))
local macro_rules | `(tactic| walk_at "dv") => `(tactic| first | exact ⟨by decide, by decide⟩ | exact ⟨by omega, by omega⟩)
local macro_rules | `(tactic| walk_at "r1") => `(tactic| first
  | refine ⟨_, rfl, ?_⟩ | refine ⟨_, _, rfl, rfl, ?_⟩ | refine Or.inl ⟨_, rfl, ?_⟩ | refine Or.inr ⟨_, rfl, ?_⟩
  | refine And.intro (a := CMul _ _) (by walk_at "cm") ?_ | refine And.intro (a := CDivN _ _) (by walk_at "dv") ?_ | refine And.intro (a := _ ≠ (0 : Int)) (by first | decide | omega) ?_ | refine And.intro (a := scal _ _ = true) rfl ?_ | refine ⟨_, _, _, _, rfl, rfl, SqL.of (by first | exact upd_same | assumption), rfl, ?_⟩ | refine ⟨_, _, _, _, rfl, rfl, (by first | exact upd_same | assumption), rfl, ?_⟩ | refine ⟨_, _, rfl, ?_⟩ | refine And.intro (a := (_ : V) = V.non) rfl ?_ | refine And.intro (a := CPow _ _) ⟨by decide, by decide, by decide⟩ ?_ | refine And.intro (a := (_ : List V) = []) rfl ?_ | refine ⟨_, _, rfl, SqT.of (by first | exact upd_same | assumption), rfl, ?_⟩
  | refine ⟨_, _, _, _, rfl, rfl, SqT.of (by first | exact upd_same | assumption), rfl, ?_⟩
  | refine ⟨_, _, _, _, true, rfl, ClsV.ty _, (by walk_at "ty"), kit_ty (by decide +kernel), ?_⟩ | refine ⟨_, _, _, _, false, rfl, ClsV.ty _, (by walk_at "ty"), kit_ty (by decide +kernel), ?_⟩)
local macro_rules | `(tactic| walk_at "rd") => `(tactic| repeat walk_at "r1")
local macro_rules | `(tactic| walk_at "yes") => `(tactic| (change (if true = true then _ else _); rw [if_pos rfl]))
local macro_rules | `(tactic| walk_at "no") => `(tactic| (change (if false = true then _ else _); rw [if_neg Bool.false_ne_true]))
local macro_rules | `(tactic| walk_at "nw") => `(tactic| refine And.intro (a := _ ≤ sizeLine) (sz_le (Nat.le_of_ble_eq_true rfl)) ?_)

section
variable {P : Program} {w : World} {K : PySem.W.Frag} {mg : Str → Option Value} {base : Heap}
variable {C_VaultError C_NumberError C_BadPrime C_BadTable C_BadCells C_ShapeError C_PaperError C_BadMove fV fI_BadMove fI_BadCells fI_BadPrime fI_BadTable : Addr}
variable (T : Txt P K mg C_VaultError C_NumberError C_BadPrime C_BadTable C_BadCells C_ShapeError C_PaperError C_BadMove fV fI_BadMove fI_BadCells fI_BadPrime fI_BadTable)
include T
def SeqAt (H : Hp) (a : Addr) (xs : List V) : Prop := H a = some (.lst xs) ∨ H a = some (.tup xs)
omit T in
theorem SeqAt.keep {H H' : Hp} {a : Addr} {xs : List V} (h : SeqAt H a xs) (s : Same H H') : SeqAt H' a xs := h.elim (fun e => .inl (s _ _ e)) fun e => .inr (s _ _ e)
def TbOk (p : Int) (tb : List Int) : Prop := (tb.length : Int) = p ∧ ∀ x ∈ tb, 0 ≤ x ∧ x ≤ p - 1
def TbAt (H : Hp) (v : V) (p : Int) (tb : List Int) : Prop := ∃ a, v = .ref a ∧ SeqAt H a (tb.map V.int) ∧ TbOk p tb
def Nrm (H : Hp) (x : V) : Prop := (∃ i, x = .int i) ∨ ∃ n, NotInt H x n
def inR (p : Int) : V → Bool
  | .int i => decide (0 ≤ i ∧ i ≤ p - 1)
  | _ => false
inductive NoTb (H : Hp) (p : Int) : V → Prop
  | non : NoTb H p .non
  | int (i : Int) : NoTb H p (.int i)
  | str (s : Str) : NoTb H p (.str s)
  | dict (a : Addr) (kvs : List (Key × V)) (h : H a = some (.dK kvs)) : NoTb H p (.ref a)
  | short (a : Addr) (xs : List V) (h : SeqAt H a xs) (n : (xs.length : Int) ≠ p) : NoTb H p (.ref a)
  | odd (a : Addr) (xs : List V) (h : SeqAt H a xs) (n : (xs.length : Int) = p) (k : ∀ x ∈ xs, Nrm H x) (b : xs.all (inR p) = false) : NoTb H p (.ref a)
omit T in
theorem TbOk.all {p : Int} {tb : List Int} (h : TbOk p tb) : (tb.map V.int).all (inR p) = true := by
  rw [List.all_eq_true]
  intro x hx
  obtain ⟨i, hi, rfl⟩ := List.mem_map.mp hx
  exact decide_eq_true (h.2 i hi)
omit T in
theorem NotInt.keep {H H' : Hp} {x : V} {n : String} (h : NotInt H x n) (s : Same H H') : NotInt H' x n := by
  cases h with
  | bl b => exact .bl b
  | non => exact .non
  | str s => exact .str s
  | tup a xs h => exact .tup a xs (s _ _ h)
  | lst a xs h => exact .lst a xs (s _ _ h)
omit T in
theorem NotInt.inR {H : Hp} {x : V} {n : String} (h : NotInt H x n) (p : Int) : inR p x = false := by
  cases h <;> rfl
def spTable (Cp Ct : Addr) : Sp := fun vs H Q E => ∃ (pv v w : V), vs = [pv, v, w] ∧
  ((∃ p : Int, pv = .int p ∧ p ∈ M02.primes ∧ ((∃ tb, TbAt H v p tb ∧ ∀ t H', Same H H' → H' t = some (.tup (tb.map V.int)) → Q (.ref t) H') ∨
    NoTb H p v ∧ ∀ d H', Same H H' → H' d = none → E (.ref Ct) (some d) (upd H' d (.xd (excD ["which"] "BadTable" [w]))))) ∨
  NoV H pv ∧ ∀ d, H d = none → E (.ref Cp) (some d) (upd H d (.xd (excD ["value"] "BadPrime" [pv]))))
omit T in
theorem kit2 {K : PySem.W.Frag} {n : String} {b : Bool} (h : PySem.W.kitAny K (.type n) [.type "list", .type "tuple"] = some b) {H : Hp} {x : V} {tp : Addr} {Q : VK} (ty : TyX K H x (.type n)) (e : H tp = some (.tup [.ty "list", .ty "tuple"])) (q : Q (.bl b) H) : rIsiT K [x, .ref tp] H Q :=
  ⟨x, tp, _, _, _, b, rfl, e, .cons (.ty _) (.cons (.ty _) .nil), ty, h, q⟩
omit T in
theorem ne_yes {a b : V} (h : (!decide (a = b)) = true) : a ≠ b := fun e => by
  rw [decide_eq_true e] at h
  cases h
omit T in
theorem ne_no {a b : V} (h : ¬ (!decide (a = b)) = true) : a = b := by
  by_cases e : a = b
  · exact e
  · rw [decide_eq_false e] at h
    exact absurd rfl h
def AllI (p : Int) (D : Addr) (H1 : Hp) (xs : List V) : Nat → Hp → Prop := fun i H' => Same H1 H' ∧ H' D = some (.lst ((xs.take i).map fun x => .bl (inR p x)))
omit T in
theorem AllI.push {p : Int} {D : Addr} {H1 H' : Hp} {xs : List V} {i : Nat} {x : V} {b : Bool} (hx : xs[i]? = some x) (hD : H1 D = none) (z : AllI p D H1 xs i H') (n : (xs.length : Int) ≤ 97) (e : b = inR p x) :
    ∃ acc, H' D = some (.lst acc) ∧ acc.length < sizeLine ∧ AllI p D H1 xs (i + 1) (upd H' D (.lst (acc ++ [.bl b]))) := by
  refine ⟨_, z.2, sz_lt ?_, z.1.mut hD, ?_⟩
  · rw [List.length_map, List.length_take]
    omega
  · rw [List.take_succ, hx, e]
    show upd H' D _ D = _
    rw [upd_same, List.map_append]
    rfl
theorem ok_check_table {f : Addr} {fd : FuncData} (F : Fun K "check_table" "check_table" s_check_table f fd) {f_need_prime : Addr} {fd_need_prime : FuncData} (D_need_prime : Def K mg "need_prime" s_need_prime p_need_prime f_need_prime fd_need_prime) (G_need_prime : FnOk P w K mg base (L2N.CX P w) 3 f_need_prime fd_need_prime p_need_prime (spNeedP C_BadPrime)) {f_lies_within : Addr} {fd_lies_within : FuncData} (D_lies_within : Def K mg "lies_within" s_lies_within p_lies_within f_lies_within fd_lies_within) (G_lies_within : FnOk P w K mg base CX0 2 f_lies_within fd_lies_within p_lies_within spWithin) : FnOk P w K mg base (L2N.CX P w) 4 f fd p_check_table (spTable C_BadPrime C_BadTable) := by
  refine F.okN sc_check_table (fun vs H Q E h => ?_) (fun cdv A outer s H vs Q E hr h => ?_)
  · obtain ⟨p1, v, wh, rfl, _⟩ := h
    rfl
  · obtain ⟨p1, v, wh, rfl, q⟩ := h
    have tk := L2N.takes_of (X := cxOf (L2N.CX P w) P w K mg base N_check_table "check_table" (defScope s_check_table) f cdv A outer s H E) rfl rfl rfl rfl
    refine ⟨_, (pss_cons (ps_expr (pe_callS G_need_prime (hr.mono (by first | decide | omega)) rfl D_need_prime.g D_need_prime.fn.kp D_need_prime.b (fun σ => L2N.passAt tk σ) (pa_cons (pv 0) pa_nil)))
      (pss_cons (ps_if (PW.pt (pw_or (pt_not (pt_val (pe_callB call_isiT (by rfl) T.b_isinstance (by first | exact PySem.boot_isinstance | decide +kernel) (pa_cons (pv 1) (pa_cons (pe_tup (pa_cons (pe_bltn (v := .ty "list") (by rfl) T.b_list (by first | exact PySem.boot_list | decide +kernel) rfl) (pa_cons (pe_bltn (v := .ty "tuple") (by rfl) T.b_tuple (by first | exact PySem.boot_tuple | decide +kernel) rfl) pa_nil))) pa_nil))))) (pw_or1 (pt_cmpR op_ne (pe_callB call_len_seq (by rfl) T.b_len (by first | exact PySem.boot_len | decide +kernel) (pa_cons (pv 1) pa_nil)) (pv 0) (nomark _))))) (pss_one (ps_raiseN rfl T.lf_BadTable hr (L2N.takes_of rfl rfl rfl rfl) T.g_BadTable (pa_cons (pv 2) pa_nil))) pss_nil)
      (pss_cons (ps_if (pt_not (pt_val (pe_callB (cr_all rfl) (by rfl) T.b_all (by first | exact PySem.boot_all | decide +kernel) (pa_cons (pe_lc (own := [("number", 3)]) (g := gName 3) rfl sc_check_table.nd (pi_seq2 (pv 1)) (blkOk_by (own := [("number", 3)]) (N := N_check_table) (sc := defScope s_check_table) (by decide +kernel)) (fun _ _ _ _ _ => pg_name (i := 3) sc_check_table.nd rfl (Or.inl rfl)) (fun _ _ _ _ _ => pts_nil) (fun _ _ _ _ _ => (pe_call G_lies_within (hr.mono (by first | decide | omega)) rfl D_lies_within.g D_lies_within.fn.kp D_lies_within.b .nil pass0 (pa_cons (pv 3) (pa_cons pe_int (pa_cons (pe_op op_sub (pv 0) pe_int) pa_nil)))))) pa_nil)))) (pss_one (ps_raiseN rfl T.lf_BadTable hr (L2N.takes_of rfl rfl rfl rfl) T.g_BadTable (pa_cons (pv 2) pa_nil))) pss_nil)
      (pss_one (ps_ret (by exact (pe_callTy call_tuple_of (by rfl) T.b_tuple (by first | exact PySem.boot_tuple | decide +kernel) (pa_cons (pv 1) pa_nil)))))))), ?_⟩
    walk_at "rd"
    rcases q with ⟨p, rfl, hp, q⟩ | ⟨h, q⟩
    · refine .inl ⟨p, rfl, hp, ?_⟩
      have hp2 := (M02.primes_lo hp)
      have key : (∃ a xs, v = .ref a ∧ SeqAt H a xs ∧ (xs.length : Int) = p ∧ (∀ x ∈ xs, Nrm H x) ∧ (xs.all (inR p) = true → ∀ t H', Same H H' → H' t = some (.tup xs) → Q (.ref t) H') ∧
          (xs.all (inR p) = false → ∀ d H', Same H H' → H' d = none → E (.ref C_BadTable) (some d) (upd H' d (.xd (excD ["which"] "BadTable" [wh]))))) ∨
          (∃ a xs, v = .ref a ∧ SeqAt H a xs ∧ (xs.length : Int) ≠ p) ∧ (∀ d H', Same H H' → H' d = none → E (.ref C_BadTable) (some d) (upd H' d (.xd (excD ["which"] "BadTable" [wh])))) ∨
          (∃ n, (∀ H1, Same H H1 → TyX K H1 v (.type n)) ∧ PySem.W.kitAny K (.type n) [.type "list", .type "tuple"] = some false) ∧ (∀ d H', Same H H' → H' d = none → E (.ref C_BadTable) (some d) (upd H' d (.xd (excD ["which"] "BadTable" [wh])))) := by
        rcases q with ⟨tb, ⟨a, rfl, hs, ok⟩, q⟩ | ⟨h, q⟩
        · refine .inl ⟨a, _, rfl, hs, by rw [List.length_map]; exact ok.1, fun x hx => ?_, fun _ => q, fun z => ?_⟩
          · obtain ⟨i, _, rfl⟩ := List.mem_map.mp hx
            exact .inl ⟨i, rfl⟩
          · rw [ok.all] at z
            cases z
        · cases h with
          | non => exact .inr (.inr ⟨⟨_, fun _ _ => .base .non, kitAny_cons (b := false) (kit_ty (by decide +kernel)) (fun _ => kitAny_cons (b := false) (kit_ty (by decide +kernel)) (fun _ => rfl) fun z => nomatch z) fun z => nomatch z⟩, q⟩)
          | int i => exact .inr (.inr ⟨⟨_, fun _ _ => .base (.int i), kitAny_cons (b := false) (kit_ty (by decide +kernel)) (fun _ => kitAny_cons (b := false) (kit_ty (by decide +kernel)) (fun _ => rfl) fun z => nomatch z) fun z => nomatch z⟩, q⟩)
          | str s => exact .inr (.inr ⟨⟨_, fun _ _ => .base (.str s), kitAny_cons (b := false) (kit_ty (by decide +kernel)) (fun _ => kitAny_cons (b := false) (kit_ty (by decide +kernel)) (fun _ => rfl) fun z => nomatch z) fun z => nomatch z⟩, q⟩)
          | dict a kvs h => exact .inr (.inr ⟨⟨"dict", fun _ s => .base (.dK (s _ _ h)), kitAny_cons (b := false) (kit_ty (by decide +kernel)) (fun _ => kitAny_cons (b := false) (kit_ty (by decide +kernel)) (fun _ => rfl) fun z => nomatch z) fun z => nomatch z⟩, q⟩)
          | short a xs h n => exact .inr (.inl ⟨⟨a, xs, rfl, h, n⟩, q⟩)
          | odd a xs h n k b => exact .inl ⟨a, xs, rfl, h, n, k, fun z => (nomatch b.symm.trans z), fun _ => q⟩
      clear q
      walk_at "rd"
      walk_at "nw"
      intro tp htp
      have s1 : Same H (upd H tp (.tup [.ty "list", .ty "tuple"])) := same_new htp
      generalize hg : upd H tp _ = H1 at s1 ⊢
      have e1 : H1 tp = some (.tup [.ty "list", .ty "tuple"]) := by rw [← hg]; exact upd_same
      clear hg
      rcases key with ⟨a, xs, rfl, hs, hl, hn, q1, q2⟩ | ⟨⟨a, xs, rfl, hs, hl⟩, q⟩ | ⟨⟨n, ty, hk⟩, q⟩
      · have kt : ∃ n, TyX K H1 (.ref a) (.type n) ∧ PySem.W.kitAny K (.type n) [.type "list", .type "tuple"] = some true := by
          rcases hs with hs | hs
          · exact ⟨"list", .base (.lst (s1 _ _ hs)), kitAny_cons (b := true) (kit_ty (by decide +kernel)) (fun z => nomatch z) fun _ => rfl⟩
          · exact ⟨"tuple", .base (.tup (s1 _ _ hs)), kitAny_cons (b := false) (kit_ty (by decide +kernel)) (fun _ => kitAny_cons (b := true) (kit_ty (by decide +kernel)) (fun z => nomatch z) fun _ => rfl) fun z => nomatch z⟩
        obtain ⟨n, ty, hk⟩ := kt
        dsimp only [tNil]
        refine kit2 hk ty e1 ?_
        walk_at "rd"
        have hq : SqL K H1 a xs ∨ SqT K H1 a xs := hs.elim (fun e => .inl (SqL.of (s1 _ _ e))) fun e => .inr (SqT.of (s1 _ _ e))
        refine ⟨a, xs, rfl, hq, ?_⟩
        walk_at "rd"
        refine ite2 (fun hc => absurd (congrArg V.int hl) (ne_yes hc)) (fun hc => ?_)
        clear hc
        walk_at "rd"
        have hall : (xs.map (inR p)).all id = xs.all (inR p) := by rw [List.all_map]; rfl
        rcases hs with hv | hv
        · refine .inl ⟨⟨xs, SqL.of (s1 _ _ hv)⟩, fun D hD => lc_list (K := K) (a := a) (xs := xs) (AllI p D H1 xs) ⟨same_new hD, upd_same⟩ (fun i H' _ z => SqL.of (z.1 _ _ (s1 _ _ hv))) ?_ ?_⟩
          · rintro i x H' hi z
            refine ⟨rfl, ?_⟩
            walk_at "rd"
            rcases hn x (List.mem_of_getElem? hi) with ⟨j, rfl⟩ | ⟨nn, h⟩
            · refine ⟨_, _, _, rfl, .inl ⟨j, rfl, fun c hc => ?_⟩⟩
              refine z.push hi hD (by omega) ?_
              cases c with
              | true => exact (decide_eq_true (hc.mp rfl)).symm
              | false => exact (decide_eq_false fun z => (nomatch hc.mpr z)).symm
            · exact ⟨_, _, _, rfl, .inr ⟨nn, (h.keep (s1.trans z.1)), z.push hi hD (by omega) (h.inR p).symm⟩⟩
          · rintro H' ⟨sm, hD'⟩
            rw [List.take_length] at hD'
            refine ⟨D, xs.map (inR p), rfl, SqL.of (by rw [hD', List.map_map]; rfl), ?_⟩
            rw [hall]
            cases hb : xs.all (inR p) <;> walk_at "rd"
            · exact ⟨rfl, fun d hd => q2 hb d H' (s1.trans sm) hd⟩
            · exact ⟨a, xs, rfl, .inl ⟨SqL.of (sm _ _ (s1 _ _ hv)), fun l hl => q1 hb l _ ((s1.trans sm).trans (same_new hl)) upd_same⟩⟩
        · refine .inr ⟨⟨xs, SqT.of (s1 _ _ hv)⟩, fun D hD => lc_tup (K := K) (a := a) (xs := xs) (AllI p D H1 xs) ⟨same_new hD, upd_same⟩ (fun i H' _ z => SqT.of (z.1 _ _ (s1 _ _ hv))) ?_ ?_⟩
          · rintro i x H' hi z
            refine ⟨rfl, ?_⟩
            walk_at "rd"
            rcases hn x (List.mem_of_getElem? hi) with ⟨j, rfl⟩ | ⟨nn, h⟩
            · refine ⟨_, _, _, rfl, .inl ⟨j, rfl, fun c hc => ?_⟩⟩
              refine z.push hi hD (by omega) ?_
              cases c with
              | true => exact (decide_eq_true (hc.mp rfl)).symm
              | false => exact (decide_eq_false fun z => (nomatch hc.mpr z)).symm
            · exact ⟨_, _, _, rfl, .inr ⟨nn, (h.keep (s1.trans z.1)), z.push hi hD (by omega) (h.inR p).symm⟩⟩
          · rintro H' ⟨sm, hD'⟩
            rw [List.take_length] at hD'
            refine ⟨D, xs.map (inR p), rfl, SqL.of (by rw [hD', List.map_map]; rfl), ?_⟩
            rw [hall]
            cases hb : xs.all (inR p) <;> walk_at "rd"
            · exact ⟨rfl, fun d hd => q2 hb d H' (s1.trans sm) hd⟩
            · exact ⟨a, xs, rfl, .inr ⟨SqT.of (sm _ _ (s1 _ _ hv)), q1 hb a _ (s1.trans sm) (sm _ _ (s1 _ _ hv))⟩⟩
      · have kt : ∃ n, TyX K H1 (.ref a) (.type n) ∧ PySem.W.kitAny K (.type n) [.type "list", .type "tuple"] = some true := by
          rcases hs with hs | hs
          · exact ⟨"list", .base (.lst (s1 _ _ hs)), kitAny_cons (b := true) (kit_ty (by decide +kernel)) (fun z => nomatch z) fun _ => rfl⟩
          · exact ⟨"tuple", .base (.tup (s1 _ _ hs)), kitAny_cons (b := false) (kit_ty (by decide +kernel)) (fun _ => kitAny_cons (b := true) (kit_ty (by decide +kernel)) (fun z => nomatch z) fun _ => rfl) fun z => nomatch z⟩
        obtain ⟨n, ty, hk⟩ := kt
        dsimp only [tNil]
        refine kit2 hk ty e1 ?_
        walk_at "rd"
        have hq : SqL K H1 a xs ∨ SqT K H1 a xs := hs.elim (fun e => .inl (SqL.of (s1 _ _ e))) fun e => .inr (SqT.of (s1 _ _ e))
        refine ⟨a, xs, rfl, hq, ?_⟩
        walk_at "rd"
        refine ite2 (fun hc => ?_) (fun hc => absurd (V.int.inj (ne_no hc)) hl)
        walk_at "rd"
        exact ⟨rfl, fun d hd => q d H1 s1 hd⟩
      · dsimp only [tNil]
        refine kit2 hk (ty _ s1) e1 ?_
        walk_at "rd"
        exact ⟨rfl, fun d hd => q d H1 s1 hd⟩
    · refine .inr ⟨h, q⟩
end
end K47

set_option Elab.async false
set_option linter.all false
set_option maxRecDepth 100000
set_option maxHeartbeats 4000000
set_option pp.deepTerms false
set_option pp.deepTerms.threshold 12
namespace K47
open PySem PySem.Spec PyProof.Rows L2
local macro_rules | `(tactic| walk_at "ty") => `(tactic| first | exact .base (.int _) | exact .base (.bl _) | exact .base (.str _) | exact .base .non | assumption | exact .base (.tup (by assumption)) | exact .base (.lst (by assumption)))
local macro_rules | `(tactic| walk_at "cm") => `(tactic| first | exact cm_r (by decide) (by decide) | exact cm_l (by decide) (by decide) | exact cm_fmod (by decide) (by decide) | exact cm_r (by omega) (by omega) | exact cm_l (by omega) (by omega))
local macro_rules | `(tactic| walk_at "dv") => `(tactic| first | exact ⟨by decide, by decide⟩ | exact ⟨by omega, by omega⟩)
local macro_rules | `(tactic| walk_at "r1") => `(tactic| first
  | refine ⟨_, rfl, ?_⟩ | refine ⟨_, _, rfl, rfl, ?_⟩ | refine Or.inl ⟨_, rfl, ?_⟩ | refine Or.inr ⟨_, rfl, ?_⟩
  | refine And.intro (a := CMul _ _) (by walk_at "cm") ?_ | refine And.intro (a := CDivN _ _) (by walk_at "dv") ?_ | refine And.intro (a := _ ≠ (0 : Int)) (by first | decide | omega) ?_ | refine And.intro (a := scal _ _ = true) rfl ?_ | refine ⟨_, _, _, _, rfl, rfl, SqL.of (by first | exact upd_same | assumption), rfl, ?_⟩ | refine ⟨_, _, _, _, rfl, rfl, (by first | exact upd_same | assumption), rfl, ?_⟩ | refine ⟨_, _, rfl, ?_⟩ | refine And.intro (a := (_ : V) = V.non) rfl ?_ | refine And.intro (a := CPow _ _) ⟨by decide, by decide, by decide⟩ ?_ | refine And.intro (a := (_ : List V) = []) rfl ?_ | refine ⟨_, _, rfl, SqT.of (by first | exact upd_same | assumption), rfl, ?_⟩
  | refine ⟨_, _, _, _, rfl, rfl, SqT.of (by first | exact upd_same | assumption), rfl, ?_⟩
  | refine ⟨_, _, _, _, true, rfl, ClsV.ty _, (by walk_at "ty"), kit_ty (by decide +kernel), ?_⟩ | refine ⟨_, _, _, _, false, rfl, ClsV.ty _, (by walk_at "ty"), kit_ty (by decide +kernel), ?_⟩)
local macro_rules | `(tactic| walk_at "rd") => `(tactic| repeat walk_at "r1")
local macro_rules | `(tactic| walk_at "yes") => `(tactic| (change (if true = true then _ else _); rw [if_pos rfl]))
local macro_rules | `(tactic| walk_at "no") => `(tactic| (change (if false = true then _ else _); rw [if_neg Bool.false_ne_true]))
local macro_rules | `(tactic| walk_at "nw") => `(tactic| refine And.intro (a := _ ≤ sizeLine) (sz_le (Nat.le_of_ble_eq_true rfl)) ?_)

section
variable {P : Program} {w : World} {K : PySem.W.Frag} {mg : Str → Option Value} {base : Heap}
variable {C_VaultError C_NumberError C_BadPrime C_BadTable C_BadCells C_ShapeError C_PaperError C_BadMove fV fI_BadMove fI_BadCells fI_BadPrime fI_BadTable : Addr}
variable (T : Txt P K mg C_VaultError C_NumberError C_BadPrime C_BadTable C_BadCells C_ShapeError C_PaperError C_BadMove fV fI_BadMove fI_BadCells fI_BadPrime fI_BadTable)
include T
/-! ### the stretch as mathematics -/
def cellT (tb : List Int) (i : Int) : Int := tb.getD i.toNat 0
def rowN (tb : List Int) (x : Int) : Nat → Int
  | 0 => x
  | k + 1 => cellT tb (rowN tb x k)
def foldN (p : Int) (tb : List Int) (r : Nat → Int) (n : Nat) : Nat → Int
  | 0 => 0
  | k + 1 => cellT tb ((foldN p tb r n k + r (n - k)) % p)
def worthN (p : Int) (ups downs : List Int) (x : Int) (n : Nat) : Int := foldN p downs (rowN ups x) n n
omit T in
theorem cellT_in {p : Int} {tb : List Int} (h : TbOk p tb) {i : Int} (i0 : 0 ≤ i) (i1 : i < p) : 0 ≤ cellT tb i ∧ cellT tb i < p := by
  obtain ⟨j, rfl⟩ : ∃ j : Nat, i = j := ⟨i.toNat, by omega⟩
  have hj : j < tb.length := by have := h.1; omega
  have e : cellT tb (j : Int) = tb[j] := by
    unfold cellT
    rw [Int.toNat_natCast, List.getD_eq_getElem?_getD, List.getElem?_eq_getElem hj]
    rfl
  have := h.2 _ (List.getElem_mem hj)
  rw [e]
  omega
omit T in
theorem cellT_at {p : Int} {tb : List Int} (h : TbOk p tb) {i : Int} (i0 : 0 ≤ i) (i1 : i < p) : atI (tb.map V.int) i = some (.int (cellT tb i)) := by
  obtain ⟨j, rfl⟩ : ∃ j : Nat, i = j := ⟨i.toNat, by omega⟩
  have hj : j < tb.length := by have := h.1; omega
  refine atI_nat ?_
  rw [List.getElem?_map, List.getElem?_eq_getElem hj]
  unfold cellT
  rw [Int.toNat_natCast, List.getD_eq_getElem?_getD, List.getElem?_eq_getElem hj]
  rfl
omit T in
theorem rowN_in {p : Int} {tb : List Int} (h : TbOk p tb) {x : Int} (x0 : 0 ≤ x) (x1 : x < p) : ∀ k, 0 ≤ rowN tb x k ∧ rowN tb x k < p
  | 0 => ⟨x0, x1⟩
  | k + 1 => cellT_in h (rowN_in h x0 x1 k).1 (rowN_in h x0 x1 k).2
omit T in
theorem TbAt.keep {H H' : Hp} {v : V} {p : Int} {tb : List Int} (h : TbAt H v p tb) (s : Same H H') : TbAt H' v p tb := by
  obtain ⟨a, rfl, h, ok⟩ := h
  exact ⟨a, rfl, h.keep s, ok⟩
omit T in
theorem Nrm.keep {H H' : Hp} {x : V} (h : Nrm H x) (s : Same H H') : Nrm H' x := h.elim .inl fun ⟨n, e⟩ => .inr ⟨n, e.keep s⟩
omit T in
theorem NoTb.keep {H H' : Hp} {p : Int} {v : V} (h : NoTb H p v) (s : Same H H') : NoTb H' p v := by
  cases h with
  | non => exact .non
  | int i => exact .int i
  | str s => exact .str s
  | dict a kvs h => exact .dict a kvs (s _ _ h)
  | short a xs h n => exact .short a xs (h.keep s) n
  | odd a xs h n k b => exact .odd a xs (h.keep s) n (fun x hx => (k x hx).keep s) b
omit T in
theorem TbAt.tup {H : Hp} {t : Addr} {p : Int} {tb : List Int} (h : H t = some (.tup (tb.map V.int))) (ok : TbOk p tb) : TbAt H (.ref t) p tb := ⟨t, rfl, .inr h, ok⟩
def spFold : Sp := fun vs H Q _ => ∃ (p : Int) (d : Addr) (a b : Int), vs = [.int p, .ref d, .int a, .int b] ∧ 2 ≤ p ∧ ∃ tb, H d = some (.tup (tb.map V.int)) ∧ TbOk p tb ∧ Q (.int (cellT tb ((a + b) % p))) H
theorem ok_fold {f : Addr} {fd : FuncData} (F : Fun K "fold" "fold" s_fold f fd) : FnOk P w K mg base CX0 1 f fd p_fold spFold := by
  refine F.ok sc_fold (fun vs H Q E h => ?_) (fun cdv A outer s H vs Q E hr h => ?_)
  · obtain ⟨a, b, c, d, rfl, _⟩ := h
    rfl
  · obtain ⟨p, d, a, b, rfl, p2, tb, hd, ok, q⟩ := h
    refine ⟨_, (pss_one (ps_ret (by exact (pe_ix ix_tup (pv 1) (pe_op op_modN (pe_op op_add (pv 2) (pv 3)) (pv 0)) (fun _ _ => rfl))))), ?_⟩
    walk_at "rd"
    refine ⟨d, _, _, _, rfl, rfl, SqT.of hd, ?_, q⟩
    rw [Int.fmod_eq_emod_of_nonneg _ (by omega)]
    exact cellT_at ok (Int.emod_nonneg _ (by omega)) (Int.emod_lt_of_pos _ (by omega))
def rowV (tb : List Int) (x : Int) (n : Nat) : List V := (List.range n).map fun k => .int (rowN tb x k)
omit T in
theorem rowV_succ {tb : List Int} {x : Int} {n : Nat} : rowV tb x (n + 1) = rowV tb x n ++ [.int (rowN tb x n)] := by
  unfold rowV
  rw [List.range_succ, List.map_append]
  rfl
omit T in
theorem rowV_len {tb : List Int} {x : Int} {n : Nat} : (rowV tb x n).length = n := by
  unfold rowV
  rw [List.length_map, List.length_range]
def spChain (Cp Ct : Addr) : Sp := fun vs H Q E => ∃ (pv v : V) (x : Int) (n : Nat), vs = [pv, v, .int x, .int n] ∧
  ((∃ p : Int, pv = .int p ∧ p ∈ M02.primes ∧ ((∃ tb, TbAt H v p tb ∧ (0 ≤ x ∧ x < p ∧ n ≤ 120) ∧ ∀ l H', Same H H' → H l = none → H' l = some (.lst (rowV tb x (n + 1))) → Q (.ref l) H') ∨
    NoTb H p v ∧ ∀ d H', Same H H' → H' d = none → E (.ref Ct) (some d) (upd H' d (.xd (excD ["which"] "BadTable" [.str "up"]))))) ∨
  NoV H pv ∧ ∀ d, H d = none → E (.ref Cp) (some d) (upd H d (.xd (excD ["value"] "BadPrime" [pv]))))
theorem ok_chain {f : Addr} {fd : FuncData} (F : Fun K "chain" "chain" s_chain f fd) {f_check_table : Addr} {fd_check_table : FuncData} (D_check_table : Def K mg "check_table" s_check_table p_check_table f_check_table fd_check_table) (G_check_table : FnOk P w K mg base (L2N.CX P w) 4 f_check_table fd_check_table p_check_table (spTable C_BadPrime C_BadTable)) : FnOk P w K mg base (L2N.CX P w) 5 f fd p_chain (spChain C_BadPrime C_BadTable) := by
  refine F.okN sc_chain (fun vs H Q E h => ?_) (fun cdv A outer s H vs Q E hr h => ?_)
  · obtain ⟨p1, v, x, n, rfl, _⟩ := h
    rfl
  · obtain ⟨p1, v, x, n, rfl, q⟩ := h
    have tk := L2N.takes_of (X := cxOf (L2N.CX P w) P w K mg base N_chain "chain" (defScope s_chain) f cdv A outer s H E) rfl rfl rfl rfl
    have passO := passes_of (X := cxOf (L2N.CX P w) P w K mg base N_chain "chain" (defScope s_chain) f cdv A outer s H E) rfl
    refine ⟨_, (pss_cons (ps_set (i := 4) sc_chain.nd rfl (Or.inl rfl) (by exact (pe_callS G_check_table (hr.mono (by first | decide | omega)) rfl D_check_table.g D_check_table.fn.kp D_check_table.b (fun σ => L2N.passAt tk σ) (pa_cons (pv 0) (pa_cons (pv 1) (pa_cons pe_str pa_nil))))))
      (pss_cons (ps_set (i := 5) sc_chain.nd rfl (Or.inl rfl) (by exact (pe_lst (pa_cons (pv 2) pa_nil))))
      (pss_cons (ps_for passO rfl (pi_range1 (by rfl) T.b_range (pa_cons (pv 3) pa_nil)) (pg_name (i := 6) sc_chain.nd rfl (Or.inl rfl)) (pss_one (ps_expr (pe_bm PySem.F.plainAttrs_list PySem.F.slot_list_append PySem.F.type_list_append mt_append (pv 5) (pa_cons (pe_ix ix_tup (pv 4) (pe_ix ix_list (pv 5) (pe_un un_neg pe_int) (fun _ _ => rfl)) (fun _ _ => rfl)) pa_nil)))))
      (pss_one (ps_ret (by exact (pv 5))))))), ?_⟩
    walk_at "rd"
    rcases q with ⟨p, rfl, hp, ⟨tb, ht, ⟨x0, x1, n1⟩, q⟩ | ⟨h, q⟩⟩ | ⟨h, q⟩
    · obtain ⟨_, _, _, ok⟩ := id ht
      refine ⟨_, _, _, rfl, .inl ⟨p, rfl, hp, .inl ⟨tb, ht, fun t H1 s1 e1 => ?_⟩⟩⟩
      clear ht
      walk_at "rd"
      walk_at "nw"
      intro l hl
      walk_at "rd"
      generalize hg : upd H1 l _ = H2
      have s2 : Same H1 H2 := by rw [← hg]; exact same_new hl
      have el : H2 l = some (.lst (rowV tb x 1)) := by rw [← hg]; exact upd_same
      clear hg
      refine ⟨by omega, by omega, ?_⟩
      rw [show ((n : Nat) : Int).toNat = n by omega]
      refine for_range (fun i σ H' => ∃ v6 : Option V, σ = [some (.int p), some v, some (.int x), some (.int n), some (.ref t), some (.ref l), v6] ∧ Same H1 H' ∧ H' l = some (.lst (rowV tb x (i + 1)))) ⟨_, rfl, s2, el⟩ ?_ ?_
      · rintro i σ H3 hi ⟨v6, rfl, s3, e3⟩
        walk_at "rd"
        refine ⟨.inl ⟨rfl, _, SqL.of e3⟩, ?_⟩
        walk_at "rd"
        refine ⟨l, _, _, _, rfl, rfl, SqL.of e3, by rw [rowV_succ]; exact atI_last _ _, ?_⟩
        walk_at "rd"
        have b := rowN_in ok x0 x1 i
        refine ⟨t, _, _, _, rfl, rfl, SqT.of (s3 _ _ e1), cellT_at ok b.1 b.2, ?_⟩
        refine ⟨l, _, _, rfl, rfl, e3, sz_lt (by rw [rowV_len]; omega), ?_⟩
        exact ⟨_, rfl, s3.mut hl, by rw [upd_same, rowV_succ (n := i + 1)]; rfl⟩
      · rintro σ H3 ⟨v6, rfl, s3, e3⟩
        walk_at "rd"
        exact q l H3 (s1.trans s3) (same_free hl s1) e3
    · exact ⟨_, _, _, rfl, .inl ⟨p, rfl, hp, .inr ⟨h, q⟩⟩⟩
    · exact ⟨_, _, _, rfl, .inr ⟨h, q⟩⟩
def rowW (tb : List Int) (x : Int) (n : Nat) : List V := (List.range n).map fun k => .int (rowN tb x (k + 1))
omit T in
theorem rowV_cut {tb : List Int} {x : Int} {n : Nat} : cutV (rowV tb x (n + 1)) (some 1) none = rowW tb x n := by
  unfold rowV rowW
  rw [List.range_succ_eq_map, List.map_cons, cut1, List.map_map]
  rfl
omit T in
theorem rowW_len {tb : List Int} {x : Int} {n : Nat} : (rowW tb x n).length = n := by
  unfold rowW
  rw [List.length_map, List.length_range]
omit T in
theorem rowW_at {tb : List Int} {x : Int} {n i : Nat} (h : i < n) : (rowW tb x n)[n - 1 - i]? = some (.int (rowN tb x (n - i))) := by
  unfold rowW
  rw [List.getElem?_map, List.getElem?_range (by omega)]
  show some (V.int (rowN tb x (n - 1 - i + 1))) = _
  rw [show n - 1 - i + 1 = n - i by omega]
def TwoTb (Cp Ct : Addr) (pv u v : V) (H : Hp) (E : XK) (good : Int → List Int → List Int → Prop) : Prop :=
  (∃ p : Int, pv = .int p ∧ p ∈ M02.primes ∧ ((∃ tb, TbAt H u p tb ∧ ((∃ t2, TbAt H v p t2 ∧ good p tb t2) ∨ NoTb H p v ∧ ∀ d H', Same H H' → H' d = none → E (.ref Ct) (some d) (upd H' d (.xd (excD ["which"] "BadTable" [.str "down"]))))) ∨
    NoTb H p u ∧ ∀ d H', Same H H' → H' d = none → E (.ref Ct) (some d) (upd H' d (.xd (excD ["which"] "BadTable" [.str "up"]))))) ∨
  NoV H pv ∧ ∀ d, H d = none → E (.ref Cp) (some d) (upd H d (.xd (excD ["value"] "BadPrime" [pv])))
def spStretch (Cp Ct : Addr) : Sp := fun vs H Q E => ∃ (pv u v : V) (a b : Int) (n : Nat), vs = [pv, u, v, .int a, .int b, .int n] ∧ TwoTb Cp Ct pv u v H E fun p tb t2 => n ≤ 120 ∧ ∀ H', Same H H' → Q (.int (worthN p tb t2 ((a + b) % p) n)) H'
theorem ok_stretch {f : Addr} {fd : FuncData} (F : Fun K "stretch" "stretch" s_stretch f fd) {f_check_table : Addr} {fd_check_table : FuncData} (D_check_table : Def K mg "check_table" s_check_table p_check_table f_check_table fd_check_table) (G_check_table : FnOk P w K mg base (L2N.CX P w) 4 f_check_table fd_check_table p_check_table (spTable C_BadPrime C_BadTable)) {f_chain : Addr} {fd_chain : FuncData} (D_chain : Def K mg "chain" s_chain p_chain f_chain fd_chain) (G_chain : FnOk P w K mg base (L2N.CX P w) 5 f_chain fd_chain p_chain (spChain C_BadPrime C_BadTable)) {f_fold : Addr} {fd_fold : FuncData} (D_fold : Def K mg "fold" s_fold p_fold f_fold fd_fold) (G_fold : FnOk P w K mg base CX0 1 f_fold fd_fold p_fold spFold) : FnOk P w K mg base (L2N.CX P w) 6 f fd p_stretch (spStretch C_BadPrime C_BadTable) := by
  refine F.okN sc_stretch (fun vs H Q E h => ?_) (fun cdv A outer s H vs Q E hr h => ?_)
  · obtain ⟨p1, u, v, a, b, n, rfl, _⟩ := h
    rfl
  · obtain ⟨p1, u, v, a, b, n, rfl, q⟩ := h
    have tk := L2N.takes_of (X := cxOf (L2N.CX P w) P w K mg base N_stretch "stretch" (defScope s_stretch) f cdv A outer s H E) rfl rfl rfl rfl
    have passO := passes_of (X := cxOf (L2N.CX P w) P w K mg base N_stretch "stretch" (defScope s_stretch) f cdv A outer s H E) rfl
    refine ⟨_, (pss_cons (ps_set (i := 6) sc_stretch.nd rfl (Or.inl rfl) (by exact (pe_callS G_check_table (hr.mono (by first | decide | omega)) rfl D_check_table.g D_check_table.fn.kp D_check_table.b (fun σ => L2N.passAt tk σ) (pa_cons (pv 0) (pa_cons (pv 1) (pa_cons pe_str pa_nil))))))
      (pss_cons (ps_set (i := 7) sc_stretch.nd rfl (Or.inl rfl) (by exact (pe_callS G_check_table (hr.mono (by first | decide | omega)) rfl D_check_table.g D_check_table.fn.kp D_check_table.b (fun σ => L2N.passAt tk σ) (pa_cons (pv 0) (pa_cons (pv 2) (pa_cons pe_str pa_nil))))))
      (pss_cons (ps_set (i := 8) sc_stretch.nd rfl (Or.inl rfl) (by exact (pe_callS G_chain (hr.mono (by first | decide | omega)) rfl D_chain.g D_chain.fn.kp D_chain.b (fun σ => L2N.passAt tk σ) (pa_cons (pv 0) (pa_cons (pv 6) (pa_cons (pe_op op_modN (pe_op op_add (pv 3) (pv 4)) (pv 0)) (pa_cons (pv 5) pa_nil)))))))
      (pss_cons (ps_set (i := 9) sc_stretch.nd rfl (Or.inl rfl) (by exact pe_int))
      (pss_cons (ps_for passO rfl (pi_reversed (by rfl) T.b_reversed (pa_cons (pe_slice sl_list (pv 8) (po_some pe_int) po_none) pa_nil)) (pg_name (i := 10) sc_stretch.nd rfl (Or.inl rfl)) (pss_one (ps_set (i := 9) sc_stretch.nd rfl (Or.inl rfl) (by exact (pe_call G_fold (hr.mono (by first | decide | omega)) rfl D_fold.g D_fold.fn.kp D_fold.b .nil pass0 (pa_cons (pv 0) (pa_cons (pv 7) (pa_cons (pv 9) (pa_cons (pv 10) pa_nil)))))))))
      (pss_one (ps_ret (by exact (pv 9))))))))), ?_⟩
    walk_at "rd"
    rcases q with ⟨p, rfl, hp, ⟨tb, ht, q⟩ | ⟨h, q⟩⟩ | ⟨h, q⟩
    · obtain ⟨_, _, _, ok⟩ := id ht
      have hp2 := (M02.primes_lo hp)
      refine ⟨_, _, _, rfl, .inl ⟨p, rfl, hp, .inl ⟨tb, ht, fun t H1 s1 e1 => ?_⟩⟩⟩
      walk_at "rd"
      rcases q with ⟨t2, ht2, n1, q⟩ | ⟨h, q⟩
      · obtain ⟨_, _, _, ok2⟩ := id ht2
        refine ⟨_, _, _, rfl, .inl ⟨p, rfl, hp, .inl ⟨t2, ht2.keep s1, fun t3 H2 s2 e2 => ?_⟩⟩⟩
        clear ht ht2
        walk_at "rd"
        have em : (a + b).fmod p = (a + b) % p := Int.fmod_eq_emod_of_nonneg _ (by omega)
        have x0 : 0 ≤ (a + b) % p := Int.emod_nonneg _ (by omega)
        have x1 : (a + b) % p < p := Int.emod_lt_of_pos _ (by omega)
        refine ⟨.int p, .ref t, (a + b) % p, n, by rw [← em], .inl ⟨p, rfl, hp, .inl ⟨tb, TbAt.tup (s2 _ _ e1) ok, ⟨x0, x1, n1⟩, fun l H3 s3 hl e3 => ?_⟩⟩⟩
        clear em
        generalize (a + b) % p = x at q x0 x1 e3 ⊢
        walk_at "rd"
        refine ⟨l, _, rfl, SqL.of e3, fun l2 h2 => ?_⟩
        have s4 : Same H3 (upd H3 l2 (.lst (rowW tb x n))) := same_new h2
        rw [rowV_cut]
        generalize hg : upd H3 l2 _ = H4 at s4 ⊢
        have e4 : H4 l2 = some (.lst (rowW tb x n)) := by rw [← hg]; exact upd_same
        clear hg
        walk_at "rd"
        refine ⟨l2, _, rfl, SqL.of e4, ?_⟩
        have f2 := s4 _ _ (s3 _ _ e2)
        have sH : Same H H4 := ((s1.trans s2).trans s3).trans s4
        refine RT.for_Itv (K := K) (a := l2) (xs := rowW tb x n) (fun i σ H' => ∃ v10 : Option V, σ = [some (.int p), some u, some v, some (.int a), some (.int b), some (.int n), some (.ref t), some (.ref t3), some (.ref l), some (.int (foldN p t2 (rowN tb x) n i)), v10] ∧ H' = H4) ⟨_, rfl, rfl⟩ (fun i σ H' z => by obtain ⟨_, _, rfl⟩ := z; exact SqL.of e4) ?_ ?_
        · rintro i y σ H' hi hy ⟨v10, rfl, rfl⟩
          rw [rowW_len] at hi hy
          rw [rowW_at hi] at hy
          cases hy
          walk_at "rd"
          refine ⟨p, t3, _, _, rfl, by omega, t2, f2, ok2, ?_⟩
          exact ⟨_, rfl, rfl⟩
        · rintro σ H' ⟨v10, rfl, rfl⟩
          rw [rowW_len]
          walk_at "rd"
          exact q _ sH
      · exact ⟨_, _, _, rfl, .inl ⟨p, rfl, hp, .inr ⟨h.keep s1, fun d H' sm hd => q d H' (s1.trans sm) hd⟩⟩⟩
    · exact ⟨_, _, _, rfl, .inl ⟨p, rfl, hp, .inr ⟨h, q⟩⟩⟩
    · exact ⟨_, _, _, rfl, .inr ⟨h, q⟩⟩
end
end K47

set_option Elab.async false
set_option linter.all false
set_option maxRecDepth 100000
set_option maxHeartbeats 4000000
set_option pp.deepTerms false
set_option pp.deepTerms.threshold 12
namespace K47
open PySem PySem.Spec PyProof.Rows L2
local macro_rules | `(tactic| walk_at "ty") => `(tactic| first | exact .base (.int _) | exact .base (.bl _) | exact .base (.str _) | exact .base .non | assumption | exact .base (.tup (by assumption)) | exact .base (.lst (by assumption)))
local macro_rules | `(tactic| walk_at "cm") => `(tactic| first | exact cm_r (by decide) (by decide) | exact cm_l (by decide) (by decide) | exact cm_fmod (by decide) (by decide) | exact cm_r (by omega) (by omega) | exact cm_l (by omega) (by omega))
local macro_rules | `(tactic| walk_at "dv") => `(tactic| first | exact ⟨by decide, by decide⟩ | exact ⟨by omega, by omega⟩)
local macro_rules | `(tactic| walk_at "r1") => `(tactic| first
  | refine ⟨_, rfl, ?_⟩ | refine ⟨_, _, rfl, rfl, ?_⟩ | refine Or.inl ⟨_, rfl, ?_⟩ | refine Or.inr ⟨_, rfl, ?_⟩
  | refine And.intro (a := CMul _ _) (by walk_at "cm") ?_ | refine And.intro (a := CDivN _ _) (by walk_at "dv") ?_ | refine And.intro (a := _ ≠ (0 : Int)) (by first | decide | omega) ?_ | refine And.intro (a := scal _ _ = true) rfl ?_ | refine ⟨_, _, _, _, rfl, rfl, SqL.of (by first | exact upd_same | assumption), rfl, ?_⟩ | refine ⟨_, _, _, _, rfl, rfl, (by first | exact upd_same | assumption), rfl, ?_⟩ | refine ⟨_, _, rfl, ?_⟩ | refine And.intro (a := (_ : V) = V.non) rfl ?_ | refine And.intro (a := CPow _ _) ⟨by decide, by decide, by decide⟩ ?_ | refine And.intro (a := (_ : List V) = []) rfl ?_ | refine ⟨_, _, rfl, SqT.of (by first | exact upd_same | assumption), rfl, ?_⟩
  | refine ⟨_, _, _, _, rfl, rfl, SqT.of (by first | exact upd_same | assumption), rfl, ?_⟩
  | refine ⟨_, _, _, _, true, rfl, ClsV.ty _, (by walk_at "ty"), kit_ty (by decide +kernel), ?_⟩ | refine ⟨_, _, _, _, false, rfl, ClsV.ty _, (by walk_at "ty"), kit_ty (by decide +kernel), ?_⟩)
local macro_rules | `(tactic| walk_at "rd") => `(tactic| repeat walk_at "r1")
local macro_rules | `(tactic| walk_at "yes") => `(tactic| (change (if true = true then _ else _); rw [if_pos rfl]))
local macro_rules | `(tactic| walk_at "no") => `(tactic| (change (if false = true then _ else _); rw [if_neg Bool.false_ne_true]))
local macro_rules | `(tactic| walk_at "nw") => `(tactic| refine And.intro (a := _ ≤ sizeLine) (sz_le (Nat.le_of_ble_eq_true rfl)) ?_)

section
variable {P : Program} {w : World} {K : PySem.W.Frag} {mg : Str → Option Value} {base : Heap}
variable {C_VaultError C_NumberError C_BadPrime C_BadTable C_BadCells C_ShapeError C_PaperError C_BadMove fV fI_BadMove fI_BadCells fI_BadPrime fI_BadTable : Addr}
variable (T : Txt P K mg C_VaultError C_NumberError C_BadPrime C_BadTable C_BadCells C_ShapeError C_PaperError C_BadMove fV fI_BadMove fI_BadCells fI_BadPrime fI_BadTable)
include T
theorem stepM_some {n c : Int} {s s' : PlaySt} {m : Mv} (h : stepM n c s m = some s') : (∃ a b i, m = .up a b ∧ okM c m ∧ s.h a = some i ∧ i < n ∧ s' = ⟨setH s.h b (i + 1), s.due, s.ups + 1⟩) ∨ (∃ a, m = .read a ∧ okM c m ∧ s.h a = some s.due ∧ s.due ≠ 0 ∧ s' = ⟨s.h, s.due - 1, s.ups⟩) := by
  unfold stepM at h
  split at h
  · cases h
  · next hc =>
    have hd : s.due ≠ 0 := fun z => hc (.inl z)
    have hk : okM c m := Classical.byContradiction fun z => hc (.inr z)
    cases m with
    | up a b =>
      simp only at h
      cases e : s.h a with
      | none =>
        rw [e] at h
        cases h
      | some i =>
        rw [e] at h
        simp only at h
        split at h
        · next hi =>
          cases h
          exact .inl ⟨a, b, i, rfl, hk, e, hi, rfl⟩
        · cases h
    | read a =>
      simp only at h
      split at h
      · next he =>
        cases h
        exact .inr ⟨a, rfl, hk, he, hd, rfl⟩
      · cases h
    | bad => cases h
/-- what the cells hold as numbers of the row -/
def RowD (kvs : List (Key × V)) (h : Int → Option Int) (r : Nat → Int) : Prop := ∀ x : Int, valV kvs (Sum.inl x) = (h x).map fun i => V.int (r i.toNat)
omit T in
theorem RowD.set {kvs : List (Key × V)} {h : Int → Option Int} {r : Nat → Int} (x : RowD kvs h r) (b v : Int) : RowD (putK kvs (Sum.inl b) (.int (r v.toNat))) (setH h b v) r := fun y => by
  rw [valV_put]
  by_cases e : y = b
  · subst e
    rw [if_pos rfl]
    show _ = (if y = y then some v else h y).map fun i => V.int (r i.toNat)
    rw [if_pos rfl]
    rfl
  · rw [if_neg (fun z => e (Sum.inl.inj z))]
    show _ = (if y = b then some v else h y).map fun i => V.int (r i.toNat)
    rw [if_neg e]
    exact x y
omit T in
theorem RowD.start {n x : Int} {r : Nat → Int} (h0 : r 0 = x) : RowD [(Sum.inl 0, .int x)] (st0 n).h r := fun y => by
  by_cases e : y = 0
  · subst e
    rw [← h0]
    rfl
  · rw [valV_neg (fun z => e (Sum.inl.inj z).symm), valV_nil]
    show none = (if y = 0 then some (0 : Int) else none).map fun i => V.int (r i.toNat)
    rw [if_neg e]
    rfl
/-- what is held is a place of the row -/
def InR (n : Nat) (s : PlaySt) : Prop := (∀ a i, s.h a = some i → 0 ≤ i ∧ i ≤ n) ∧ 0 ≤ s.due ∧ s.due ≤ n
omit T in
theorem InR.up {n : Nat} {s : PlaySt} (h : InR n s) {a b i : Int} (e : s.h a = some i) (l : i < n) : InR n ⟨setH s.h b (i + 1), s.due, s.ups + 1⟩ := by
  have g := h.1 a i e
  refine ⟨fun y j hj => ?_, h.2⟩
  have hj2 : (if y = b then some (i + 1) else s.h y) = some j := hj
  split at hj2
  · cases hj2
    omega
  · exact h.1 y j hj2
omit T in
theorem InR.start (n : Nat) : InR n (st0 n) := by
  refine ⟨fun y j hj => ?_, Int.natCast_nonneg n, Int.le_refl _⟩
  have hj2 : (if y = 0 then some (0 : Int) else none) = some j := hj
  split at hj2
  · cases hj2
    omega
  · cases hj2
def spRun (K : PySem.W.Frag) (Cp Ct Cc Cm : Addr) : Sp := fun vs H Q E => ∃ (pv u v mv b : V) (x : Int) (n : Nat), vs = [pv, u, v, mv, .int x, .int n, b] ∧ TwoTb Cp Ct pv u v H E fun p tb t2 =>
  (∃ c : Int, b = .int c ∧ (n ≤ 120 ∧ 1 ≤ c ∧ c ≤ 120) ∧ (0 ≤ x ∧ x < p) ∧ ∃ (a : Addr) (xs : List V) (ms : List Mv), mv = .ref a ∧ SeqAt H a xs ∧ xs.length ≤ 20000 ∧ IsMs H xs ms ∧
    (∀ k, verdict n c ms = .inl k → ∀ t H', Same H H' → H' t = some (.tup [.int (worthN p tb t2 x n), .int k]) → Q (.ref t) H') ∧
    ∀ j : Nat, verdict n c ms = .inr j → ∀ d H', Same H H' → H' d = none → E (.ref Cm) (some d) (upd H' d (.xd (excD ["at"] "BadMove" [.int j])))) ∨
  ((∃ i, b = .int i ∧ i < 1) ∨ (∃ n, NotInt H b n)) ∧ ∀ d H', Same H H' → H' d = none → E (.ref Cc) (some d) (upd H' d (.xd (excD ["cells"] "BadCells" [b])))
def RunI (p : Int) (u v mv : V) (x : Int) (n : Nat) (c : Int) (t t3 d : Addr) (k : Int) (tb t2 : List Int) (ms : List Mv) (H : Hp) : Nat → L2.St → Hp → Prop := fun i σ H' => ∃ (kvs : List (Key × V)) (s : PlaySt) (v12 : Option V),
  σ = [some (.int p), some u, some v, some mv, some (.int x), some (.int n), some (.int c), some (.ref t), some (.ref t3), some (.int k), some (.ref d), some (.int (foldN p t2 (rowN tb x) n (n - s.due).toNat)), v12] ∧
  Same H H' ∧ H' d = some (.dK kvs) ∧ RowD kvs s.h (rowN tb x) ∧ InR n s ∧ kvs.length ≤ i + 1 ∧ runM n c ms 0 (st0 n) = runM n c (ms.drop i) i s
omit T in
theorem nb_keep {H H' : Hp} {b : V} (h : (∃ i, b = .int i ∧ i < 1) ∨ (∃ n, NotInt H b n)) (s : Same H H') : (∃ i, b = .int i ∧ i < 1) ∨ (∃ n, NotInt H' b n) := h.elim .inl fun ⟨n, e⟩ => .inr ⟨n, e.keep s⟩
omit T in
theorem IsMs.keep {H H' : Hp} {xs : List V} {ms : List Mv} (h : IsMs H xs ms) (s : Same H H') : IsMs H' xs ms := by
  induction h with
  | nil => exact .nil
  | cons a _ ih => exact .cons (a.keep s) ih
theorem ok_run_moves {f : Addr} {fd : FuncData} (F : Fun K "run_moves" "run_moves" s_run_moves f fd) {f_check_table : Addr} {fd_check_table : FuncData} (D_check_table : Def K mg "check_table" s_check_table p_check_table f_check_table fd_check_table) (G_check_table : FnOk P w K mg base (L2N.CX P w) 4 f_check_table fd_check_table p_check_table (spTable C_BadPrime C_BadTable)) {f_check_moves : Addr} {fd_check_moves : FuncData} (D_check_moves : Def K mg "check_moves" s_check_moves p_check_moves f_check_moves fd_check_moves) (G_check_moves : FnOk P w K mg base (L2N.CX P w) 4 f_check_moves fd_check_moves p_check_moves (spCheck K C_BadCells C_BadMove)) {f_fold : Addr} {fd_fold : FuncData} (D_fold : Def K mg "fold" s_fold p_fold f_fold fd_fold) (G_fold : FnOk P w K mg base CX0 1 f_fold fd_fold p_fold spFold) : FnOk P w K mg base (L2N.CX P w) 5 f fd p_run_moves (spRun K C_BadPrime C_BadTable C_BadCells C_BadMove) := by
  refine F.okN sc_run_moves (fun vs H Q E h => ?_) (fun cdv A outer s H vs Q E hr h => ?_)
  · obtain ⟨p1, u, v, mv, b, x, n, rfl, _⟩ := h
    rfl
  · obtain ⟨p1, u, v, mv, b, x, n, rfl, q⟩ := h
    have tk := L2N.takes_of (X := cxOf (L2N.CX P w) P w K mg base N_run_moves "run_moves" (defScope s_run_moves) f cdv A outer s H E) rfl rfl rfl rfl
    have passO := passes_of (X := cxOf (L2N.CX P w) P w K mg base N_run_moves "run_moves" (defScope s_run_moves) f cdv A outer s H E) rfl
    refine ⟨_, (pss_cons (ps_set (i := 7) sc_run_moves.nd rfl (Or.inl rfl) (by exact (pe_callS G_check_table (hr.mono (by first | decide | omega)) rfl D_check_table.g D_check_table.fn.kp D_check_table.b (fun σ => L2N.passAt tk σ) (pa_cons (pv 0) (pa_cons (pv 1) (pa_cons pe_str pa_nil))))))
      (pss_cons (ps_set (i := 8) sc_run_moves.nd rfl (Or.inl rfl) (by exact (pe_callS G_check_table (hr.mono (by first | decide | omega)) rfl D_check_table.g D_check_table.fn.kp D_check_table.b (fun σ => L2N.passAt tk σ) (pa_cons (pv 0) (pa_cons (pv 2) (pa_cons pe_str pa_nil))))))
      (pss_cons (ps_set (i := 9) sc_run_moves.nd rfl (Or.inl rfl) (by exact (pe_callS G_check_moves (hr.mono (by first | decide | omega)) rfl D_check_moves.g D_check_moves.fn.kp D_check_moves.b (fun σ => L2N.passAt tk σ) (pa_cons (pv 5) (pa_cons (pv 6) (pa_cons (pv 3) pa_nil))))))
      (pss_cons (ps_set (i := 10) sc_run_moves.nd rfl (Or.inl rfl) (by exact (pe_disp (pps_cons pe_int (pv 4) pps_nil) (by rfl) (by rfl) (fun z => by cases z) (by decide))))
      (pss_cons (ps_set (i := 11) sc_run_moves.nd rfl (Or.inl rfl) (by exact pe_int))
      (pss_cons (ps_for passO rfl (pi_seq2 (pv 3)) (pg_name (i := 12) sc_run_moves.nd rfl (Or.inl rfl)) (pss_one (ps_if (pt_cmpR op_eq (pe_ix ix_tup (pv 12) pe_int (fun _ _ => rfl)) pe_str (nomark _)) (pss_one (ps_dput (hu_of hr) (pv 10) (pe_ix ix_tup (pv 12) pe_int (fun _ _ => rfl)) (pe_ix ix_tup (pv 7) (pe_dget (hu_of hr) (pv 10) (pe_ix ix_tup (pv 12) pe_int (fun _ _ => rfl)) (fun _ _ => rfl)) (fun _ _ => rfl)) rfl)) (pss_one (ps_set (i := 11) sc_run_moves.nd rfl (Or.inl rfl) (by exact (pe_call G_fold (hr.mono (by first | decide | omega)) rfl D_fold.g D_fold.fn.kp D_fold.b .nil pass0 (pa_cons (pv 0) (pa_cons (pv 8) (pa_cons (pv 11) (pa_cons (pe_dget (hu_of hr) (pv 10) (pe_ix ix_tup (pv 12) pe_int (fun _ _ => rfl)) (fun _ _ => rfl)) pa_nil)))))))))))
      (pss_one (ps_ret (by exact (pe_tup (pa_cons (pv 11) (pa_cons (pv 9) pa_nil)))))))))))), ?_⟩
    walk_at "rd"
    rcases q with ⟨p, rfl, hp, ⟨tb, ht, q⟩ | ⟨h, q⟩⟩ | ⟨h, q⟩
    · obtain ⟨_, _, _, ok1⟩ := id ht
      have hp2 := (M02.primes_lo hp)
      refine ⟨_, _, _, rfl, .inl ⟨p, rfl, hp, .inl ⟨tb, ht, fun t H1 s1 e1 => ?_⟩⟩⟩
      walk_at "rd"
      rcases q with ⟨t2, ht2, q⟩ | ⟨h, q⟩
      · obtain ⟨_, _, _, ok2⟩ := id ht2
        refine ⟨_, _, _, rfl, .inl ⟨p, rfl, hp, .inl ⟨t2, ht2.keep s1, fun t3 H2 s2 e2 => ?_⟩⟩⟩
        clear ht ht2
        have s12 := s1.trans s2
        have e1' := s2 _ _ e1
        walk_at "rd"
        rcases q with ⟨c, rfl, ⟨n1, c0, c1⟩, ⟨x0, x1⟩, a, xs, ms, rfl, hv, hz, hm, qg, qb⟩ | ⟨h, q⟩
        · refine ⟨_, _, _, rfl, .inl ⟨c, rfl, ⟨by omega, by omega, c0, c1⟩, a, xs, ms, rfl, hv.keep s12, hz, hm.keep s12, fun H3 s3 => ⟨fun k hk => ?_, fun j hj d hd => qb j hj d H3 (s12.trans s3) hd⟩⟩⟩
          have s13 := s12.trans s3
          replace hv := hv.keep s13
          replace hm := hm.keep s13
          have f1 := s3 _ _ e1'
          have f2 := s3 _ _ e2
          clear s1 s2 s3 e1 e1' e2 s12 qb
          walk_at "rd"
          intro d hd
          walk_at "rd"
          refine ⟨upd_same, [(Sum.inl 0, .int x)], rfl, by show 1 ≤ 15; decide, ?_⟩
          generalize hg : upd (upd H3 d _) d _ = H4
          have s34 : Same H3 H4 := by rw [← hg, upd2]; exact same_new hd
          have e4 : H4 d = some (.dK [(Sum.inl 0, .int x)]) := by rw [← hg]; exact upd_same
          clear hg
          walk_at "rd"
          have h0 : RunI p u v (.ref a) x n c t t3 d k tb t2 ms H3 0 [some (.int p), some u, some v, some (.ref a), some (.int x), some (.int n), some (.int c), some (.ref t), some (.ref t3), some (.int k), some (.ref d), some (.int 0), none] H4 := ⟨_, st0 n, none, by
            show _ = [_, _, _, _, _, _, _, _, _, _, _, some (V.int (foldN p t2 (rowN tb x) n ((n : Int) - n).toNat)), _]
            rw [show ((n : Int) - n).toNat = 0 by omega]
            rfl, s34, e4, RowD.start rfl, InR.start n, Nat.le_refl _, rfl⟩
          rcases hv with hv | hv
          · refine .inl ⟨⟨xs, SqL.of (s34 _ _ hv)⟩, for_list (K := K) (a := a) (xs := xs) (RunI p u v (.ref a) x n c t t3 d k tb t2 ms H3) h0 (fun i σ H' _ z => ?_) ?_ ?_⟩
            · obtain ⟨_, _, _, _, z, _⟩ := z
              exact SqL.of (z _ _ hv)
            · rintro i y σ H5 hi ⟨kvs, s, v12, rfl, s5, e5, hh, inr, hkl, hrun⟩
              obtain ⟨m, hmi, him⟩ := pairedAt hm hi
              rw [runM_at hmi] at hrun
              have him5 := him.keep s5
              cases hst : stepM n c s m with
              | none =>
                rw [hst] at hrun
                exfalso
                unfold verdict at hk
                rw [hrun] at hk
                cases hk
              | some s' =>
                rw [hst] at hrun
                have hi3 : i < xs.length := (List.getElem?_eq_some_iff.mp hi).1
                rcases stepM_some T hst with ⟨a1, b1, i0, rfl, ok, hsa, hlt, rfl⟩ | ⟨a1, rfl, ok, hsa, hd0, rfl⟩
                · cases him5 with
                  | up w _ _ hw =>
                    have g := inr.1 _ _ hsa
                    have hg1 : DGet H5 d (.int a1) (some (.int (rowN tb x i0.toNat))) := by
                      have := DGet.k (k := Sum.inl a1) e5
                      rwa [hh a1, hsa] at this
                    have hr0 := rowN_in ok1 x0 x1 i0.toNat
                    walk_at "rd"
                    refine ⟨d, _, rfl, hg1, ?_⟩
                    walk_at "rd"
                    refine ⟨t, _, _, _, rfl, rfl, SqT.of (s5 _ _ f1), cellT_at ok1 hr0.1 hr0.2, ?_⟩
                    walk_at "rd"
                    refine ⟨d, _, rfl, DPut.k (k := Sum.inl b1) e5 (sz_lt (by omega)), ?_⟩
                    have er : cellT tb (rowN tb x i0.toNat) = rowN tb x (i0 + 1).toNat := by
                      rw [show (i0 + 1).toNat = i0.toNat + 1 by omega]
                      rfl
                    rw [er]
                    exact ⟨_, ⟨setH s.h b1 (i0 + 1), s.due, s.ups + 1⟩, _, rfl, s5.mut hd, upd_same, hh.set b1 (i0 + 1), inr.up hsa hlt, Nat.le_trans putK_len (by omega), hrun⟩
                · cases him5 with
                  | read w _ hw =>
                    have g := inr.2
                    have hg1 : DGet H5 d (.int a1) (some (.int (rowN tb x s.due.toNat))) := by
                      have := DGet.k (k := Sum.inl a1) e5
                      rwa [hh a1, hsa] at this
                    walk_at "rd"
                    refine ⟨d, _, rfl, hg1, ?_⟩
                    walk_at "rd"
                    refine ⟨p, t3, _, _, rfl, by omega, t2, s5 _ _ f2, ok2, ?_⟩
                    have er : cellT t2 ((foldN p t2 (rowN tb x) n ((n : Int) - s.due).toNat + rowN tb x s.due.toNat) % p) = foldN p t2 (rowN tb x) n ((n : Int) - (s.due - 1)).toNat := by
                      rw [show ((n : Int) - (s.due - 1)).toNat = ((n : Int) - s.due).toNat + 1 by omega]
                      show _ = cellT t2 ((_ + rowN tb x (n - ((n : Int) - s.due).toNat)) % p)
                      rw [show n - ((n : Int) - s.due).toNat = s.due.toNat by omega]
                    rw [er]
                    exact ⟨kvs, ⟨s.h, s.due - 1, s.ups⟩, _, rfl, s5, e5, hh, ⟨inr.1, by show 0 ≤ s.due - 1 ∧ s.due - 1 ≤ n; omega⟩, by omega, hrun⟩
            · rintro σ H5 ⟨kvs, s, v12, rfl, s5, e5, hh, inr, hkl, hrun⟩
              have hlen : ms.length = xs.length := hm.length.symm
              have hv2 : s.due = 0 ∧ s.ups = k := by
                unfold verdict at hk
                rw [hrun, ← hlen, List.drop_length] at hk
                have hk2 : (if s.due > 0 then (Sum.inr ms.length : Int ⊕ Nat) else .inl s.ups) = .inl k := hk
                have := inr.2
                split at hk2
                · cases hk2
                · cases hk2
                  exact ⟨by omega, rfl⟩
              obtain ⟨h0d, rfl⟩ := hv2
              rw [h0d, show ((n : Int) - 0).toNat = n by omega]
              walk_at "rd"
              walk_at "nw"
              intro r hr0
              exact qg _ hk r _ ((s13.trans s5).trans (same_new hr0)) upd_same
          · refine .inr ⟨⟨xs, SqT.of (s34 _ _ hv)⟩, for_tup (K := K) (a := a) (xs := xs) (RunI p u v (.ref a) x n c t t3 d k tb t2 ms H3) h0 (fun i σ H' _ z => ?_) ?_ ?_⟩
            · obtain ⟨_, _, _, _, z, _⟩ := z
              exact SqT.of (z _ _ hv)
            · rintro i y σ H5 hi ⟨kvs, s, v12, rfl, s5, e5, hh, inr, hkl, hrun⟩
              obtain ⟨m, hmi, him⟩ := pairedAt hm hi
              rw [runM_at hmi] at hrun
              have him5 := him.keep s5
              cases hst : stepM n c s m with
              | none =>
                rw [hst] at hrun
                exfalso
                unfold verdict at hk
                rw [hrun] at hk
                cases hk
              | some s' =>
                rw [hst] at hrun
                have hi3 : i < xs.length := (List.getElem?_eq_some_iff.mp hi).1
                rcases stepM_some T hst with ⟨a1, b1, i0, rfl, ok, hsa, hlt, rfl⟩ | ⟨a1, rfl, ok, hsa, hd0, rfl⟩
                · cases him5 with
                  | up w _ _ hw =>
                    have g := inr.1 _ _ hsa
                    have hg1 : DGet H5 d (.int a1) (some (.int (rowN tb x i0.toNat))) := by
                      have := DGet.k (k := Sum.inl a1) e5
                      rwa [hh a1, hsa] at this
                    have hr0 := rowN_in ok1 x0 x1 i0.toNat
                    walk_at "rd"
                    refine ⟨d, _, rfl, hg1, ?_⟩
                    walk_at "rd"
                    refine ⟨t, _, _, _, rfl, rfl, SqT.of (s5 _ _ f1), cellT_at ok1 hr0.1 hr0.2, ?_⟩
                    walk_at "rd"
                    refine ⟨d, _, rfl, DPut.k (k := Sum.inl b1) e5 (sz_lt (by omega)), ?_⟩
                    have er : cellT tb (rowN tb x i0.toNat) = rowN tb x (i0 + 1).toNat := by
                      rw [show (i0 + 1).toNat = i0.toNat + 1 by omega]
                      rfl
                    rw [er]
                    exact ⟨_, ⟨setH s.h b1 (i0 + 1), s.due, s.ups + 1⟩, _, rfl, s5.mut hd, upd_same, hh.set b1 (i0 + 1), inr.up hsa hlt, Nat.le_trans putK_len (by omega), hrun⟩
                · cases him5 with
                  | read w _ hw =>
                    have g := inr.2
                    have hg1 : DGet H5 d (.int a1) (some (.int (rowN tb x s.due.toNat))) := by
                      have := DGet.k (k := Sum.inl a1) e5
                      rwa [hh a1, hsa] at this
                    walk_at "rd"
                    refine ⟨d, _, rfl, hg1, ?_⟩
                    walk_at "rd"
                    refine ⟨p, t3, _, _, rfl, by omega, t2, s5 _ _ f2, ok2, ?_⟩
                    have er : cellT t2 ((foldN p t2 (rowN tb x) n ((n : Int) - s.due).toNat + rowN tb x s.due.toNat) % p) = foldN p t2 (rowN tb x) n ((n : Int) - (s.due - 1)).toNat := by
                      rw [show ((n : Int) - (s.due - 1)).toNat = ((n : Int) - s.due).toNat + 1 by omega]
                      show _ = cellT t2 ((_ + rowN tb x (n - ((n : Int) - s.due).toNat)) % p)
                      rw [show n - ((n : Int) - s.due).toNat = s.due.toNat by omega]
                    rw [er]
                    exact ⟨kvs, ⟨s.h, s.due - 1, s.ups⟩, _, rfl, s5, e5, hh, ⟨inr.1, by show 0 ≤ s.due - 1 ∧ s.due - 1 ≤ n; omega⟩, by omega, hrun⟩
            · rintro σ H5 ⟨kvs, s, v12, rfl, s5, e5, hh, inr, hkl, hrun⟩
              have hlen : ms.length = xs.length := hm.length.symm
              have hv2 : s.due = 0 ∧ s.ups = k := by
                unfold verdict at hk
                rw [hrun, ← hlen, List.drop_length] at hk
                have hk2 : (if s.due > 0 then (Sum.inr ms.length : Int ⊕ Nat) else .inl s.ups) = .inl k := hk
                have := inr.2
                split at hk2
                · cases hk2
                · cases hk2
                  exact ⟨by omega, rfl⟩
              obtain ⟨h0d, rfl⟩ := hv2
              rw [h0d, show ((n : Int) - 0).toNat = n by omega]
              walk_at "rd"
              walk_at "nw"
              intro r hr0
              exact qg _ hk r _ ((s13.trans s5).trans (same_new hr0)) upd_same
        · exact ⟨_, _, _, rfl, .inr ⟨nb_keep h s12, fun d hd => q d H2 s12 hd⟩⟩
      · exact ⟨_, _, _, rfl, .inl ⟨p, rfl, hp, .inr ⟨h.keep s1, fun d H' sm hd => q d H' (s1.trans sm) hd⟩⟩⟩
    · exact ⟨_, _, _, rfl, .inl ⟨p, rfl, hp, .inr ⟨h, q⟩⟩⟩
    · exact ⟨_, _, _, rfl, .inr ⟨h, q⟩⟩
end
end K47

set_option Elab.async false
set_option linter.all false
set_option maxRecDepth 100000
set_option maxHeartbeats 4000000
set_option pp.deepTerms false
set_option pp.deepTerms.threshold 12
namespace K47
open PySem PySem.Spec PyProof.Rows L2
local macro_rules | `(tactic| walk_at "ty") => `(tactic| first | exact .base (.int _) | exact .base (.bl _) | exact .base (.str _) | exact .base .non | assumption | exact .base (.tup (by assumption)) | exact .base (.lst (by assumption)))
local macro_rules | `(tactic| walk_at "cm") => `(tactic| first | exact cm_r (by decide) (by decide) | exact cm_l (by decide) (by decide) | exact cm_fmod (by decide) (by decide) | exact cm_r (by omega) (by omega) | exact cm_l (by omega) (by omega))
local macro_rules | `(tactic| walk_at "dv") => `(tactic| first | exact ⟨by decide, by decide⟩ | exact ⟨by omega, by omega⟩)
local macro_rules | `(tactic| walk_at "r1") => `(tactic| first
  | refine ⟨_, rfl, ?_⟩ | refine ⟨_, _, rfl, rfl, ?_⟩ | refine Or.inl ⟨_, rfl, ?_⟩ | refine Or.inr ⟨_, rfl, ?_⟩
  | refine And.intro (a := CMul _ _) (by walk_at "cm") ?_ | refine And.intro (a := CDivN _ _) (by walk_at "dv") ?_ | refine And.intro (a := _ ≠ (0 : Int)) (by first | decide | omega) ?_ | refine And.intro (a := scal _ _ = true) rfl ?_ | refine ⟨_, _, _, _, rfl, rfl, SqL.of (by first | exact upd_same | assumption), rfl, ?_⟩ | refine ⟨_, _, _, _, rfl, rfl, (by first | exact upd_same | assumption), rfl, ?_⟩ | refine ⟨_, _, rfl, ?_⟩ | refine And.intro (a := (_ : V) = V.non) rfl ?_ | refine And.intro (a := CPow _ _) ⟨by decide, by decide, by decide⟩ ?_ | refine And.intro (a := (_ : List V) = []) rfl ?_ | refine ⟨_, _, rfl, SqT.of (by first | exact upd_same | assumption), rfl, ?_⟩
  | refine ⟨_, _, _, _, rfl, rfl, SqT.of (by first | exact upd_same | assumption), rfl, ?_⟩
  | refine ⟨_, _, _, _, true, rfl, ClsV.ty _, (by walk_at "ty"), kit_ty (by decide +kernel), ?_⟩ | refine ⟨_, _, _, _, false, rfl, ClsV.ty _, (by walk_at "ty"), kit_ty (by decide +kernel), ?_⟩)
local macro_rules | `(tactic| walk_at "rd") => `(tactic| repeat walk_at "r1")
local macro_rules | `(tactic| walk_at "yes") => `(tactic| (change (if true = true then _ else _); rw [if_pos rfl]))
local macro_rules | `(tactic| walk_at "no") => `(tactic| (change (if false = true then _ else _); rw [if_neg Bool.false_ne_true]))
local macro_rules | `(tactic| walk_at "nw") => `(tactic| refine And.intro (a := _ ≤ sizeLine) (sz_le (Nat.le_of_ble_eq_true rfl)) ?_)

section
variable {P : Program} {w : World} {K : PySem.W.Frag} {mg : Str → Option Value} {base : Heap}
variable {C_VaultError C_NumberError C_BadPrime C_BadTable C_BadCells C_ShapeError C_PaperError C_BadMove fV fI_BadMove fI_BadCells fI_BadPrime fI_BadTable : Addr}
variable (T : Txt P K mg C_VaultError C_NumberError C_BadPrime C_BadTable C_BadCells C_ShapeError C_PaperError C_BadMove fV fI_BadMove fI_BadCells fI_BadPrime fI_BadTable)
include T
omit T in
theorem SeqAt.ix {K : PySem.W.Frag} {H : Hp} {a : Addr} {xs : List V} {i : Int} {v : V} {Q : VK} (h : SeqAt H a xs) (e : atI xs i = some v) (q : Q v H) : rIx K (.ref a) (.int i) H Q :=
  h.elim (fun z => .inl ⟨a, xs, i, v, rfl, rfl, SqL.of z, e, q⟩) fun z => .inr (.inl ⟨a, xs, i, v, rfl, rfl, SqT.of z, e, q⟩)
def spStretchof : Sp := fun vs H Q _ => ∃ (p : Int) (ua da : Addr) (x : Int) (n : Nat), vs = [.int p, .ref ua, .ref da, .int x, .int n] ∧ (2 ≤ p ∧ 0 ≤ x ∧ x < p ∧ n ≤ 120) ∧ ∃ tb t2, SeqAt H ua (tb.map V.int) ∧ SeqAt H da (t2.map V.int) ∧ TbOk p tb ∧ TbOk p t2 ∧
  ∀ H', Same H H' → Q (.int (worthN p tb t2 x n)) H'
theorem ok_stretchof {f : Addr} {fd : FuncData} (F : Fun K "_law_stretchof" "_law_stretchof" s_stretchof f fd) : FnOk P w K mg base CX0 1 f fd p_stretchof spStretchof := by
  refine F.ok sc_stretchof (fun vs H Q E h => ?_) (fun cdv A outer s H vs Q E hr h => ?_)
  · obtain ⟨p, ua, da, x, n, rfl, _⟩ := h
    rfl
  · obtain ⟨p, ua, da, x, n, rfl, ⟨p2, x0, x1, n1⟩, tb, t2, hu, hd, ok1, ok2, q⟩ := h
    refine ⟨_, (pss_cons (ps_set (i := 5) sc_stretchof.nd rfl (Or.inl rfl) (by exact (pe_lst (pa_cons (pv 3) pa_nil))))
      (pss_cons (ps_for PassesOwn.never rfl (pi_range1 (by rfl) T.b_range (pa_cons (pv 4) pa_nil)) (pg_name (i := 6) sc_stretchof.nd rfl (Or.inl rfl)) (pss_one (ps_expr (pe_bm PySem.F.plainAttrs_list PySem.F.slot_list_append PySem.F.type_list_append mt_append (pv 5) (pa_cons (pe_ix ix_seq (pv 1) (pe_ix ix_list (pv 5) (pe_un un_neg pe_int) (fun _ _ => rfl)) (fun _ _ => rfl)) pa_nil)))))
      (pss_cons (ps_set (i := 7) sc_stretchof.nd rfl (Or.inl rfl) (by exact pe_int))
      (pss_cons (ps_for PassesOwn.never rfl (pi_range1 (by rfl) T.b_range (pa_cons (pv 4) pa_nil)) (pg_name (i := 6) sc_stretchof.nd rfl (Or.inl rfl)) (pss_one (ps_set (i := 7) sc_stretchof.nd rfl (Or.inl rfl) (by exact (pe_ix ix_seq (pv 2) (pe_op op_modN (pe_callTy call_int1 (by rfl) T.b_int (by first | exact PySem.boot_int | decide +kernel) (pa_cons (pe_op op_add (pv 7) (pe_ix ix_list (pv 5) (pe_op op_sub (pv 4) (pv 6)) (fun _ _ => rfl))) pa_nil)) (pv 0)) (fun _ _ => rfl))))))
      (pss_one (ps_ret (by exact (pv 7)))))))), ?_⟩
    walk_at "rd"
    walk_at "nw"
    intro l hl
    walk_at "rd"
    generalize hg : upd H l _ = H2
    have s2 : Same H H2 := by rw [← hg]; exact same_new hl
    have el : H2 l = some (.lst (rowV tb x 1)) := by rw [← hg]; exact upd_same
    clear hg
    refine ⟨by omega, by omega, ?_⟩
    rw [show ((n : Nat) : Int).toNat = n by omega]
    refine for_range (fun i σ H' => ∃ v6 : Option V, σ = [some (.int p), some (.ref ua), some (.ref da), some (.int x), some (.int n), some (.ref l), v6, none] ∧ Same H H' ∧ H' l = some (.lst (rowV tb x (i + 1)))) ⟨_, rfl, s2, el⟩ ?_ ?_
    · rintro i σ H3 hi ⟨v6, rfl, s3, e3⟩
      walk_at "rd"
      refine ⟨.inl ⟨rfl, _, SqL.of e3⟩, ?_⟩
      walk_at "rd"
      refine ⟨l, _, _, _, rfl, rfl, SqL.of e3, by rw [rowV_succ]; exact atI_last _ _, ?_⟩
      have b := rowN_in ok1 x0 x1 i
      refine (hu.keep s3).ix (cellT_at ok1 b.1 b.2) ?_
      refine ⟨l, _, _, rfl, rfl, e3, sz_lt (by rw [rowV_len]; omega), ?_⟩
      exact ⟨_, rfl, s3.mut hl, by rw [upd_same, rowV_succ (n := i + 1)]; rfl⟩
    · rintro σ H3 ⟨v6, rfl, s3, e3⟩
      walk_at "rd"
      refine ⟨by omega, by omega, ?_⟩
      rw [show ((n : Nat) : Int).toNat = n by omega]
      refine for_range (fun i σ H' => ∃ v6 : Option V, σ = [some (.int p), some (.ref ua), some (.ref da), some (.int x), some (.int n), some (.ref l), v6, some (.int (foldN p t2 (rowN tb x) n i))] ∧ H' = H3) ⟨_, rfl, rfl⟩ ?_ ?_
      · rintro i σ H4 hi ⟨v6, rfl, rfl⟩
        walk_at "rd"
        have hi2 : (n : Int) - (0 + (i : Int)) = ((n - i : Nat) : Int) := by omega
        refine ⟨l, _, _, _, rfl, rfl, SqL.of e3, by
          rw [hi2]
          exact atI_nat (by unfold rowV; rw [List.getElem?_map, List.getElem?_range (by omega)]; rfl), ?_⟩
        walk_at "rd"
        have em : (foldN p t2 (rowN tb x) n i + rowN tb x (n - i)).fmod p = (foldN p t2 (rowN tb x) n i + rowN tb x (n - i)) % p := Int.fmod_eq_emod_of_nonneg _ (by omega)
        refine (hd.keep s3).ix (i := (foldN p t2 (rowN tb x) n i + rowN tb x (n - i)).fmod p) (v := .int (cellT t2 ((foldN p t2 (rowN tb x) n i + rowN tb x (n - i)) % p))) (by rw [em]; exact cellT_at ok2 (Int.emod_nonneg _ (by omega)) (Int.emod_lt_of_pos _ (by omega))) ?_
        exact ⟨_, rfl, rfl⟩
      · rintro σ H4 ⟨v6, rfl, rfl⟩
        walk_at "rd"
        exact q _ s3
/-! ### the law's copy of a table -/
def spCopyI : Sp := fun vs H Q _ => ∃ i : Int, vs = [.int i] ∧ Q (.int i) H
def spNo : Sp := fun _ _ _ _ => False
theorem ok_copyZ {f : Addr} {fd : FuncData} : FnOk P w K mg base CX0 0 f fd p_copyof spNo := ⟨fun _ _ _ _ h => h.elim, fun _ _ _ _ _ _ _ _ _ _ _ _ _ h => h.elim⟩
theorem ok_copyI {f : Addr} {fd : FuncData} (F : Fun K "_law_copyof" "_law_copyof" s_copyof f fd) (D_copyof : Def K mg "_law_copyof" s_copyof p_copyof f fd) : FnOk P w K mg base CX0 1 f fd p_copyof spCopyI := by
  have G_copyof : FnOk P w K mg base CX0 0 f fd p_copyof spNo := ok_copyZ T
  refine F.ok sc_copyof (fun vs H Q E h => ?_) (fun cdv A outer s H vs Q E hr h => ?_)
  · obtain ⟨i, rfl, _⟩ := h
    rfl
  · obtain ⟨i, rfl, q⟩ := h
    refine ⟨_, (pss_cons (ps_if (pt_val (pe_callB call_isi (by rfl) T.b_isinstance (by first | exact PySem.boot_isinstance | decide +kernel) (pa_cons (pv 0) (pa_cons (pe_bltn (v := .ty "list") (by rfl) T.b_list (by first | exact PySem.boot_list | decide +kernel) rfl) pa_nil)))) (pss_one (ps_ret (by exact (pe_lc (own := [("item", 1)]) (g := gName 1) rfl sc_copyof.nd (pi_seq2 (pv 0)) (blkOk_by (own := [("item", 1)]) (N := N_copyof) (sc := defScope s_copyof) (by decide +kernel)) (fun _ _ _ _ _ => pg_name (i := 1) sc_copyof.nd rfl (Or.inl rfl)) (fun _ _ _ _ _ => pts_nil) (fun _ _ _ _ _ => (pe_call G_copyof hr rfl D_copyof.g D_copyof.fn.kp D_copyof.b .nil pass0 (pa_cons (pv 1) pa_nil))))))) pss_nil)
      (pss_cons (ps_if (pt_val (pe_callB call_isi (by rfl) T.b_isinstance (by first | exact PySem.boot_isinstance | decide +kernel) (pa_cons (pv 0) (pa_cons (pe_bltn (v := .ty "tuple") (by rfl) T.b_tuple (by first | exact PySem.boot_tuple | decide +kernel) rfl) pa_nil)))) (pss_one (ps_ret (by exact (pe_callTy call_tuple_of (by rfl) T.b_tuple (by first | exact PySem.boot_tuple | decide +kernel) (pa_cons (pe_lc (own := [("item", 1)]) (g := gName 1) rfl sc_copyof.nd (pi_seq2 (pv 0)) (blkOk_by (own := [("item", 1)]) (N := N_copyof) (sc := defScope s_copyof) (by decide +kernel)) (fun _ _ _ _ _ => pg_name (i := 1) sc_copyof.nd rfl (Or.inl rfl)) (fun _ _ _ _ _ => pts_nil) (fun _ _ _ _ _ => (pe_call G_copyof hr rfl D_copyof.g D_copyof.fn.kp D_copyof.b .nil pass0 (pa_cons (pv 1) pa_nil)))) pa_nil))))) pss_nil)
      (pss_cons (ps_if (pt_val (pe_callB call_isi (by rfl) T.b_isinstance (by first | exact PySem.boot_isinstance | decide +kernel) (pa_cons (pv 0) (pa_cons (pe_bltn (v := .ty "dict") (by rfl) T.b_dict (by first | exact PySem.boot_dict | decide +kernel) rfl) pa_nil)))) (pss_cons (ps_set (i := 2) sc_copyof.nd rfl (Or.inl rfl) (by exact pe_dnewK))
          (pss_cons (ps_for PassesOwn.never rfl (pi_seq2 (pv 0)) (pg_name (i := 3) sc_copyof.nd rfl (Or.inl rfl)) (pss_one (ps_asg (by exact (pe_call G_copyof hr rfl D_copyof.g D_copyof.fn.kp D_copyof.b .nil pass0 (pa_cons (pe_ix ix_list (pv 0) (pv 3) (fun _ _ => rfl)) pa_nil))) (pg_sub (pv 2) (pv 3) set_list))))
          (pss_one (ps_ret (by exact (pv 2)))))) pss_nil)
      (pss_one (ps_ret (by exact (pv 0))))))), ?_⟩
    walk_at "rd"
    exact q
def CpI (D : Addr) (H : Hp) (xs : List Int) : Nat → Hp → Prop := fun i H' => Same H H' ∧ H' D = some (.lst ((xs.map V.int).take i))
omit T in
theorem CpI.push {D : Addr} {H H' : Hp} {xs : List Int} {i : Nat} {x : V} (hx : (xs.map V.int)[i]? = some x) (hD : H D = none) (z : CpI D H xs i H') (n : xs.length ≤ 100) :
    ∃ acc, H' D = some (.lst acc) ∧ acc.length < sizeLine ∧ CpI D H xs (i + 1) (upd H' D (.lst (acc ++ [x]))) := by
  refine ⟨_, z.2, sz_lt ?_, z.1.mut hD, ?_⟩
  · rw [List.length_take, List.length_map]
    omega
  · rw [upd_same, take_one hx]
def spCopy : Sp := fun vs H Q _ => ∃ (a : Addr) (xs : List Int), vs = [.ref a] ∧ xs.length ≤ 100 ∧ (H a = some (.lst (xs.map V.int)) ∧ (∀ l H', Same H H' → H l = none → H' l = some (.lst (xs.map V.int)) → Q (.ref l) H') ∨
  H a = some (.tup (xs.map V.int)) ∧ ∀ l H', Same H H' → H l = none → H' l = some (.tup (xs.map V.int)) → Q (.ref l) H')
theorem ok_copy {f : Addr} {fd : FuncData} (F : Fun K "_law_copyof" "_law_copyof" s_copyof f fd) (D_copyof : Def K mg "_law_copyof" s_copyof p_copyof f fd) : FnOk P w K mg base CX0 2 f fd p_copyof spCopy := by
  have G_copyof := ok_copyI (w := w) (base := base) T F D_copyof
  refine F.ok sc_copyof (fun vs H Q E h => ?_) (fun cdv A outer s H vs Q E hr h => ?_)
  · obtain ⟨a, xs, rfl, _⟩ := h
    rfl
  · obtain ⟨a, xs, rfl, hz, h⟩ := h
    refine ⟨_, (pss_cons (ps_if (pt_val (pe_callB call_isi (by rfl) T.b_isinstance (by first | exact PySem.boot_isinstance | decide +kernel) (pa_cons (pv 0) (pa_cons (pe_bltn (v := .ty "list") (by rfl) T.b_list (by first | exact PySem.boot_list | decide +kernel) rfl) pa_nil)))) (pss_one (ps_ret (by exact (pe_lc (own := [("item", 1)]) (g := gName 1) rfl sc_copyof.nd (pi_seq2 (pv 0)) (blkOk_by (own := [("item", 1)]) (N := N_copyof) (sc := defScope s_copyof) (by decide +kernel)) (fun _ _ _ _ _ => pg_name (i := 1) sc_copyof.nd rfl (Or.inl rfl)) (fun _ _ _ _ _ => pts_nil) (fun _ _ _ _ _ => (pe_call G_copyof hr rfl D_copyof.g D_copyof.fn.kp D_copyof.b .nil pass0 (pa_cons (pv 1) pa_nil))))))) pss_nil)
      (pss_cons (ps_if (pt_val (pe_callB call_isi (by rfl) T.b_isinstance (by first | exact PySem.boot_isinstance | decide +kernel) (pa_cons (pv 0) (pa_cons (pe_bltn (v := .ty "tuple") (by rfl) T.b_tuple (by first | exact PySem.boot_tuple | decide +kernel) rfl) pa_nil)))) (pss_one (ps_ret (by exact (pe_callTy call_tuple_of (by rfl) T.b_tuple (by first | exact PySem.boot_tuple | decide +kernel) (pa_cons (pe_lc (own := [("item", 1)]) (g := gName 1) rfl sc_copyof.nd (pi_seq2 (pv 0)) (blkOk_by (own := [("item", 1)]) (N := N_copyof) (sc := defScope s_copyof) (by decide +kernel)) (fun _ _ _ _ _ => pg_name (i := 1) sc_copyof.nd rfl (Or.inl rfl)) (fun _ _ _ _ _ => pts_nil) (fun _ _ _ _ _ => (pe_call G_copyof hr rfl D_copyof.g D_copyof.fn.kp D_copyof.b .nil pass0 (pa_cons (pv 1) pa_nil)))) pa_nil))))) pss_nil)
      (pss_cons (ps_if (pt_val (pe_callB call_isi (by rfl) T.b_isinstance (by first | exact PySem.boot_isinstance | decide +kernel) (pa_cons (pv 0) (pa_cons (pe_bltn (v := .ty "dict") (by rfl) T.b_dict (by first | exact PySem.boot_dict | decide +kernel) rfl) pa_nil)))) (pss_cons (ps_set (i := 2) sc_copyof.nd rfl (Or.inl rfl) (by exact pe_dnewK))
          (pss_cons (ps_for PassesOwn.never rfl (pi_seq2 (pv 0)) (pg_name (i := 3) sc_copyof.nd rfl (Or.inl rfl)) (pss_one (ps_asg (by exact (pe_call G_copyof hr rfl D_copyof.g D_copyof.fn.kp D_copyof.b .nil pass0 (pa_cons (pe_ix ix_list (pv 0) (pv 3) (fun _ _ => rfl)) pa_nil))) (pg_sub (pv 2) (pv 3) set_list))))
          (pss_one (ps_ret (by exact (pv 2)))))) pss_nil)
      (pss_one (ps_ret (by exact (pv 0))))))), ?_⟩
    walk_at "rd"
    rcases h with ⟨h, q⟩ | ⟨h, q⟩
    · walk_at "rd"
      refine .inl ⟨⟨_, SqL.of h⟩, fun D hD => lc_list (K := K) (a := a) (xs := xs.map V.int) (CpI D H xs) ⟨same_new hD, upd_same⟩ (fun i H' _ z => SqL.of (z.1 _ _ h)) ?_ ?_⟩
      · rintro i x H' hi z
        obtain ⟨j, _, rfl⟩ := List.mem_map.mp (List.mem_of_getElem? hi)
        refine ⟨rfl, ?_⟩
        walk_at "rd"
        exact z.push hi hD hz
      · rintro H' ⟨sm, e⟩
        rw [List.take_length] at e
        exact q D H' sm hD e
    · walk_at "rd"
      refine .inr ⟨⟨_, SqT.of h⟩, fun D hD => lc_tup (K := K) (a := a) (xs := xs.map V.int) (CpI D H xs) ⟨same_new hD, upd_same⟩ (fun i H' _ z => SqT.of (z.1 _ _ h)) ?_ ?_⟩
      · rintro i x H' hi z
        obtain ⟨j, _, rfl⟩ := List.mem_map.mp (List.mem_of_getElem? hi)
        refine ⟨rfl, ?_⟩
        walk_at "rd"
        exact z.push hi hD hz
      · rintro H' ⟨sm, e⟩
        rw [List.take_length] at e
        exact ⟨D, _, rfl, .inl ⟨SqL.of e, fun l hl => q l _ (sm.trans (same_new hl)) (same_free hl sm) upd_same⟩⟩
end
end K47

set_option Elab.async false
set_option linter.all false
set_option maxRecDepth 100000
set_option maxHeartbeats 4000000
set_option pp.deepTerms false
set_option pp.deepTerms.threshold 12
namespace K47
open PySem PySem.Spec PyProof.Rows L2
local macro_rules | `(tactic| walk_at "ty") => `(tactic| first | exact .base (.int _) | exact .base (.bl _) | exact .base (.str _) | exact .base .non | assumption | exact .base (.tup (by assumption)) | exact .base (.lst (by assumption)))
local macro_rules | `(tactic| walk_at "cm") => `(tactic| first | exact cm_r (by decide) (by decide) | exact cm_l (by decide) (by decide) | exact cm_fmod (by decide) (by decide) | exact cm_r (by omega) (by omega) | exact cm_l (by omega) (by omega))
local macro_rules | `(tactic| walk_at "dv") => `(tactic| first | exact ⟨by decide, by decide⟩ | exact ⟨by omega, by omega⟩)
local macro_rules | `(tactic| walk_at "r1") => `(tactic| first
  | refine ⟨_, rfl, ?_⟩ | refine ⟨_, _, rfl, rfl, ?_⟩ | refine Or.inl ⟨_, rfl, ?_⟩ | refine Or.inr ⟨_, rfl, ?_⟩
  | refine And.intro (a := CMul _ _) (by walk_at "cm") ?_ | refine And.intro (a := CDivN _ _) (by walk_at "dv") ?_ | refine And.intro (a := _ ≠ (0 : Int)) (by first | decide | omega) ?_ | refine And.intro (a := scal _ _ = true) rfl ?_ | refine ⟨_, _, _, _, rfl, rfl, SqL.of (by first | exact upd_same | assumption), rfl, ?_⟩ | refine ⟨_, _, _, _, rfl, rfl, (by first | exact upd_same | assumption), rfl, ?_⟩ | refine ⟨_, _, rfl, ?_⟩ | refine And.intro (a := (_ : V) = V.non) rfl ?_ | refine And.intro (a := CPow _ _) ⟨by decide, by decide, by decide⟩ ?_ | refine And.intro (a := (_ : List V) = []) rfl ?_ | refine ⟨_, _, rfl, SqT.of (by first | exact upd_same | assumption), rfl, ?_⟩
  | refine ⟨_, _, _, _, rfl, rfl, SqT.of (by first | exact upd_same | assumption), rfl, ?_⟩
  | refine ⟨_, _, _, _, true, rfl, ClsV.ty _, (by walk_at "ty"), kit_ty (by decide +kernel), ?_⟩ | refine ⟨_, _, _, _, false, rfl, ClsV.ty _, (by walk_at "ty"), kit_ty (by decide +kernel), ?_⟩)
local macro_rules | `(tactic| walk_at "rd") => `(tactic| repeat walk_at "r1")
local macro_rules | `(tactic| walk_at "yes") => `(tactic| (change (if true = true then _ else _); rw [if_pos rfl]))
local macro_rules | `(tactic| walk_at "no") => `(tactic| (change (if false = true then _ else _); rw [if_neg Bool.false_ne_true]))
local macro_rules | `(tactic| walk_at "nw") => `(tactic| refine And.intro (a := _ ≤ sizeLine) (sz_le (Nat.le_of_ble_eq_true rfl)) ?_)

section
variable {P : Program} {w : World} {K : PySem.W.Frag} {mg : Str → Option Value} {base : Heap}
variable {C_VaultError C_NumberError C_BadPrime C_BadTable C_BadCells C_ShapeError C_PaperError C_BadMove fV fI_BadMove fI_BadCells fI_BadPrime fI_BadTable : Addr}
variable (T : Txt P K mg C_VaultError C_NumberError C_BadPrime C_BadTable C_BadCells C_ShapeError C_PaperError C_BadMove fV fI_BadMove fI_BadCells fI_BadPrime fI_BadTable)
include T
omit T in
theorem cutV_take (xs : List V) {n : Nat} (h : n ≤ xs.length) : cutV xs none (some (n : Int)) = xs.take n := by
  unfold cutV
  have e1 : HT.sIx xs.length 0 none = 0 := rfl
  have e2 : HT.sIx xs.length xs.length (some (n : Int)) = n := by
    rw [HT.sIx_nat]
    omega
  rw [e1, e2]
  rfl
omit T in
theorem cutV_drop (xs : List V) {n : Nat} (h : n ≤ xs.length) : cutV xs (some (n : Int)) none = xs.drop n := by
  unfold cutV
  have e2 : HT.sIx xs.length xs.length none = xs.length := rfl
  have e1 : HT.sIx xs.length 0 (some (n : Int)) = n := by
    rw [HT.sIx_nat]
    omega
  rw [e1, e2]
  exact List.take_of_length_le (by rw [List.length_drop]; omega)
def spPut : Sp := fun vs H Q _ => ∃ (a : Addr) (n : Nat) (y : V) (xs : List V), vs = [.ref a, .int n, y] ∧ H a = some (.lst xs) ∧ n < xs.length ∧ xs.length ≤ 100 ∧ ∀ l H', Same H H' → H l = none → H' l = some (.lst (xs.set n y)) → Q (.ref l) H'
theorem ok_put {f : Addr} {fd : FuncData} (F : Fun K "_law_put" "_law_put" s_put f fd) : FnOk P w K mg base CX0 1 f fd p_put spPut := by
  refine F.ok sc_put (fun vs H Q E h => ?_) (fun cdv A outer s H vs Q E hr h => ?_)
  · obtain ⟨a, n, y, xs, rfl, _⟩ := h
    rfl
  · obtain ⟨a, n, y, xs, rfl, ha, hn, hz, q⟩ := h
    refine ⟨_, (pss_one (ps_ret (by exact (pe_op op_cat (pe_op op_cat (pe_callTy call_list_of (by rfl) T.b_list (by first | exact PySem.boot_list | decide +kernel) (pa_cons (pe_slice sl_list (pv 0) po_none (po_some (pv 1))) pa_nil)) (pe_lst (pa_cons (pv 2) pa_nil))) (pe_callTy call_list_of (by rfl) T.b_list (by first | exact PySem.boot_list | decide +kernel) (pa_cons (pe_slice sl_list (pv 0) (po_some (pe_op op_add (pv 1) pe_int)) po_none) pa_nil)))))), ?_⟩
    walk_at "rd"
    refine ⟨a, xs, rfl, SqL.of ha, fun l1 h1 => ?_⟩
    rw [cutV_take _ (by omega)]
    walk_at "rd"
    refine ⟨l1, _, rfl, .inl (SqL.of upd_same), fun l2 h2 => ?_⟩
    generalize hg : upd (upd H l1 _) l2 _ = H2
    have s2 : Same H H2 := by rw [← hg]; exact (same_new h1).trans (same_new h2)
    have e2 : H2 l2 = some (.lst (xs.take n)) := by rw [← hg]; exact upd_same
    clear hg h1 h2
    walk_at "rd"
    walk_at "nw"
    intro l3 h3
    have s3 : Same H2 (upd H2 l3 (.lst [y])) := same_new h3
    refine ⟨l2, l3, _, _, rfl, rfl, s3 _ _ e2, upd_same, sz_le (by rw [List.length_take]; show _ + 1 ≤ 100000; omega), fun l4 h4 => ?_⟩
    generalize hg : upd (upd H2 l3 _) l4 _ = H4
    have s4 : Same H2 H4 := by rw [← hg]; exact s3.trans (same_new h4)
    have e4 : H4 l4 = some (.lst (xs.take n ++ [y])) := by rw [← hg]; exact upd_same
    have s04 := s2.trans s4
    clear hg h3 h4 s3 s4 e2 s2
    walk_at "rd"
    refine ⟨a, xs, rfl, SqL.of (s04 _ _ ha), fun l5 h5 => ?_⟩
    rw [show (n : Int) + 1 = ((n + 1 : Nat) : Int) from rfl, cutV_drop _ (by omega)]
    walk_at "rd"
    refine ⟨l5, _, rfl, .inl (SqL.of upd_same), fun l6 h6 => ?_⟩
    generalize hg : upd (upd H4 l5 _) l6 _ = H6
    have s6 : Same H4 H6 := by rw [← hg]; exact (same_new h5).trans (same_new h6)
    have e6 : H6 l6 = some (.lst (xs.drop (n + 1))) := by rw [← hg]; exact upd_same
    clear hg h5 h6
    refine ⟨l4, l6, _, _, rfl, rfl, s6 _ _ e4, e6, sz_le (by rw [List.length_append, List.length_take, List.length_drop]; show _ + 1 + _ ≤ 100000; omega), fun l7 h7 => ?_⟩
    have e : xs.take n ++ [y] ++ xs.drop (n + 1) = xs.set n y := by
      rw [List.set_eq_take_append_cons_drop, if_pos hn, List.append_assoc]
      rfl
    rw [e]
    have s06 := s04.trans s6
    exact q l7 _ (s06.trans (same_new h7)) (same_free h7 s06) upd_same
/-! ### a drawn table -/
def spTab : Sp := fun vs H Q _ => ∃ (st : Addr) (p : Int), vs = [.ref st, .int p] ∧ (2 ≤ p ∧ p ≤ 97) ∧ Store H st ∧ ∀ l tb H', H l = none → H' l = some (.lst (tb.map V.int)) → TbOk p tb → Store H' st → ButS st H H' → Q (.ref l) H'
/-- the numbers so far -/
def TabI (p : Int) (st D : Addr) (H0 : Hp) : Nat → Hp → Prop := fun i H' => ∃ tb : List Int, H' D = some (.lst (tb.map V.int)) ∧ tb.length = i ∧ (∀ x ∈ tb, 0 ≤ x ∧ x ≤ p - 1) ∧ Store H' st ∧ ButS st H0 H'
omit T in
theorem TabI.push {p : Int} {st D : Addr} {H0 H' H'' : Hp} {i : Nat} {x : Int} (S0 : Store H0 st) (hD : H0 D = none) (z : TabI p st D H0 i H') (n : i ≤ 97) (S : Store H'' st) (b : ButS st H' H'') (x0 : 0 ≤ x) (x1 : x < p) :
    ∃ acc, H'' D = some (.lst acc) ∧ acc.length < sizeLine ∧ TabI p st D H0 (i + 1) (upd H'' D (.lst (acc ++ [.int x]))) := by
  obtain ⟨tb, e, hl, ht, S1, b1⟩ := z
  have hne : D ≠ st := fun z => by
    obtain ⟨o, ho⟩ := S0.some
    rw [← z, hD] at ho
    cases ho
  refine ⟨_, b.1 _ _ hne e, sz_lt (by rw [List.length_map]; omega), tb ++ [x], by rw [upd_same, List.map_append]; rfl, by rw [List.length_append, hl]; rfl, fun y hy => ?_, (ButS.mutAway S0 (b1.trans b) hD S).1, (ButS.mutAway S0 (b1.trans b) hD S).2⟩
  rcases List.mem_append.mp hy with h | h
  · exact ht y h
  · rw [List.mem_singleton] at h
    omega
theorem ok_table {f : Addr} {fd : FuncData} (F : Fun K "_law_table" "_law_table" s_table f fd) {f_take : Addr} {fd_take : FuncData} (D_take : Def K mg "_law_take" s_take p_take f_take fd_take) (G_take : FnOk P w K mg base CX0 2 f_take fd_take p_take spTake) {f_put : Addr} {fd_put : FuncData} (D_put : Def K mg "_law_put" s_put p_put f_put fd_put) (G_put : FnOk P w K mg base CX0 1 f_put fd_put p_put spPut) : FnOk P w K mg base CX0 3 f fd p_table spTab := by
  refine F.ok sc_table (fun vs H Q E h => ?_) (fun cdv A outer s H vs Q E hr h => ?_)
  · obtain ⟨st, p, rfl, _⟩ := h
    rfl
  · obtain ⟨st, p, rfl, ⟨p2, p97⟩, S, q⟩ := h
    obtain ⟨n, rfl⟩ : ∃ n : Nat, p = n := ⟨p.toNat, by omega⟩
    refine ⟨_, (pss_cons (ps_set (i := 2) sc_table.nd rfl (Or.inl rfl) (by exact (pe_call G_take (hr.mono (by first | decide | omega)) rfl D_take.g D_take.fn.kp D_take.b .nil pass0 (pa_cons (pv 0) (pa_cons pe_int pa_nil)))))
      (pss_cons (ps_set (i := 3) sc_table.nd rfl (Or.inr rfl) (by exact (pe_call G_take (hr.mono (by first | decide | omega)) rfl D_take.g D_take.fn.kp D_take.b .nil pass0 (pa_cons (pv 0) (pa_cons (pv 1) pa_nil)))))
      (pss_cons (ps_set (i := 4) sc_table.nd rfl (Or.inr rfl) (by exact (pe_call G_take (hr.mono (by first | decide | omega)) rfl D_take.g D_take.fn.kp D_take.b .nil pass0 (pa_cons (pv 0) (pa_cons (pv 1) pa_nil)))))
      (pss_cons (ps_if (pt_cmpR op_eq (pv 2) pe_int (nomark _)) (pss_one (ps_ret (by exact (pe_lc (own := [("k", 5)]) (g := gName 5) rfl sc_table.nd (pi_range1 (by rfl) T.b_range (pa_cons (pv 1) pa_nil)) (blkOk_by (own := [("k", 5)]) (N := N_table) (sc := defScope s_table) (by decide +kernel)) (fun _ _ _ _ _ => pg_name (i := 5) sc_table.nd rfl (Or.inl rfl)) (fun _ _ _ _ _ => pts_nil) (fun _ _ _ _ _ => (pv 3)))))) pss_nil)
      (pss_cons (ps_if (pt_cmpR op_eq (pv 2) pe_int (nomark _)) (pss_one (ps_ret (by exact (pe_lc (own := [("k", 5)]) (g := gName 5) rfl sc_table.nd (pi_range1 (by rfl) T.b_range (pa_cons (pv 1) pa_nil)) (blkOk_by (own := [("k", 5)]) (N := N_table) (sc := defScope s_table) (by decide +kernel)) (fun _ _ _ _ _ => pg_name (i := 5) sc_table.nd rfl (Or.inl rfl)) (fun _ _ _ _ _ => pts_nil) (fun _ _ _ _ _ => (pe_op op_modN (pe_callTy call_int1 (by rfl) T.b_int (by first | exact PySem.boot_int | decide +kernel) (pa_cons (pe_op op_add (pe_op op_mul (pv 5) (pv 4)) (pv 3)) pa_nil)) (pv 1))))))) pss_nil)
      (pss_cons (ps_if (pt_cmpR op_eq (pv 2) pe_int (nomark _)) (pss_one (ps_ret (by exact (pe_call G_put (hr.mono (by first | decide | omega)) rfl D_put.g D_put.fn.kp D_put.b .nil pass0 (pa_cons (pe_lc (own := [("k", 5)]) (g := gName 5) rfl sc_table.nd (pi_range1 (by rfl) T.b_range (pa_cons (pv 1) pa_nil)) (blkOk_by (own := [("k", 5)]) (N := N_table) (sc := defScope s_table) (by decide +kernel)) (fun _ _ _ _ _ => pg_name (i := 5) sc_table.nd rfl (Or.inl rfl)) (fun _ _ _ _ _ => pts_nil) (fun _ _ _ _ _ => (pv 5))) (pa_cons (pv 3) (pa_cons (pv 4) pa_nil))))))) pss_nil)
      (pss_one (ps_ret (by exact (pe_lc (own := [("k", 5)]) (g := gName 5) rfl sc_table.nd (pi_range1 (by rfl) T.b_range (pa_cons (pv 1) pa_nil)) (blkOk_by (own := [("k", 5)]) (N := N_table) (sc := defScope s_table) (by decide +kernel)) (fun _ _ _ _ _ => pg_name (i := 5) sc_table.nd rfl (Or.inl rfl)) (fun _ _ _ _ _ => pts_nil) (fun _ _ _ _ _ => (pe_call G_take (hr.mono (by first | decide | omega)) rfl D_take.g D_take.fn.kp D_take.b .nil pass0 (pa_cons (pv 0) (pa_cons (pv 1) pa_nil)))))))))))))), ?_⟩
    walk_at "rd"
    refine ⟨by decide, S, fun way H1 _ _ S1 b1 => ?_⟩
    walk_at "rd"
    refine ⟨by omega, S1, fun one H2 o0 o1 S2 b2 => ?_⟩
    rw [if_pos (by omega)] at o1
    walk_at "rd"
    refine ⟨by omega, S2, fun more H3 m0 m1 S3 b3 => ?_⟩
    rw [if_pos (by omega)] at m1
    have b := (b1.trans b2).trans b3
    clear b1 b2 b3 S1 S2
    walk_at "rd"
    refine ite2 (fun hc => ?_) (fun hc => ?_)
    · walk_at "rd"
      refine ⟨by omega, by omega, fun D hD => ?_⟩
      rw [show ((n : Nat) : Int).toNat = n by omega]
      refine lc_range (lo := 0) (n := n) (TabI n st D H3) ⟨[], upd_same, rfl, fun x hx => (nomatch hx), S3.keep (same_new hD), .new hD⟩ ?_ ?_
      · rintro i H4 hi z
        refine ⟨rfl, ?_⟩
        walk_at "rd"
        exact z.push S3 hD (by omega) z.choose_spec.2.2.2.1 .refl o0 o1
      · rintro H4 ⟨tb, e, hl, ht, S4, b4⟩
        exact q D tb H4 (b.free S3 hD) e ⟨by omega, ht⟩ S4 (b.trans b4)
    clear hc
    walk_at "rd"
    refine ite2 (fun hc => ?_) (fun hc => ?_)
    · walk_at "rd"
      refine ⟨by omega, by omega, fun D hD => ?_⟩
      rw [show ((n : Nat) : Int).toNat = n by omega]
      refine lc_range (lo := 0) (n := n) (TabI n st D H3) ⟨[], upd_same, rfl, fun x hx => (nomatch hx), S3.keep (same_new hD), .new hD⟩ ?_ ?_
      · rintro i H4 hi z
        refine ⟨rfl, ?_⟩
        walk_at "rd"
        have em : ((0 + (i : Int)) * more + one).fmod n = ((0 + (i : Int)) * more + one) % n := Int.fmod_eq_emod_of_nonneg _ (by omega)
        exact z.push S3 hD (by omega) z.choose_spec.2.2.2.1 .refl (x := ((0 + (i : Int)) * more + one).fmod n) (by rw [em]; exact Int.emod_nonneg _ (by omega)) (by rw [em]; exact Int.emod_lt_of_pos _ (by omega))
      · rintro H4 ⟨tb, e, hl, ht, S4, b4⟩
        exact q D tb H4 (b.free S3 hD) e ⟨by omega, ht⟩ S4 (b.trans b4)
    clear hc
    walk_at "rd"
    refine ite2 (fun hc => ?_) (fun hc => ?_)
    · walk_at "rd"
      refine ⟨by omega, by omega, fun D hD => ?_⟩
      rw [show ((n : Nat) : Int).toNat = n by omega]
      refine lc_range (lo := 0) (n := n) (TabI n st D H3) ⟨[], upd_same, rfl, fun x hx => (nomatch hx), S3.keep (same_new hD), .new hD⟩ ?_ ?_
      · rintro i H4 hi z
        refine ⟨rfl, ?_⟩
        walk_at "rd"
        exact z.push S3 hD (by omega) z.choose_spec.2.2.2.1 .refl (by omega) (by omega)
      · rintro H4 ⟨tb, e, hl, ht, S4, b4⟩
        walk_at "rd"
        obtain ⟨j, rfl⟩ : ∃ j : Nat, one = j := ⟨one.toNat, by omega⟩
        refine ⟨D, j, _, _, rfl, e, by rw [List.length_map]; omega, by rw [List.length_map]; omega, fun l H5 s5 h5 e5 => ?_⟩
        refine q l (tb.set j more) H5 ((b.trans b4).free S4 h5) (by rw [e5, List.map_set]) ⟨by rw [List.length_set]; omega, fun x hx => ?_⟩ (S4.keep s5) ((b.trans b4).trans (.of s5))
        rcases List.mem_or_eq_of_mem_set hx with h | h
        · exact ht x h
        · omega
    clear hc
    walk_at "rd"
    refine ⟨by omega, by omega, fun D hD => ?_⟩
    rw [show ((n : Nat) : Int).toNat = n by omega]
    refine lc_range (lo := 0) (n := n) (TabI n st D H3) ⟨[], upd_same, rfl, fun x hx => (nomatch hx), S3.keep (same_new hD), .new hD⟩ ?_ ?_
    · rintro i H4 hi z
      refine ⟨rfl, ?_⟩
      walk_at "rd"
      refine ⟨by omega, z.choose_spec.2.2.2.1, fun d H5 d0 d1 S5 b5 => ?_⟩
      rw [if_pos (by omega)] at d1
      exact z.push S3 hD (by omega) S5 b5 d0 d1
    · rintro H4 ⟨tb, e, hl, ht, S4, b4⟩
      exact q D tb H4 (b.free S3 hD) e ⟨by omega, ht⟩ S4 (b.trans b4)
end
end K47

set_option Elab.async false
set_option linter.all false
set_option maxRecDepth 100000
set_option maxHeartbeats 4000000
set_option pp.deepTerms false
set_option pp.deepTerms.threshold 12
namespace K47
open PySem PySem.Spec PyProof.Rows L2
local macro_rules | `(tactic| walk_at "ty") => `(tactic| first | exact .base (.int _) | exact .base (.bl _) | exact .base (.str _) | exact .base .non | assumption | exact .base (.tup (by assumption)) | exact .base (.lst (by assumption)))
local macro_rules | `(tactic| walk_at "cm") => `(tactic| first | exact cm_r (by decide) (by decide) | exact cm_l (by decide) (by decide) | exact cm_fmod (by decide) (by decide) | exact cm_r (by omega) (by omega) | exact cm_l (by omega) (by omega))
local macro_rules | `(tactic| walk_at "dv") => `(tactic| first | exact ⟨by decide, by decide⟩ | exact ⟨by omega, by omega⟩)
local macro_rules | `(tactic| walk_at "r1") => `(tactic| first
  | refine ⟨_, rfl, ?_⟩ | refine ⟨_, _, rfl, rfl, ?_⟩ | refine Or.inl ⟨_, rfl, ?_⟩ | refine Or.inr ⟨_, rfl, ?_⟩
  | refine And.intro (a := CMul _ _) (by walk_at "cm") ?_ | refine And.intro (a := CDivN _ _) (by walk_at "dv") ?_ | refine And.intro (a := _ ≠ (0 : Int)) (by first | decide | omega) ?_ | refine And.intro (a := scal _ _ = true) rfl ?_ | refine ⟨_, _, _, _, rfl, rfl, SqL.of (by first | exact upd_same | assumption), rfl, ?_⟩ | refine ⟨_, _, _, _, rfl, rfl, (by first | exact upd_same | assumption), rfl, ?_⟩ | refine ⟨_, _, rfl, ?_⟩ | refine And.intro (a := (_ : V) = V.non) rfl ?_ | refine And.intro (a := CPow _ _) ⟨by decide, by decide, by decide⟩ ?_ | refine And.intro (a := (_ : List V) = []) rfl ?_ | refine ⟨_, _, rfl, SqT.of (by first | exact upd_same | assumption), rfl, ?_⟩
  | refine ⟨_, _, _, _, rfl, rfl, SqT.of (by first | exact upd_same | assumption), rfl, ?_⟩
  | refine ⟨_, _, _, _, true, rfl, ClsV.ty _, (by walk_at "ty"), kit_ty (by decide +kernel), ?_⟩ | refine ⟨_, _, _, _, false, rfl, ClsV.ty _, (by walk_at "ty"), kit_ty (by decide +kernel), ?_⟩)
local macro_rules | `(tactic| walk_at "rd") => `(tactic| repeat walk_at "r1")
local macro_rules | `(tactic| walk_at "yes") => `(tactic| (change (if true = true then _ else _); rw [if_pos rfl]))
local macro_rules | `(tactic| walk_at "no") => `(tactic| (change (if false = true then _ else _); rw [if_neg Bool.false_ne_true]))
local macro_rules | `(tactic| walk_at "nw") => `(tactic| refine And.intro (a := _ ≤ sizeLine) (sz_le (Nat.le_of_ble_eq_true rfl)) ?_)

section
variable {P : Program} {w : World} {K : PySem.W.Frag} {mg : Str → Option Value} {base : Heap}
variable {C_VaultError C_NumberError C_BadPrime C_BadTable C_BadCells C_ShapeError C_PaperError C_BadMove fV fI_BadMove fI_BadCells fI_BadPrime fI_BadTable : Addr}
variable (T : Txt P K mg C_VaultError C_NumberError C_BadPrime C_BadTable C_BadCells C_ShapeError C_PaperError C_BadMove fV fI_BadMove fI_BadCells fI_BadPrime fI_BadTable)
include T
omit T in
theorem ne_st {st a : Addr} {H : Hp} (S : Store H st) (h : H a = none) : a ≠ st := fun z => by
  obtain ⟨o, ho⟩ := S.some
  rw [← z, h] at ho
  cases ho
/-- no table, and it stays so whatever is drawn -/
def NoTbS (st : Addr) (H : Hp) (p : Int) (v : V) : Prop := ∀ H', ButS st H H' → NoTb H' p v
omit T in
theorem NoTbS.keep {st : Addr} {H H' : Hp} {p : Int} {v : V} (h : NoTbS st H p v) (b : ButS st H H') : NoTbS st H' p v := fun _ b2 => h _ (b.trans b2)
def OddS (st : Addr) (H : Hp) (p : Int) (x : V) : Prop := inR p x = false ∧ ∀ H', ButS st H H' → Nrm H' x
def spBadTab : Sp := fun vs H Q _ => ∃ (st : Addr) (p : Int), vs = [.ref st, .int p] ∧ (2 ≤ p ∧ p ≤ 97) ∧ Store H st ∧ ∀ v H', NoTbS st H' p v → Store H' st → ButS st H H' → Q v H'
theorem ok_badtable {f : Addr} {fd : FuncData} (F : Fun K "_law_badtable" "_law_badtable" s_badtable f fd) {f_table : Addr} {fd_table : FuncData} (D_table : Def K mg "_law_table" s_table p_table f_table fd_table) (G_table : FnOk P w K mg base CX0 3 f_table fd_table p_table spTab) {f_take : Addr} {fd_take : FuncData} (D_take : Def K mg "_law_take" s_take p_take f_take fd_take) (G_take : FnOk P w K mg base CX0 2 f_take fd_take p_take spTake) {f_pick : Addr} {fd_pick : FuncData} (D_pick : Def K mg "_law_pick" s_pick p_pick f_pick fd_pick) (G_pick : FnOk P w K mg base CX0 3 f_pick fd_pick p_pick spPick) {f_put : Addr} {fd_put : FuncData} (D_put : Def K mg "_law_put" s_put p_put f_put fd_put) (G_put : FnOk P w K mg base CX0 1 f_put fd_put p_put spPut) : FnOk P w K mg base CX0 4 f fd p_badtable spBadTab := by
  refine F.ok sc_badtable (fun vs H Q E h => ?_) (fun cdv A outer s H vs Q E hr h => ?_)
  · obtain ⟨st, p, rfl, _⟩ := h
    rfl
  · obtain ⟨st, p, rfl, ⟨p2, p97⟩, S, q⟩ := h
    obtain ⟨n, rfl⟩ : ∃ n : Nat, p = n := ⟨p.toNat, by omega⟩
    refine ⟨_, (pss_cons (ps_set (i := 2) sc_badtable.nd rfl (Or.inl rfl) (by exact (pe_call G_table (hr.mono (by first | decide | omega)) rfl D_table.g D_table.fn.kp D_table.b .nil pass0 (pa_cons (pv 0) (pa_cons (pv 1) pa_nil)))))
      (pss_cons (ps_set (i := 3) sc_badtable.nd rfl (Or.inl rfl) (by exact (pe_call G_take (hr.mono (by first | decide | omega)) rfl D_take.g D_take.fn.kp D_take.b .nil pass0 (pa_cons (pv 0) (pa_cons (pv 1) pa_nil)))))
      (pss_cons (ps_set (i := 4) sc_badtable.nd rfl (Or.inl rfl) (by exact (pe_call G_take (hr.mono (by first | decide | omega)) rfl D_take.g D_take.fn.kp D_take.b .nil pass0 (pa_cons (pv 0) (pa_cons pe_int pa_nil)))))
      (pss_cons (ps_if (pt_cmpR op_eq (pv 4) pe_int (nomark _)) (pss_one (ps_ret (by exact (pe_op op_cat (pe_slice sl_list (pv 2) po_none (po_some (pv 3))) (pe_slice sl_list (pv 2) (po_some (pe_op op_add (pv 3) pe_int)) po_none))))) pss_nil)
      (pss_cons (ps_if (pt_cmpR op_eq (pv 4) pe_int (nomark _)) (pss_one (ps_ret (by exact (pe_op op_cat (pe_op op_cat (pe_slice sl_list (pv 2) po_none (po_some (pv 3))) (pe_lst (pa_cons (pe_ix ix_list (pv 2) (pv 3) (fun _ _ => rfl)) pa_nil))) (pe_slice sl_list (pv 2) (po_some (pv 3)) po_none))))) pss_nil)
      (pss_cons (ps_if (pt_cmpR op_eq (pv 4) pe_int (nomark _)) (pss_one (ps_ret (by exact (pe_call G_pick (hr.mono (by first | decide | omega)) rfl D_pick.g D_pick.fn.kp D_pick.b .nil pass0 (pa_cons (pv 0) (pa_cons (pe_lst (pa_cons pe_non (pa_cons (pe_op op_mulS pe_str (pv 1)) (pa_cons pe_int (pa_cons pe_dnewK (pa_cons (pe_lst pa_nil) (pa_cons (pe_tup (pa_cons (pv 2) pa_nil)) pa_nil))))))) pa_nil)))))) pss_nil)
      (pss_cons (ps_set (i := 5) sc_badtable.nd rfl (Or.inl rfl) (by exact (pe_call G_pick (hr.mono (by first | decide | omega)) rfl D_pick.g D_pick.fn.kp D_pick.b .nil pass0 (pa_cons (pv 0) (pa_cons (pe_lst (pa_cons (pv 1) (pa_cons (pe_op op_sub pe_int pe_int) (pa_cons pe_bl (pa_cons pe_bl (pa_cons pe_non (pa_cons pe_str (pa_cons (pe_tup (pa_cons pe_int pa_nil)) (pa_cons (pe_op op_pow pe_int pe_int) pa_nil))))))))) pa_nil)))))
      (pss_one (ps_ret (by exact (pe_call G_put (hr.mono (by first | decide | omega)) rfl D_put.g D_put.fn.kp D_put.b .nil pass0 (pa_cons (pv 2) (pa_cons (pv 3) (pa_cons (pv 5) pa_nil)))))))))))))), ?_⟩
    walk_at "rd"
    refine ⟨⟨by omega, by omega⟩, S, fun l tb H1 hl e1 ok S1 b1 => ?_⟩
    have hne : l ≠ st := ne_st S hl
    walk_at "rd"
    refine ⟨by omega, S1, fun at_ H2 a0 a1 S2 b2 => ?_⟩
    rw [if_pos (by omega)] at a1
    obtain ⟨j, rfl⟩ : ∃ j : Nat, at_ = j := ⟨at_.toNat, by omega⟩
    walk_at "rd"
    refine ⟨by decide, S2, fun way H3 _ _ S3 b3 => ?_⟩
    have b := (b1.trans b2).trans b3
    have e3 : H3 l = some (.lst (tb.map V.int)) := (b2.trans b3).1 _ _ hne e1
    have hlen : (tb.map V.int).length = n := by rw [List.length_map]; have := ok.1; omega
    have hj : j < (tb.map V.int).length := by omega
    clear b1 b2 b3 S1 S2 e1
    walk_at "rd"
    refine ite2 (fun hc => ?_) (fun hc => ?_)
    · walk_at "rd"
      refine ⟨l, _, rfl, SqL.of e3, fun l1 h1 => ?_⟩
      rw [cutV_take _ (by omega)]
      have e3' := same_new (o := .lst ((tb.map V.int).take j)) h1 _ _ e3
      walk_at "rd"
      refine ⟨l, _, rfl, SqL.of e3', fun l2 h2 => ?_⟩
      rw [show (j : Int) + 1 = ((j + 1 : Nat) : Int) from rfl, cutV_drop _ (by omega)]
      refine ⟨l1, l2, _, _, rfl, rfl, same_new h2 _ _ upd_same, upd_same, sz_le (by rw [List.length_take, List.length_drop]; show _ + _ ≤ 100000; omega), fun D hD => ?_⟩
      have s12 : Same H3 (upd (upd H3 l1 (.lst ((tb.map V.int).take j))) l2 (.lst ((tb.map V.int).drop (j + 1)))) := (same_new h1).trans (same_new h2)
      have sD := s12.trans (same_new (o := .lst ((tb.map V.int).take j ++ (tb.map V.int).drop (j + 1))) hD)
      refine q (.ref D) _ (fun H'' b' => .short D _ (.inl (b'.1 _ _ (ne_st (S3.keep s12) hD) upd_same)) ?_) (S3.keep sD) (b.trans (.of sD))
      rw [List.length_append, List.length_take, List.length_drop]
      omega
    clear hc
    walk_at "rd"
    refine ite2 (fun hc => ?_) (fun hc => ?_)
    · walk_at "rd"
      refine ⟨l, _, rfl, SqL.of e3, fun l1 h1 => ?_⟩
      rw [cutV_take _ (by omega)]
      have e3' := same_new (o := .lst ((tb.map V.int).take j)) h1 _ _ e3
      walk_at "rd"
      refine ⟨l, _, _, _, rfl, rfl, SqL.of e3', atI_nat (List.getElem?_eq_getElem hj), ?_⟩
      walk_at "nw"
      intro l2 h2
      refine ⟨l1, l2, _, _, rfl, rfl, same_new h2 _ _ upd_same, upd_same, sz_le (by rw [List.length_take]; show _ + 1 ≤ 100000; omega), fun l3 h3 => ?_⟩
      generalize hg : upd (upd (upd H3 l1 _) l2 _) l3 _ = H4
      have s4 : Same H3 H4 := by rw [← hg]; exact ((same_new h1).trans (same_new h2)).trans (same_new h3)
      have e4 : H4 l3 = some (.lst ((tb.map V.int).take j ++ [(tb.map V.int)[j]])) := by rw [← hg]; exact upd_same
      clear hg h1 h2 h3 e3'
      walk_at "rd"
      refine ⟨l, _, rfl, SqL.of (s4 _ _ e3), fun l4 h4 => ?_⟩
      rw [cutV_drop _ (by omega)]
      refine ⟨l3, l4, _, _, rfl, rfl, same_new h4 _ _ e4, upd_same, sz_le (by rw [List.length_append, List.length_take, List.length_drop]; show _ + 1 + _ ≤ 100000; omega), fun D hD => ?_⟩
      have s5 := s4.trans (same_new (o := .lst ((tb.map V.int).drop j)) h4)
      have sD := s5.trans (same_new (o := .lst ((tb.map V.int).take j ++ [(tb.map V.int)[j]] ++ (tb.map V.int).drop j)) hD)
      refine q (.ref D) _ (fun H'' b' => .short D _ (.inl (b'.1 _ _ (ne_st (S3.keep s5) hD) upd_same)) ?_) (S3.keep sD) (b.trans (.of sD))
      rw [List.length_append, List.length_append, List.length_take, List.length_drop]
      show ¬ (((_ + 1 + _ : Nat) : Int) = n)
      omega
    clear hc
    walk_at "rd"
    refine ite2 (fun hc => ?_) (fun hc => ?_)
    · walk_at "rd"
      refine ⟨rfl, by omega, by omega, fun z => ?_⟩
      walk_at "rd"
      intro d hd
      have s1 : Same H3 (upd H3 d (.dK [])) := same_new hd
      generalize hg : upd H3 d _ = H4 at s1 ⊢
      have ed : H4 d = some (.dK []) := by rw [← hg]; exact upd_same
      clear hg
      walk_at "nw"
      intro e he
      have s2 : Same H4 (upd H4 e (.lst [])) := same_new he
      generalize hg : upd H4 e _ = H5 at s2 ⊢
      have ee : H5 e = some (.lst []) := by rw [← hg]; exact upd_same
      clear hg
      walk_at "rd"
      walk_at "nw"
      intro t ht
      have s3 : Same H5 (upd H5 t (.tup [.ref l])) := same_new ht
      generalize hg : upd H5 t _ = H6 at s3 ⊢
      have et : H6 t = some (.tup [.ref l]) := by rw [← hg]; exact upd_same
      clear hg
      walk_at "nw"
      intro L hL
      have s4 : Same H6 (upd H6 L (.lst [.non, .str z, .int 5, .ref d, .ref e, .ref t])) := same_new hL
      generalize hg : upd H6 L _ = H7 at s4 ⊢
      have eL : H7 L = some (.lst [.non, .str z, .int 5, .ref d, .ref e, .ref t]) := by rw [← hg]; exact upd_same
      clear hg
      have s37 := ((s1.trans s2).trans s3).trans s4
      have nd : d ≠ st := ne_st S3 hd
      have nne : e ≠ st := ne_st (S3.keep s1) he
      have nt : t ≠ st := ne_st (S3.keep (s1.trans s2)) ht
      have nL : L ≠ st := ne_st (S3.keep ((s1.trans s2).trans s3)) hL
      walk_at "rd"
      refine ⟨st, L, _, rfl, eL, nL, Nat.le_of_ble_eq_true rfl, Nat.le_of_ble_eq_true rfl, S3.keep s37, fun v H8 hv S8 b8 => ?_⟩
      refine q v H8 (NoTbS.keep (H := H7) (fun H9 b9 => ?_) b8) S8 ((b.trans (.of s37)).trans b8)
      simp only [List.mem_cons, List.mem_nil_iff, or_false] at hv
      rcases hv with rfl | rfl | rfl | rfl | rfl | rfl
      · exact .non
      · exact .str z
      · exact .int 5
      · exact .dict d [] (b9.1 _ _ nd (s4 _ _ (s3 _ _ (s2 _ _ ed))))
      · exact .short e [] (.inl (b9.1 _ _ nne (s4 _ _ (s3 _ _ ee)))) (by show ¬ (((0 : Nat) : Int) = n); omega)
      · exact .short t [.ref l] (.inr (b9.1 _ _ nt (s4 _ _ et))) (by show ¬ (((1 : Nat) : Int) = n); omega)
    clear hc
    walk_at "rd"
    walk_at "nw"
    intro t ht
    have s1 : Same H3 (upd H3 t (.tup [.int 0])) := same_new ht
    generalize hg : upd H3 t _ = H4 at s1 ⊢
    have et : H4 t = some (.tup [.int 0]) := by rw [← hg]; exact upd_same
    clear hg
    walk_at "rd"
    walk_at "nw"
    intro L hL
    have nt : t ≠ st := ne_st S3 ht
    have nL : L ≠ st := ne_st (S3.keep s1) hL
    have s2 := same_new (o := .lst [.int n, .int (0 - 1), .bl true, .bl false, .non, .str "0", .ref t, .int (10 ^ 39)]) hL
    have s12 := s1.trans s2
    walk_at "rd"
    refine ⟨st, L, _, rfl, upd_same, nL, Nat.le_of_ble_eq_true rfl, Nat.le_of_ble_eq_true rfl, S3.keep s12, fun v H8 hv S8 b8 => ?_⟩
    have hodd : OddS st H8 n v := by
      simp only [List.mem_cons, List.mem_nil_iff, or_false] at hv
      rcases hv with rfl | rfl | rfl | rfl | rfl | rfl | rfl | rfl
      · exact ⟨decide_eq_false (by omega), fun _ _ => .inl ⟨_, rfl⟩⟩
      · exact ⟨(show decide (0 ≤ (0 - 1 : Int) ∧ (0 - 1 : Int) ≤ (n : Int) - 1) = false from decide_eq_false (by omega)), fun _ _ => .inl ⟨_, rfl⟩⟩
      · exact ⟨rfl, fun _ _ => .inr ⟨_, .bl _⟩⟩
      · exact ⟨rfl, fun _ _ => .inr ⟨_, .bl _⟩⟩
      · exact ⟨rfl, fun _ _ => .inr ⟨_, .non⟩⟩
      · exact ⟨rfl, fun _ _ => .inr ⟨_, .str _⟩⟩
      · exact ⟨rfl, fun _ b' => .inr ⟨_, .tup t _ ((b8.trans b').1 _ _ nt (s2 _ _ et))⟩⟩
      · refine ⟨decide_eq_false fun z => ?_, fun _ _ => .inl ⟨_, rfl⟩⟩
        have : (97 : Int) < (10 : Int) ^ (39 : Int).toNat := by decide
        omega
    clear hv
    walk_at "rd"
    have e8 : H8 l = some (.lst (tb.map V.int)) := b8.1 _ _ hne (s12 _ _ e3)
    refine ⟨l, j, v, _, rfl, e8, hj, by omega, fun D H9 s9 hD e9 => ?_⟩
    have nD : D ≠ st := ne_st S8 hD
    refine q (.ref D) H9 (fun H'' b' => .odd D _ (.inl (b'.1 _ _ nD e9)) (by rw [List.length_set]; omega) (fun x hx => ?_) ?_) (S8.keep s9) ((b.trans (.of s12)).trans (b8.trans (.of s9)))
    · rcases List.mem_or_eq_of_mem_set hx with h | h
      · obtain ⟨i, _, rfl⟩ := List.mem_map.mp h
        exact .inl ⟨i, rfl⟩
      · rw [h]
        exact hodd.2 _ ((ButS.of s9).trans b')
    · rw [List.all_eq_false]
      exact ⟨v, List.mem_set hj v, by rw [hodd.1]; exact Bool.false_ne_true⟩
end
end K47

set_option Elab.async false
set_option linter.all false
set_option maxRecDepth 100000
set_option maxHeartbeats 4000000
set_option pp.deepTerms false
set_option pp.deepTerms.threshold 12
namespace K47
open PySem PySem.Spec PyProof.Rows L2
local macro_rules | `(tactic| walk_at "ty") => `(tactic| first | exact .base (.int _) | exact .base (.bl _) | exact .base (.str _) | exact .base .non | assumption | exact .base (.tup (by assumption)) | exact .base (.lst (by assumption)))
local macro_rules | `(tactic| walk_at "cm") => `(tactic| first | exact cm_r (by decide) (by decide) | exact cm_l (by decide) (by decide) | exact cm_fmod (by decide) (by decide) | exact cm_r (by omega) (by omega) | exact cm_l (by omega) (by omega))
local macro_rules | `(tactic| walk_at "dv") => `(tactic| first | exact ⟨by decide, by decide⟩ | exact ⟨by omega, by omega⟩)
local macro_rules | `(tactic| walk_at "r1") => `(tactic| first
  | refine ⟨_, rfl, ?_⟩ | refine ⟨_, _, rfl, rfl, ?_⟩ | refine Or.inl ⟨_, rfl, ?_⟩ | refine Or.inr ⟨_, rfl, ?_⟩
  | refine And.intro (a := CMul _ _) (by walk_at "cm") ?_ | refine And.intro (a := CDivN _ _) (by walk_at "dv") ?_ | refine And.intro (a := _ ≠ (0 : Int)) (by first | decide | omega) ?_ | refine And.intro (a := scal _ _ = true) rfl ?_ | refine ⟨_, _, _, _, rfl, rfl, SqL.of (by first | exact upd_same | assumption), rfl, ?_⟩ | refine ⟨_, _, _, _, rfl, rfl, (by first | exact upd_same | assumption), rfl, ?_⟩ | refine ⟨_, _, rfl, ?_⟩ | refine And.intro (a := (_ : V) = V.non) rfl ?_ | refine And.intro (a := CPow _ _) ⟨by decide, by decide, by decide⟩ ?_ | refine And.intro (a := (_ : List V) = []) rfl ?_ | refine ⟨_, _, rfl, SqT.of (by first | exact upd_same | assumption), rfl, ?_⟩
  | refine ⟨_, _, _, _, rfl, rfl, SqT.of (by first | exact upd_same | assumption), rfl, ?_⟩
  | refine ⟨_, _, _, _, true, rfl, ClsV.ty _, (by walk_at "ty"), kit_ty (by decide +kernel), ?_⟩ | refine ⟨_, _, _, _, false, rfl, ClsV.ty _, (by walk_at "ty"), kit_ty (by decide +kernel), ?_⟩)
local macro_rules | `(tactic| walk_at "rd") => `(tactic| repeat walk_at "r1")
local macro_rules | `(tactic| walk_at "yes") => `(tactic| (change (if true = true then _ else _); rw [if_pos rfl]))
local macro_rules | `(tactic| walk_at "no") => `(tactic| (change (if false = true then _ else _); rw [if_neg Bool.false_ne_true]))
local macro_rules | `(tactic| walk_at "nw") => `(tactic| refine And.intro (a := _ ≤ sizeLine) (sz_le (Nat.le_of_ble_eq_true rfl)) ?_)

section
variable {P : Program} {w : World} {K : PySem.W.Frag} {mg : Str → Option Value} {base : Heap}
variable {C_VaultError C_NumberError C_BadPrime C_BadTable C_BadCells C_ShapeError C_PaperError C_BadMove fV fI_BadMove fI_BadCells fI_BadPrime fI_BadTable : Addr}
variable (T : Txt P K mg C_VaultError C_NumberError C_BadPrime C_BadTable C_BadCells C_ShapeError C_PaperError C_BadMove fV fI_BadMove fI_BadCells fI_BadPrime fI_BadTable)
include T
def SA (ys : List V) : Prop := ∀ y ∈ ys, SmV y = true
omit T in
theorem SA.n : SA [] := fun _ h => nomatch h
omit T in
theorem SA.c {x : V} {ys : List V} (h : SmV x = true) (r : SA ys) : SA (x :: ys) := fun y hy => by
  rcases List.mem_cons.mp hy with e | e
  · rw [e]
    exact h
  · exact r y e
local macro_rules | `(tactic| walk_at "sm") => `(tactic| repeat first | exact SA.n | refine SA.c (by first | decide +kernel | exact sm_int (by omega) (by omega) | rfl) ?_)
omit T in
theorem It1.same {st : Addr} {H H' : Hp} {v : V} (h : It1 st H v) (s : Same H H') : It1 st H' v := by
  cases h with
  | flat v h => exact .flat v h
  | lst a ys n h f l => exact .lst a ys n (s _ _ h) f l
  | nil a h => exact .nil a (s _ _ h)
  | tup a w rest h f l => exact .tup a w rest (s _ _ h) f l
/-- things made so far -/
structure Acc (st : Addr) (H0 : Hp) (L : List V) (H : Hp) : Prop where
  all : ∀ x ∈ L, It1 st H x
  same : Same H0 H
  S : Store H st
omit T in
theorem Acc.start {st : Addr} {H : Hp} (S : Store H st) : Acc st H [] H := ⟨fun _ h => (nomatch h), fun _ _ h => h, S⟩
omit T in
theorem Acc.push {st p : Addr} {H0 H : Hp} {L : List V} {x : V} {o : HO} (a : Acc st H0 L H) (hp : H p = none) (h : It1 st (upd H p o) x) : Acc st H0 (L ++ [x]) (upd H p o) := ⟨fun y hy => by
  rcases List.mem_append.mp hy with e | e
  · exact (a.all y e).same (same_new hp)
  · rw [List.mem_singleton] at e
    rw [e]
    exact h, a.same.trans (same_new hp), a.S.keep (same_new hp)⟩
omit T in
theorem Acc.skip {st p : Addr} {H0 H : Hp} {L : List V} {o : HO} (a : Acc st H0 L H) (hp : H p = none) : Acc st H0 L (upd H p o) := ⟨fun y hy => (a.all y hy).same (same_new hp), a.same.trans (same_new hp), a.S.keep (same_new hp)⟩
omit T in
theorem Acc.tup {st p : Addr} {H0 H : Hp} {L : List V} {w : Str} {rest : List V} (a : Acc st H0 L H) (hp : H p = none) (f : SA (.str w :: rest)) (l : rest.length ≤ 3) : Acc st H0 (L ++ [.ref p]) (upd H p (.tup (.str w :: rest))) := a.push hp (.tup p w rest upd_same f l)
omit T in
theorem Acc.nil {st p : Addr} {H0 H : Hp} {L : List V} (a : Acc st H0 L H) (hp : H p = none) : Acc st H0 (L ++ [.ref p]) (upd H p (.tup [])) := a.push hp (.nil p upd_same)
omit T in
theorem Store.ne {st p : Addr} {H : Hp} (S : Store H st) (hp : H p = none) : p ≠ st := fun z => by
  obtain ⟨u, hu⟩ := S.some
  rw [z, hu] at hp
  cases hp
omit T in
theorem Acc.lst {st p : Addr} {H0 H : Hp} {L : List V} {ys : List V} (a : Acc st H0 L H) (hp : H p = none) (f : SA ys) (l : ys.length ≤ 4) : Acc st H0 (L ++ [.ref p]) (upd H p (.lst ys)) := a.push hp (.lst p ys (Store.ne a.S hp) upd_same f l)
omit T in
theorem Acc.flat {st : Addr} {H0 H : Hp} {L : List V} {x : V} (a : Acc st H0 L H) (h : SmV x = true) : Acc st H0 (L ++ [x]) H := ⟨fun y hy => by
  rcases List.mem_append.mp hy with e | e
  · exact a.all y e
  · rw [List.mem_singleton] at e
    rw [e]
    exact .flat x h, a.same, a.S⟩
omit T in
theorem Acc.flatI {st : Addr} {H0 H : Hp} {L : List V} {x : V} (a : Acc st H0 L H) (h : It1 st H x) : Acc st H0 (L ++ [x]) H := ⟨fun y hy => by
  rcases List.mem_append.mp hy with e | e
  · exact a.all y e
  · rw [List.mem_singleton] at e
    rw [e]
    exact h, a.same, a.S⟩
omit T in
theorem Acc.but {st : Addr} {H0 H H' : Hp} {L : List V} (a : Acc st H0 L H) (S : Store H' st) (b : ButS st H H') : Acc st H' L H' := ⟨fun y hy => (a.all y hy).keep a.S b, fun _ _ h => h, S⟩
omit T in
theorem sIx_i {n d : Nat} {k : Int} (h : 0 ≤ k) : HT.sIx n d (some k) = min k.toNat n := by
  show (if k < 0 then _ else min k.toNat n) = _
  rw [if_neg (by omega)]
omit T in
theorem cutV_mem {x : V} {xs : List V} {lo hi : Option Int} (h : x ∈ cutV xs lo hi) : x ∈ xs := List.mem_of_mem_drop (List.mem_of_mem_take h)
omit T in
theorem cutV_to (xs : List V) {j : Int} (h : 0 ≤ j) : (cutV xs none (some j)).length = min j.toNat xs.length := by
  unfold cutV
  rw [List.length_take, List.length_drop, HT.sIx_none, sIx_i h]
  omega
omit T in
theorem cutV_from (xs : List V) {i : Int} (h : 0 ≤ i) : (cutV xs (some i) none).length = xs.length - min i.toNat xs.length := by
  unfold cutV
  rw [List.length_take, List.length_drop, HT.sIx_none, sIx_i h]
  omega
omit T in
theorem cutV_in (xs : List V) {i j : Int} (h : 0 ≤ i) (h2 : 0 ≤ j) : (cutV xs (some i) (some j)).length = min j.toNat xs.length - min i.toNat xs.length := by
  unfold cutV
  rw [List.length_take, List.length_drop, sIx_i h, sIx_i h2]
  omega
def spBent : Sp := fun vs H Q _ => ∃ (st l : Addr) (c : Int), vs = [.ref st, .ref l, .int c] ∧ 1 ≤ c ∧ c ≤ 120 ∧ ∃ xs : List V, H l = some (.lst xs) ∧ l ≠ st ∧ (∀ x ∈ xs, It1 st H x) ∧ xs.length ≤ 19000 ∧ Store H st ∧
  ∀ l' ys H', H' l' = some (.lst ys) → H l' = none → (∀ y ∈ ys, It1 st H' y) → ys.length ≤ xs.length + 1 → Store H' st → ButS st H H' → Q (.ref l') H'
theorem ok_bent {f : Addr} {fd : FuncData} (F : Fun K "_law_bent" "_law_bent" s_bent f fd) {f_take : Addr} {fd_take : FuncData} (D_take : Def K mg "_law_take" s_take p_take f_take fd_take) (G_take : FnOk P w K mg base CX0 2 f_take fd_take p_take spTake) {f_pick : Addr} {fd_pick : FuncData} (D_pick : Def K mg "_law_pick" s_pick p_pick f_pick fd_pick) (G_pick : FnOk P w K mg base CX0 3 f_pick fd_pick p_pick spPick) : FnOk P w K mg base CX0 4 f fd p_bent spBent := by
  refine F.ok sc_bent (fun vs H Q E h => ?_) (fun cdv A outer s H vs Q E hr h => ?_)
  · obtain ⟨st, l, c, rfl, _⟩ := h
    rfl
  · obtain ⟨st, l, c, rfl, c0, c1, xs, hl, hne, hit, hz, S, q⟩ := h
    refine ⟨_, (pss_cons (ps_set (i := 3) sc_bent.nd rfl (Or.inl rfl) (by exact (pe_call G_take (hr.mono (by first | decide | omega)) rfl D_take.g D_take.fn.kp D_take.b .nil pass0 (pa_cons (pv 0) (pa_cons (pe_op op_add (pv 2) pe_int) pa_nil)))))
      (pss_cons (ps_set (i := 4) sc_bent.nd rfl (Or.inl rfl) (by exact (pe_lst (pa_cons (pe_tup (pa_cons pe_str (pa_cons pe_int pa_nil))) (pa_cons (pe_tup (pa_cons pe_str pa_nil)) (pa_cons (pe_tup (pa_cons pe_str (pa_cons pe_int (pa_cons pe_int (pa_cons pe_int pa_nil))))) (pa_cons (pe_lst (pa_cons pe_str (pa_cons pe_int (pa_cons pe_int pa_nil)))) (pa_cons (pe_lst (pa_cons pe_str (pa_cons pe_int pa_nil))) (pa_cons (pe_tup (pa_cons pe_str (pa_cons pe_bl (pa_cons pe_int pa_nil)))) (pa_cons (pe_tup (pa_cons pe_str (pa_cons pe_bl pa_nil))) (pa_cons pe_non (pa_cons (pe_tup pa_nil) pa_nil))))))))))))
      (pss_cons (ps_set (i := 4) sc_bent.nd rfl (Or.inl rfl) (by exact (pe_op op_cat (pv 4) (pe_lst (pa_cons (pe_tup (pa_cons pe_str (pa_cons pe_int pa_nil))) (pa_cons (pe_tup (pa_cons pe_str (pa_cons pe_int pa_nil))) (pa_cons (pe_tup (pa_cons pe_str (pa_cons (pe_op op_add (pv 2) pe_int) pa_nil))) (pa_cons (pe_tup (pa_cons pe_str (pa_cons (pe_op op_sub pe_int pe_int) (pa_cons pe_int pa_nil)))) (pa_cons (pe_tup (pa_cons pe_str (pa_cons pe_int (pa_cons (pe_op op_add (pv 2) pe_int) pa_nil)))) (pa_cons (pe_tup (pa_cons pe_str (pa_cons pe_str (pa_cons pe_int pa_nil)))) pa_nil))))))))))
      (pss_cons (ps_set (i := 4) sc_bent.nd rfl (Or.inl rfl) (by exact (pe_op op_cat (pe_op op_cat (pv 4) (pe_lst (pa_cons pe_str (pa_cons (pe_tup (pa_cons pe_str (pa_cons pe_int pa_nil))) (pa_cons pe_int pa_nil))))) (pe_op op_rep (pe_lst (pa_cons (pe_tup (pa_cons pe_str (pa_cons (pv 3) (pa_cons pe_int pa_nil)))) (pa_cons (pe_tup (pa_cons pe_str (pa_cons pe_int (pa_cons (pv 3) pa_nil)))) (pa_cons (pe_tup (pa_cons pe_str (pa_cons (pv 3) pa_nil))) (pa_cons (pe_tup (pa_cons pe_str (pa_cons (pv 3) (pa_cons (pv 3) pa_nil)))) pa_nil))))) pe_int))))
      (pss_cons (ps_set (i := 5) sc_bent.nd rfl (Or.inl rfl) (by exact (pe_call G_take (hr.mono (by first | decide | omega)) rfl D_take.g D_take.fn.kp D_take.b .nil pass0 (pa_cons (pv 0) (pa_cons pe_int pa_nil)))))
      (pss_cons (ps_set (i := 6) sc_bent.nd rfl (Or.inl rfl) (by exact (pe_call G_take (hr.mono (by first | decide | omega)) rfl D_take.g D_take.fn.kp D_take.b .nil pass0 (pa_cons (pv 0) (pa_cons (pe_op op_add (pe_callB call_len_seq (by rfl) T.b_len (by first | exact PySem.boot_len | decide +kernel) (pa_cons (pv 1) pa_nil)) pe_int) pa_nil)))))
      (pss_cons (ps_if (pt_cmpR op_eq (pv 5) pe_int (nomark _)) (pss_one (ps_ret (by exact (pe_op op_cat (pe_op op_cat (pe_slice sl_list (pv 1) po_none (po_some (pv 6))) (pe_lst (pa_cons (pe_call G_pick (hr.mono (by first | decide | omega)) rfl D_pick.g D_pick.fn.kp D_pick.b .nil pass0 (pa_cons (pv 0) (pa_cons (pv 4) pa_nil))) pa_nil))) (pe_slice sl_list (pv 1) (po_some (pv 6)) po_none))))) pss_nil)
      (pss_cons (ps_if (pt_cmpR op_eq (pv 5) pe_int (nomark _)) (pss_one (ps_ret (by exact (pe_op op_cat (pe_op op_cat (pe_slice sl_list (pv 1) po_none (po_some (pv 6))) (pe_lst (pa_cons (pe_call G_pick (hr.mono (by first | decide | omega)) rfl D_pick.g D_pick.fn.kp D_pick.b .nil pass0 (pa_cons (pv 0) (pa_cons (pv 4) pa_nil))) pa_nil))) (pe_slice sl_list (pv 1) (po_some (pe_op op_add (pv 6) pe_int)) po_none))))) pss_nil)
      (pss_cons (ps_if (pt_cmpR op_eq (pv 5) pe_int (nomark _)) (pss_one (ps_ret (by exact (pe_op op_cat (pe_slice sl_list (pv 1) po_none (po_some (pv 6))) (pe_slice sl_list (pv 1) (po_some (pe_op op_add (pv 6) pe_int)) po_none))))) pss_nil)
      (pss_cons (ps_if (pt_cmpR op_eq (pv 5) pe_int (nomark _)) (pss_one (ps_ret (by exact (pe_op op_cat (pe_op op_cat (pe_slice sl_list (pv 1) po_none (po_some (pv 6))) (pe_slice sl_list (pv 1) (po_some (pv 6)) (po_some (pe_op op_add (pv 6) pe_int)))) (pe_slice sl_list (pv 1) (po_some (pv 6)) po_none))))) pss_nil)
      (pss_one (ps_ret (by exact (pe_op op_cat (pe_op op_cat (pe_op op_cat (pe_slice sl_list (pv 1) po_none (po_some (pv 6))) (pe_slice sl_list (pv 1) (po_some (pe_op op_add (pv 6) pe_int)) (po_some (pe_op op_add (pv 6) pe_int)))) (pe_slice sl_list (pv 1) (po_some (pv 6)) (po_some (pe_op op_add (pv 6) pe_int)))) (pe_slice sl_list (pv 1) (po_some (pe_op op_add (pv 6) pe_int)) po_none))))))))))))))), ?_⟩
    walk_at "rd"
    refine ⟨by omega, S, fun cell H0 d0 d1 S0 b0 => ?_⟩
    have hc : 0 ≤ cell ∧ cell ≤ 121 := by
      revert d1
      split <;> omega
    obtain ⟨hc0, hc1⟩ := hc
    clear d0 d1
    have A0 : Acc st H0 [] H0 := .start S0
    walk_at "rd"
    walk_at "nw"
    intro p1 hp1
    generalize hg1 : upd H0 p1 _ = H1
    have A1 : Acc st H0 [.ref p1] H1 := by
      rw [← hg1]
      exact A0.tup hp1 (by walk_at "sm") (Nat.le_of_ble_eq_true rfl)
    clear A0
    clear hg1 hp1
    walk_at "rd"
    walk_at "nw"
    intro p2 hp2
    generalize hg2 : upd H1 p2 _ = H2
    have A2 : Acc st H0 [.ref p1, .ref p2] H2 := by
      rw [← hg2]
      exact A1.tup hp2 (by walk_at "sm") (Nat.le_of_ble_eq_true rfl)
    clear A1
    clear hg2 hp2
    walk_at "rd"
    walk_at "nw"
    intro p3 hp3
    generalize hg3 : upd H2 p3 _ = H3
    have A3 : Acc st H0 [.ref p1, .ref p2, .ref p3] H3 := by
      rw [← hg3]
      exact A2.tup hp3 (by walk_at "sm") (Nat.le_of_ble_eq_true rfl)
    clear A2
    clear hg3 hp3
    walk_at "rd"
    walk_at "nw"
    intro p4 hp4
    generalize hg4 : upd H3 p4 _ = H4
    have A4 : Acc st H0 [.ref p1, .ref p2, .ref p3, .ref p4] H4 := by
      rw [← hg4]
      exact A3.lst hp4 (by walk_at "sm") (Nat.le_of_ble_eq_true rfl)
    clear A3
    clear hg4 hp4
    walk_at "rd"
    walk_at "nw"
    intro p5 hp5
    generalize hg5 : upd H4 p5 _ = H5
    have A5 : Acc st H0 [.ref p1, .ref p2, .ref p3, .ref p4, .ref p5] H5 := by
      rw [← hg5]
      exact A4.lst hp5 (by walk_at "sm") (Nat.le_of_ble_eq_true rfl)
    clear A4
    clear hg5 hp5
    walk_at "rd"
    walk_at "nw"
    intro p6 hp6
    generalize hg6 : upd H5 p6 _ = H6
    have A6 : Acc st H0 [.ref p1, .ref p2, .ref p3, .ref p4, .ref p5, .ref p6] H6 := by
      rw [← hg6]
      exact A5.tup hp6 (by walk_at "sm") (Nat.le_of_ble_eq_true rfl)
    clear A5
    clear hg6 hp6
    walk_at "rd"
    walk_at "nw"
    intro p7 hp7
    generalize hg7 : upd H6 p7 _ = H7
    have A7 : Acc st H0 [.ref p1, .ref p2, .ref p3, .ref p4, .ref p5, .ref p6, .ref p7] H7 := by
      rw [← hg7]
      exact A6.tup hp7 (by walk_at "sm") (Nat.le_of_ble_eq_true rfl)
    clear A6
    clear hg7 hp7
    replace A7 : Acc st H0 [.ref p1, .ref p2, .ref p3, .ref p4, .ref p5, .ref p6, .ref p7, .non] H7 := A7.flat (by decide +kernel)
    walk_at "rd"
    walk_at "nw"
    intro p8 hp8
    generalize hg8 : upd H7 p8 _ = H8
    have A8 : Acc st H0 [.ref p1, .ref p2, .ref p3, .ref p4, .ref p5, .ref p6, .ref p7, .non, .ref p8] H8 := by
      rw [← hg8]
      exact A7.nil hp8
    clear A7
    clear hg8 hp8
    walk_at "rd"
    walk_at "nw"
    intro p9 hp9
    generalize hg9 : upd H8 p9 _ = H9
    have A9 : Acc st H0 [.ref p1, .ref p2, .ref p3, .ref p4, .ref p5, .ref p6, .ref p7, .non, .ref p8] H9 := by
      rw [← hg9]
      exact A8.skip hp9
    have e9 : H9 p9 = some (.lst [.ref p1, .ref p2, .ref p3, .ref p4, .ref p5, .ref p6, .ref p7, .non, .ref p8]) := by
      rw [← hg9]
      exact upd_same
    have n9 : p9 ≠ st := Store.ne A8.S hp9
    clear A8
    clear hg9 hp9
    have o9 := e9
    clear e9
    walk_at "rd"
    walk_at "rd"
    walk_at "nw"
    intro p10 hp10
    generalize hg10 : upd H9 p10 _ = H10
    have A10 : Acc st H0 [.ref p1, .ref p2, .ref p3, .ref p4, .ref p5, .ref p6, .ref p7, .non, .ref p8, .ref p10] H10 := by
      rw [← hg10]
      exact A9.tup hp10 (by walk_at "sm") (Nat.le_of_ble_eq_true rfl)
    clear A9
    have o10 : H10 p9 = some (.lst [.ref p1, .ref p2, .ref p3, .ref p4, .ref p5, .ref p6, .ref p7, .non, .ref p8]) := by
      rw [← hg10]
      exact same_new hp10 _ _ o9
    clear hg10 hp10 o9
    walk_at "rd"
    walk_at "nw"
    intro p11 hp11
    generalize hg11 : upd H10 p11 _ = H11
    have A11 : Acc st H0 [.ref p1, .ref p2, .ref p3, .ref p4, .ref p5, .ref p6, .ref p7, .non, .ref p8, .ref p10, .ref p11] H11 := by
      rw [← hg11]
      exact A10.tup hp11 (by walk_at "sm") (Nat.le_of_ble_eq_true rfl)
    clear A10
    have o11 : H11 p9 = some (.lst [.ref p1, .ref p2, .ref p3, .ref p4, .ref p5, .ref p6, .ref p7, .non, .ref p8]) := by
      rw [← hg11]
      exact same_new hp11 _ _ o10
    clear hg11 hp11 o10
    walk_at "rd"
    walk_at "nw"
    intro p12 hp12
    generalize hg12 : upd H11 p12 _ = H12
    have A12 : Acc st H0 [.ref p1, .ref p2, .ref p3, .ref p4, .ref p5, .ref p6, .ref p7, .non, .ref p8, .ref p10, .ref p11, .ref p12] H12 := by
      rw [← hg12]
      exact A11.tup hp12 (by walk_at "sm") (Nat.le_of_ble_eq_true rfl)
    clear A11
    have o12 : H12 p9 = some (.lst [.ref p1, .ref p2, .ref p3, .ref p4, .ref p5, .ref p6, .ref p7, .non, .ref p8]) := by
      rw [← hg12]
      exact same_new hp12 _ _ o11
    clear hg12 hp12 o11
    walk_at "rd"
    walk_at "nw"
    intro p13 hp13
    generalize hg13 : upd H12 p13 _ = H13
    have A13 : Acc st H0 [.ref p1, .ref p2, .ref p3, .ref p4, .ref p5, .ref p6, .ref p7, .non, .ref p8, .ref p10, .ref p11, .ref p12, .ref p13] H13 := by
      rw [← hg13]
      exact A12.tup hp13 (by walk_at "sm") (Nat.le_of_ble_eq_true rfl)
    clear A12
    have o13 : H13 p9 = some (.lst [.ref p1, .ref p2, .ref p3, .ref p4, .ref p5, .ref p6, .ref p7, .non, .ref p8]) := by
      rw [← hg13]
      exact same_new hp13 _ _ o12
    clear hg13 hp13 o12
    walk_at "rd"
    walk_at "nw"
    intro p14 hp14
    generalize hg14 : upd H13 p14 _ = H14
    have A14 : Acc st H0 [.ref p1, .ref p2, .ref p3, .ref p4, .ref p5, .ref p6, .ref p7, .non, .ref p8, .ref p10, .ref p11, .ref p12, .ref p13, .ref p14] H14 := by
      rw [← hg14]
      exact A13.tup hp14 (by walk_at "sm") (Nat.le_of_ble_eq_true rfl)
    clear A13
    have o14 : H14 p9 = some (.lst [.ref p1, .ref p2, .ref p3, .ref p4, .ref p5, .ref p6, .ref p7, .non, .ref p8]) := by
      rw [← hg14]
      exact same_new hp14 _ _ o13
    clear hg14 hp14 o13
    walk_at "rd"
    walk_at "nw"
    intro p15 hp15
    generalize hg15 : upd H14 p15 _ = H15
    have A15 : Acc st H0 [.ref p1, .ref p2, .ref p3, .ref p4, .ref p5, .ref p6, .ref p7, .non, .ref p8, .ref p10, .ref p11, .ref p12, .ref p13, .ref p14, .ref p15] H15 := by
      rw [← hg15]
      exact A14.tup hp15 (by walk_at "sm") (Nat.le_of_ble_eq_true rfl)
    clear A14
    have o15 : H15 p9 = some (.lst [.ref p1, .ref p2, .ref p3, .ref p4, .ref p5, .ref p6, .ref p7, .non, .ref p8]) := by
      rw [← hg15]
      exact same_new hp15 _ _ o14
    clear hg15 hp15 o14
    walk_at "rd"
    walk_at "nw"
    intro p16 hp16
    generalize hg16 : upd H15 p16 _ = H16
    have A16 : Acc st H0 [.ref p1, .ref p2, .ref p3, .ref p4, .ref p5, .ref p6, .ref p7, .non, .ref p8, .ref p10, .ref p11, .ref p12, .ref p13, .ref p14, .ref p15] H16 := by
      rw [← hg16]
      exact A15.skip hp16
    have e16 : H16 p16 = some (.lst [.ref p10, .ref p11, .ref p12, .ref p13, .ref p14, .ref p15]) := by
      rw [← hg16]
      exact upd_same
    have n16 : p16 ≠ st := Store.ne A15.S hp16
    clear A15
    have o16 : H16 p9 = some (.lst [.ref p1, .ref p2, .ref p3, .ref p4, .ref p5, .ref p6, .ref p7, .non, .ref p8]) := by
      rw [← hg16]
      exact same_new hp16 _ _ o15
    clear hg16 hp16 o15
    walk_at "rd"
    refine ⟨p9, p16, _, _, rfl, rfl, o16, e16, sz_le (Nat.le_of_ble_eq_true rfl), fun p17 hp17 => ?_⟩
    generalize hg : upd H16 p17 _ = H17
    have A17 : Acc st H0 [.ref p1, .ref p2, .ref p3, .ref p4, .ref p5, .ref p6, .ref p7, .non, .ref p8, .ref p10, .ref p11, .ref p12, .ref p13, .ref p14, .ref p15] H17 := by
      rw [← hg]
      exact A16.skip hp17
    have o17 : H17 p17 = some (.lst [.ref p1, .ref p2, .ref p3, .ref p4, .ref p5, .ref p6, .ref p7, .non, .ref p8, .ref p10, .ref p11, .ref p12, .ref p13, .ref p14, .ref p15]) := by
      rw [← hg]
      exact upd_same
    have n17 : p17 ≠ st := Store.ne A16.S hp17
    clear hg hp17 A16 o16 e16 n16
    replace A17 : Acc st H0 [.ref p1, .ref p2, .ref p3, .ref p4, .ref p5, .ref p6, .ref p7, .non, .ref p8, .ref p10, .ref p11, .ref p12, .ref p13, .ref p14, .ref p15, .str "read"] H17 := A17.flat (by decide +kernel)
    walk_at "rd"
    walk_at "nw"
    intro p18 hp18
    generalize hg18 : upd H17 p18 _ = H18
    have A18 : Acc st H0 [.ref p1, .ref p2, .ref p3, .ref p4, .ref p5, .ref p6, .ref p7, .non, .ref p8, .ref p10, .ref p11, .ref p12, .ref p13, .ref p14, .ref p15, .str "read", .ref p18] H18 := by
      rw [← hg18]
      exact A17.tup hp18 (by walk_at "sm") (Nat.le_of_ble_eq_true rfl)
    clear A17
    have o18 : H18 p17 = some (.lst [.ref p1, .ref p2, .ref p3, .ref p4, .ref p5, .ref p6, .ref p7, .non, .ref p8, .ref p10, .ref p11, .ref p12, .ref p13, .ref p14, .ref p15]) := by
      rw [← hg18]
      exact same_new hp18 _ _ o17
    clear hg18 hp18 o17
    replace A18 : Acc st H0 [.ref p1, .ref p2, .ref p3, .ref p4, .ref p5, .ref p6, .ref p7, .non, .ref p8, .ref p10, .ref p11, .ref p12, .ref p13, .ref p14, .ref p15, .str "read", .ref p18, .int 7] H18 := A18.flat (by decide +kernel)
    walk_at "rd"
    walk_at "nw"
    intro p19 hp19
    generalize hg19 : upd H18 p19 _ = H19
    have A19 : Acc st H0 [.ref p1, .ref p2, .ref p3, .ref p4, .ref p5, .ref p6, .ref p7, .non, .ref p8, .ref p10, .ref p11, .ref p12, .ref p13, .ref p14, .ref p15, .str "read", .ref p18, .int 7] H19 := by
      rw [← hg19]
      exact A18.skip hp19
    have e19 : H19 p19 = some (.lst [.str "read", .ref p18, .int 7]) := by
      rw [← hg19]
      exact upd_same
    have n19 : p19 ≠ st := Store.ne A18.S hp19
    clear A18
    have o19 : H19 p17 = some (.lst [.ref p1, .ref p2, .ref p3, .ref p4, .ref p5, .ref p6, .ref p7, .non, .ref p8, .ref p10, .ref p11, .ref p12, .ref p13, .ref p14, .ref p15]) := by
      rw [← hg19]
      exact same_new hp19 _ _ o18
    clear hg19 hp19 o18
    walk_at "rd"
    refine ⟨p17, p19, _, _, rfl, rfl, o19, e19, sz_le (Nat.le_of_ble_eq_true rfl), fun p20 hp20 => ?_⟩
    generalize hg : upd H19 p20 _ = H20
    have A20 : Acc st H0 [.ref p1, .ref p2, .ref p3, .ref p4, .ref p5, .ref p6, .ref p7, .non, .ref p8, .ref p10, .ref p11, .ref p12, .ref p13, .ref p14, .ref p15, .str "read", .ref p18, .int 7] H20 := by
      rw [← hg]
      exact A19.skip hp20
    have o20 : H20 p20 = some (.lst [.ref p1, .ref p2, .ref p3, .ref p4, .ref p5, .ref p6, .ref p7, .non, .ref p8, .ref p10, .ref p11, .ref p12, .ref p13, .ref p14, .ref p15, .str "read", .ref p18, .int 7]) := by
      rw [← hg]
      exact upd_same
    have n20 : p20 ≠ st := Store.ne A19.S hp20
    clear hg hp20 A19 o19 e19 n19
    walk_at "rd"
    walk_at "nw"
    intro p21 hp21
    generalize hg21 : upd H20 p21 _ = H21
    have A21 : Acc st H0 [.ref p1, .ref p2, .ref p3, .ref p4, .ref p5, .ref p6, .ref p7, .non, .ref p8, .ref p10, .ref p11, .ref p12, .ref p13, .ref p14, .ref p15, .str "read", .ref p18, .int 7, .ref p21] H21 := by
      rw [← hg21]
      exact A20.tup hp21 (by walk_at "sm") (Nat.le_of_ble_eq_true rfl)
    clear A20
    have o21 : H21 p20 = some (.lst [.ref p1, .ref p2, .ref p3, .ref p4, .ref p5, .ref p6, .ref p7, .non, .ref p8, .ref p10, .ref p11, .ref p12, .ref p13, .ref p14, .ref p15, .str "read", .ref p18, .int 7]) := by
      rw [← hg21]
      exact same_new hp21 _ _ o20
    clear hg21 hp21 o20
    walk_at "rd"
    walk_at "nw"
    intro p22 hp22
    generalize hg22 : upd H21 p22 _ = H22
    have A22 : Acc st H0 [.ref p1, .ref p2, .ref p3, .ref p4, .ref p5, .ref p6, .ref p7, .non, .ref p8, .ref p10, .ref p11, .ref p12, .ref p13, .ref p14, .ref p15, .str "read", .ref p18, .int 7, .ref p21, .ref p22] H22 := by
      rw [← hg22]
      exact A21.tup hp22 (by walk_at "sm") (Nat.le_of_ble_eq_true rfl)
    clear A21
    have o22 : H22 p20 = some (.lst [.ref p1, .ref p2, .ref p3, .ref p4, .ref p5, .ref p6, .ref p7, .non, .ref p8, .ref p10, .ref p11, .ref p12, .ref p13, .ref p14, .ref p15, .str "read", .ref p18, .int 7]) := by
      rw [← hg22]
      exact same_new hp22 _ _ o21
    clear hg22 hp22 o21
    walk_at "rd"
    walk_at "nw"
    intro p23 hp23
    generalize hg23 : upd H22 p23 _ = H23
    have A23 : Acc st H0 [.ref p1, .ref p2, .ref p3, .ref p4, .ref p5, .ref p6, .ref p7, .non, .ref p8, .ref p10, .ref p11, .ref p12, .ref p13, .ref p14, .ref p15, .str "read", .ref p18, .int 7, .ref p21, .ref p22, .ref p23] H23 := by
      rw [← hg23]
      exact A22.tup hp23 (by walk_at "sm") (Nat.le_of_ble_eq_true rfl)
    clear A22
    have o23 : H23 p20 = some (.lst [.ref p1, .ref p2, .ref p3, .ref p4, .ref p5, .ref p6, .ref p7, .non, .ref p8, .ref p10, .ref p11, .ref p12, .ref p13, .ref p14, .ref p15, .str "read", .ref p18, .int 7]) := by
      rw [← hg23]
      exact same_new hp23 _ _ o22
    clear hg23 hp23 o22
    walk_at "rd"
    walk_at "nw"
    intro p24 hp24
    generalize hg24 : upd H23 p24 _ = H24
    have A24 : Acc st H0 [.ref p1, .ref p2, .ref p3, .ref p4, .ref p5, .ref p6, .ref p7, .non, .ref p8, .ref p10, .ref p11, .ref p12, .ref p13, .ref p14, .ref p15, .str "read", .ref p18, .int 7, .ref p21, .ref p22, .ref p23, .ref p24] H24 := by
      rw [← hg24]
      exact A23.tup hp24 (by walk_at "sm") (Nat.le_of_ble_eq_true rfl)
    clear A23
    have o24 : H24 p20 = some (.lst [.ref p1, .ref p2, .ref p3, .ref p4, .ref p5, .ref p6, .ref p7, .non, .ref p8, .ref p10, .ref p11, .ref p12, .ref p13, .ref p14, .ref p15, .str "read", .ref p18, .int 7]) := by
      rw [← hg24]
      exact same_new hp24 _ _ o23
    clear hg24 hp24 o23
    walk_at "rd"
    walk_at "nw"
    intro p25 hp25
    generalize hg25 : upd H24 p25 _ = H25
    have A25 : Acc st H0 [.ref p1, .ref p2, .ref p3, .ref p4, .ref p5, .ref p6, .ref p7, .non, .ref p8, .ref p10, .ref p11, .ref p12, .ref p13, .ref p14, .ref p15, .str "read", .ref p18, .int 7, .ref p21, .ref p22, .ref p23, .ref p24] H25 := by
      rw [← hg25]
      exact A24.skip hp25
    have e25 : H25 p25 = some (.lst [.ref p21, .ref p22, .ref p23, .ref p24]) := by
      rw [← hg25]
      exact upd_same
    have n25 : p25 ≠ st := Store.ne A24.S hp25
    clear A24
    have o25 : H25 p20 = some (.lst [.ref p1, .ref p2, .ref p3, .ref p4, .ref p5, .ref p6, .ref p7, .non, .ref p8, .ref p10, .ref p11, .ref p12, .ref p13, .ref p14, .ref p15, .str "read", .ref p18, .int 7]) := by
      rw [← hg25]
      exact same_new hp25 _ _ o24
    clear hg25 hp25 o24
    walk_at "rd"
    refine ⟨p25, 3, _, rfl, rfl, e25, by decide, by decide, sz_le (Nat.le_of_ble_eq_true rfl), fun p26 hp26 => ?_⟩
    generalize hg26 : upd H25 p26 _ = H26
    have A26 : Acc st H0 [.ref p1, .ref p2, .ref p3, .ref p4, .ref p5, .ref p6, .ref p7, .non, .ref p8, .ref p10, .ref p11, .ref p12, .ref p13, .ref p14, .ref p15, .str "read", .ref p18, .int 7, .ref p21, .ref p22, .ref p23, .ref p24] H26 := by
      rw [← hg26]
      exact A25.skip hp26
    have e26 : H26 p26 = some (.lst [.ref p21, .ref p22, .ref p23, .ref p24, .ref p21, .ref p22, .ref p23, .ref p24, .ref p21, .ref p22, .ref p23, .ref p24]) := by
      rw [← hg26]
      exact upd_same
    have n26 : p26 ≠ st := Store.ne A25.S hp26
    have o26 : H26 p20 = some (.lst [.ref p1, .ref p2, .ref p3, .ref p4, .ref p5, .ref p6, .ref p7, .non, .ref p8, .ref p10, .ref p11, .ref p12, .ref p13, .ref p14, .ref p15, .str "read", .ref p18, .int 7]) := by
      rw [← hg26]
      exact same_new hp26 _ _ o25
    clear hg26 hp26 o25
    clear A25 e25 n25
    walk_at "rd"
    refine ⟨p20, p26, _, _, rfl, rfl, o26, e26, sz_le (Nat.le_of_ble_eq_true rfl), fun p27 hp27 => ?_⟩
    generalize hg : upd H26 p27 _ = H27
    have A27 : Acc st H0 [.ref p1, .ref p2, .ref p3, .ref p4, .ref p5, .ref p6, .ref p7, .non, .ref p8, .ref p10, .ref p11, .ref p12, .ref p13, .ref p14, .ref p15, .str "read", .ref p18, .int 7, .ref p21, .ref p22, .ref p23, .ref p24] H27 := by
      rw [← hg]
      exact A26.skip hp27
    have o27 : H27 p27 = some (.lst [.ref p1, .ref p2, .ref p3, .ref p4, .ref p5, .ref p6, .ref p7, .non, .ref p8, .ref p10, .ref p11, .ref p12, .ref p13, .ref p14, .ref p15, .str "read", .ref p18, .int 7, .ref p21, .ref p22, .ref p23, .ref p24, .ref p21, .ref p22, .ref p23, .ref p24, .ref p21, .ref p22, .ref p23, .ref p24]) := by
      rw [← hg]
      exact upd_same
    have n27 : p27 ≠ st := Store.ne A26.S hp27
    clear hg hp27 A26 o26 e26 n26
    walk_at "rd"
    refine ⟨by decide, A27.S, fun way H28 y0 y1 S1 b1 => ?_⟩
    have hla : H28 l = some (.lst xs) := b1.1 _ _ hne (A27.same _ _ (b0.1 _ _ hne hl))
    walk_at "rd"
    refine ⟨l, xs, rfl, .inl (SqL.of hla), ?_⟩
    walk_at "rd"
    refine ⟨by omega, S1, fun j G0 j0 j1 SG0 b2 => ?_⟩
    have hj : j ≤ xs.length := by
      revert j1
      split <;> omega
    have hl0 : G0 l = some (.lst xs) := b2.1 _ _ hne hla
    have BG : ButS st H G0 := ((b0.trans (.of A27.same)).trans b1).trans b2
    have hx0 : ∀ x ∈ xs, It1 st G0 x := fun x hx => (hit x hx).keep S BG
    have od : G0 p27 = some (.lst [.ref p1, .ref p2, .ref p3, .ref p4, .ref p5, .ref p6, .ref p7, .non, .ref p8, .ref p10, .ref p11, .ref p12, .ref p13, .ref p14, .ref p15, .str "read", .ref p18, .int 7, .ref p21, .ref p22, .ref p23, .ref p24, .ref p21, .ref p22, .ref p23, .ref p24, .ref p21, .ref p22, .ref p23, .ref p24]) := (b1.trans b2).1 _ _ n27 o27
    have iod : ∀ x ∈ ([.ref p1, .ref p2, .ref p3, .ref p4, .ref p5, .ref p6, .ref p7, .non, .ref p8, .ref p10, .ref p11, .ref p12, .ref p13, .ref p14, .ref p15, .str "read", .ref p18, .int 7, .ref p21, .ref p22, .ref p23, .ref p24, .ref p21, .ref p22, .ref p23, .ref p24, .ref p21, .ref p22, .ref p23, .ref p24] : List V), It1 st G0 x := fun x hx => (A27.all x ((List.mem_append.mp (show x ∈ ([.ref p1, .ref p2, .ref p3, .ref p4, .ref p5, .ref p6, .ref p7, .non, .ref p8, .ref p10, .ref p11, .ref p12, .ref p13, .ref p14, .ref p15, .str "read", .ref p18, .int 7, .ref p21, .ref p22, .ref p23, .ref p24] : List V) ++ ([.ref p21, .ref p22, .ref p23, .ref p24] ++ [.ref p21, .ref p22, .ref p23, .ref p24]) from hx)).elim id fun z => List.mem_append_right ([.ref p1, .ref p2, .ref p3, .ref p4, .ref p5, .ref p6, .ref p7, .non, .ref p8, .ref p10, .ref p11, .ref p12, .ref p13, .ref p14, .ref p15, .str "read", .ref p18, .int 7] : List V) ((List.mem_append.mp z).elim id id))).keep A27.S (b1.trans b2)
    have lod : ([.ref p1, .ref p2, .ref p3, .ref p4, .ref p5, .ref p6, .ref p7, .non, .ref p8, .ref p10, .ref p11, .ref p12, .ref p13, .ref p14, .ref p15, .str "read", .ref p18, .int 7, .ref p21, .ref p22, .ref p23, .ref p24, .ref p21, .ref p22, .ref p23, .ref p24, .ref p21, .ref p22, .ref p23, .ref p24] : List V).length = 30 := rfl
    have nod : p27 ≠ st := n27
    generalize ([.ref p1, .ref p2, .ref p3, .ref p4, .ref p5, .ref p6, .ref p7, .non, .ref p8, .ref p10, .ref p11, .ref p12, .ref p13, .ref p14, .ref p15, .str "read", .ref p18, .int 7, .ref p21, .ref p22, .ref p23, .ref p24, .ref p21, .ref p22, .ref p23, .ref p24, .ref p21, .ref p22, .ref p23, .ref p24] : List V) = os at od iod lod
    generalize p27 = po at od nod ⊢
    clear A27 o27 n27 b1 b2 S1 b0 hla hl j1 hit S hc0 hc1

    have hj2 : j.toNat ≤ xs.length := by omega
    have lens1 : (cutV xs none (some j)).length = min j.toNat xs.length := cutV_to xs j0
    have lens2 : (cutV xs (some j) none).length = xs.length - min j.toNat xs.length := cutV_from xs j0
    have lens3 : (cutV xs (some (j + 1)) none).length = xs.length - min (j + 1).toNat xs.length := cutV_from xs (by omega)
    have lens4 : (cutV xs (some j) (some (j + 1))).length = min (j + 1).toNat xs.length - min j.toNat xs.length := cutV_in xs j0 (by omega)
    have lens5 : (cutV xs (some (j + 1)) (some (j + 2))).length = min (j + 2).toNat xs.length - min (j + 1).toNat xs.length := cutV_in xs (by omega) (by omega)
    have lens6 : (cutV xs (some (j + 2)) none).length = xs.length - min (j + 2).toNat xs.length := cutV_from xs (by omega)
    walk_at "rd"
    refine ite2 (fun hc => ?_) (fun hc => ?_)
    · clear hc
      walk_at "rd"
      refine ⟨l, xs, rfl, SqL.of hl0, fun v1 hv1 => ?_⟩
      generalize hg : upd G0 v1 _ = G1
      have t1 : ButS st G0 G1 := by
        rw [← hg]
        exact .new hv1
      have T1 : ButS st G0 G1 := ButS.refl.trans t1
      have S1 : Store G1 st := by
        rw [← hg]
        exact SG0.keep (same_new hv1)
      have nv1 : v1 ≠ st := Store.ne SG0 hv1
      have ev1 : G1 v1 = some (.lst (cutV xs none (some j))) := by
        rw [← hg]
        exact upd_same
      clear hg
      have npo := nod
      walk_at "rd"
      refine ⟨st, po, _, rfl, (t1.1 _ _ nod od), npo, by omega, by omega, S1, fun x G2 hxm S2 t2 => ?_⟩
      have T2 : ButS st G0 G2 := T1.trans t2
      have ix : It1 st G2 x := (iod x hxm).keep SG0 T2
      walk_at "rd"
      walk_at "nw"
      intro v2 hv2
      generalize hg : upd G2 v2 _ = G3
      have t3 : ButS st G2 G3 := by
        rw [← hg]
        exact .new hv2
      have T3 : ButS st G0 G3 := T2.trans t3
      have S3 : Store G3 st := by
        rw [← hg]
        exact S2.keep (same_new hv2)
      have nv2 : v2 ≠ st := Store.ne S2 hv2
      have ev2 : G3 v2 = some (.lst ([x])) := by
        rw [← hg]
        exact upd_same
      clear hg
      walk_at "rd"
      refine ⟨v1, v2, _, _, rfl, rfl, (t3.1 _ _ nv1 (t2.1 _ _ nv1 ev1)), ev2, sz_le (by simp only [List.length_append, List.length_cons, List.length_nil, lens1, lens2, lens3, lens4, lens5, lens6]; omega), fun v3 hv3 => ?_⟩
      generalize hg : upd G3 v3 _ = G4
      have t4 : ButS st G3 G4 := by
        rw [← hg]
        exact .new hv3
      have T4 : ButS st G0 G4 := T3.trans t4
      have S4 : Store G4 st := by
        rw [← hg]
        exact S3.keep (same_new hv3)
      have nv3 : v3 ≠ st := Store.ne S3 hv3
      have ev3 : G4 v3 = some (.lst (cutV xs none (some j) ++ [x])) := by
        rw [← hg]
        exact upd_same
      clear hg
      walk_at "rd"
      refine ⟨l, xs, rfl, SqL.of (T4.1 _ _ hne hl0), fun v4 hv4 => ?_⟩
      generalize hg : upd G4 v4 _ = G5
      have t5 : ButS st G4 G5 := by
        rw [← hg]
        exact .new hv4
      have T5 : ButS st G0 G5 := T4.trans t5
      have S5 : Store G5 st := by
        rw [← hg]
        exact S4.keep (same_new hv4)
      have nv4 : v4 ≠ st := Store.ne S4 hv4
      have ev4 : G5 v4 = some (.lst (cutV xs (some j) none)) := by
        rw [← hg]
        exact upd_same
      clear hg
      walk_at "rd"
      refine ⟨v3, v4, _, _, rfl, rfl, (t5.1 _ _ nv3 ev3), ev4, sz_le (by simp only [List.length_append, List.length_cons, List.length_nil, lens1, lens2, lens3, lens4, lens5, lens6]; omega), fun v5 hv5 => ?_⟩
      generalize hg : upd G5 v5 _ = G6
      have t6 : ButS st G5 G6 := by
        rw [← hg]
        exact .new hv5
      have T6 : ButS st G0 G6 := T5.trans t6
      have S6 : Store G6 st := by
        rw [← hg]
        exact S5.keep (same_new hv5)
      have nv5 : v5 ≠ st := Store.ne S5 hv5
      have ev5 : G6 v5 = some (.lst (cutV xs none (some j) ++ [x] ++ cutV xs (some j) none)) := by
        rw [← hg]
        exact upd_same
      clear hg
      walk_at "rd"
      refine q v5 _ _ ev5 ((BG.trans T5).free S5 hv5) (fun y hy => ?_) (by simp only [List.length_append, List.length_cons, List.length_nil, lens1, lens2, lens3, lens4, lens5, lens6]; omega) S6 (BG.trans T6)
      simp only [List.mem_append, List.mem_singleton] at hy
      have fx : ∀ {lo hi : Option Int}, y ∈ cutV xs lo hi → It1 st G6 y := fun h => (hx0 y (cutV_mem h)).keep SG0 T6
      rcases hy with (hy | hy) | hy
      · exact fx hy
      · rw [hy]
        exact ix.keep S2 (((t3.trans t4).trans t5).trans t6)
      · exact fx hy
    walk_at "rd"
    refine ite2 (fun hc => ?_) (fun hc => ?_)
    · clear hc
      walk_at "rd"
      refine ⟨l, xs, rfl, SqL.of hl0, fun v1 hv1 => ?_⟩
      generalize hg : upd G0 v1 _ = G1
      have t1 : ButS st G0 G1 := by
        rw [← hg]
        exact .new hv1
      have T1 : ButS st G0 G1 := ButS.refl.trans t1
      have S1 : Store G1 st := by
        rw [← hg]
        exact SG0.keep (same_new hv1)
      have nv1 : v1 ≠ st := Store.ne SG0 hv1
      have ev1 : G1 v1 = some (.lst (cutV xs none (some j))) := by
        rw [← hg]
        exact upd_same
      clear hg
      have npo := nod
      walk_at "rd"
      refine ⟨st, po, _, rfl, (t1.1 _ _ nod od), npo, by omega, by omega, S1, fun x G2 hxm S2 t2 => ?_⟩
      have T2 : ButS st G0 G2 := T1.trans t2
      have ix : It1 st G2 x := (iod x hxm).keep SG0 T2
      walk_at "rd"
      walk_at "nw"
      intro v2 hv2
      generalize hg : upd G2 v2 _ = G3
      have t3 : ButS st G2 G3 := by
        rw [← hg]
        exact .new hv2
      have T3 : ButS st G0 G3 := T2.trans t3
      have S3 : Store G3 st := by
        rw [← hg]
        exact S2.keep (same_new hv2)
      have nv2 : v2 ≠ st := Store.ne S2 hv2
      have ev2 : G3 v2 = some (.lst ([x])) := by
        rw [← hg]
        exact upd_same
      clear hg
      walk_at "rd"
      refine ⟨v1, v2, _, _, rfl, rfl, (t3.1 _ _ nv1 (t2.1 _ _ nv1 ev1)), ev2, sz_le (by simp only [List.length_append, List.length_cons, List.length_nil, lens1, lens2, lens3, lens4, lens5, lens6]; omega), fun v3 hv3 => ?_⟩
      generalize hg : upd G3 v3 _ = G4
      have t4 : ButS st G3 G4 := by
        rw [← hg]
        exact .new hv3
      have T4 : ButS st G0 G4 := T3.trans t4
      have S4 : Store G4 st := by
        rw [← hg]
        exact S3.keep (same_new hv3)
      have nv3 : v3 ≠ st := Store.ne S3 hv3
      have ev3 : G4 v3 = some (.lst (cutV xs none (some j) ++ [x])) := by
        rw [← hg]
        exact upd_same
      clear hg
      walk_at "rd"
      refine ⟨l, xs, rfl, SqL.of (T4.1 _ _ hne hl0), fun v4 hv4 => ?_⟩
      generalize hg : upd G4 v4 _ = G5
      have t5 : ButS st G4 G5 := by
        rw [← hg]
        exact .new hv4
      have T5 : ButS st G0 G5 := T4.trans t5
      have S5 : Store G5 st := by
        rw [← hg]
        exact S4.keep (same_new hv4)
      have nv4 : v4 ≠ st := Store.ne S4 hv4
      have ev4 : G5 v4 = some (.lst (cutV xs (some (j + 1)) none)) := by
        rw [← hg]
        exact upd_same
      clear hg
      walk_at "rd"
      refine ⟨v3, v4, _, _, rfl, rfl, (t5.1 _ _ nv3 ev3), ev4, sz_le (by simp only [List.length_append, List.length_cons, List.length_nil, lens1, lens2, lens3, lens4, lens5, lens6]; omega), fun v5 hv5 => ?_⟩
      generalize hg : upd G5 v5 _ = G6
      have t6 : ButS st G5 G6 := by
        rw [← hg]
        exact .new hv5
      have T6 : ButS st G0 G6 := T5.trans t6
      have S6 : Store G6 st := by
        rw [← hg]
        exact S5.keep (same_new hv5)
      have nv5 : v5 ≠ st := Store.ne S5 hv5
      have ev5 : G6 v5 = some (.lst (cutV xs none (some j) ++ [x] ++ cutV xs (some (j + 1)) none)) := by
        rw [← hg]
        exact upd_same
      clear hg
      walk_at "rd"
      refine q v5 _ _ ev5 ((BG.trans T5).free S5 hv5) (fun y hy => ?_) (by simp only [List.length_append, List.length_cons, List.length_nil, lens1, lens2, lens3, lens4, lens5, lens6]; omega) S6 (BG.trans T6)
      simp only [List.mem_append, List.mem_singleton] at hy
      have fx : ∀ {lo hi : Option Int}, y ∈ cutV xs lo hi → It1 st G6 y := fun h => (hx0 y (cutV_mem h)).keep SG0 T6
      rcases hy with (hy | hy) | hy
      · exact fx hy
      · rw [hy]
        exact ix.keep S2 (((t3.trans t4).trans t5).trans t6)
      · exact fx hy
    walk_at "rd"
    refine ite2 (fun hc => ?_) (fun hc => ?_)
    · clear hc
      walk_at "rd"
      refine ⟨l, xs, rfl, SqL.of hl0, fun v1 hv1 => ?_⟩
      generalize hg : upd G0 v1 _ = G1
      have t1 : ButS st G0 G1 := by
        rw [← hg]
        exact .new hv1
      have T1 : ButS st G0 G1 := ButS.refl.trans t1
      have S1 : Store G1 st := by
        rw [← hg]
        exact SG0.keep (same_new hv1)
      have nv1 : v1 ≠ st := Store.ne SG0 hv1
      have ev1 : G1 v1 = some (.lst (cutV xs none (some j))) := by
        rw [← hg]
        exact upd_same
      clear hg
      walk_at "rd"
      refine ⟨l, xs, rfl, SqL.of (T1.1 _ _ hne hl0), fun v2 hv2 => ?_⟩
      generalize hg : upd G1 v2 _ = G2
      have t2 : ButS st G1 G2 := by
        rw [← hg]
        exact .new hv2
      have T2 : ButS st G0 G2 := T1.trans t2
      have S2 : Store G2 st := by
        rw [← hg]
        exact S1.keep (same_new hv2)
      have nv2 : v2 ≠ st := Store.ne S1 hv2
      have ev2 : G2 v2 = some (.lst (cutV xs (some (j + 1)) none)) := by
        rw [← hg]
        exact upd_same
      clear hg
      walk_at "rd"
      refine ⟨v1, v2, _, _, rfl, rfl, (t2.1 _ _ nv1 ev1), ev2, sz_le (by simp only [List.length_append, List.length_cons, List.length_nil, lens1, lens2, lens3, lens4, lens5, lens6]; omega), fun v3 hv3 => ?_⟩
      generalize hg : upd G2 v3 _ = G3
      have t3 : ButS st G2 G3 := by
        rw [← hg]
        exact .new hv3
      have T3 : ButS st G0 G3 := T2.trans t3
      have S3 : Store G3 st := by
        rw [← hg]
        exact S2.keep (same_new hv3)
      have nv3 : v3 ≠ st := Store.ne S2 hv3
      have ev3 : G3 v3 = some (.lst (cutV xs none (some j) ++ cutV xs (some (j + 1)) none)) := by
        rw [← hg]
        exact upd_same
      clear hg
      walk_at "rd"
      refine q v3 _ _ ev3 ((BG.trans T2).free S2 hv3) (fun y hy => ?_) (by simp only [List.length_append, List.length_cons, List.length_nil, lens1, lens2, lens3, lens4, lens5, lens6]; omega) S3 (BG.trans T3)
      simp only [List.mem_append, List.mem_singleton] at hy
      have fx : ∀ {lo hi : Option Int}, y ∈ cutV xs lo hi → It1 st G3 y := fun h => (hx0 y (cutV_mem h)).keep SG0 T3
      rcases hy with hy | hy
      · exact fx hy
      · exact fx hy
    walk_at "rd"
    refine ite2 (fun hc => ?_) (fun hc => ?_)
    · clear hc
      walk_at "rd"
      refine ⟨l, xs, rfl, SqL.of hl0, fun v1 hv1 => ?_⟩
      generalize hg : upd G0 v1 _ = G1
      have t1 : ButS st G0 G1 := by
        rw [← hg]
        exact .new hv1
      have T1 : ButS st G0 G1 := ButS.refl.trans t1
      have S1 : Store G1 st := by
        rw [← hg]
        exact SG0.keep (same_new hv1)
      have nv1 : v1 ≠ st := Store.ne SG0 hv1
      have ev1 : G1 v1 = some (.lst (cutV xs none (some j))) := by
        rw [← hg]
        exact upd_same
      clear hg
      walk_at "rd"
      refine ⟨l, xs, rfl, SqL.of (T1.1 _ _ hne hl0), fun v2 hv2 => ?_⟩
      generalize hg : upd G1 v2 _ = G2
      have t2 : ButS st G1 G2 := by
        rw [← hg]
        exact .new hv2
      have T2 : ButS st G0 G2 := T1.trans t2
      have S2 : Store G2 st := by
        rw [← hg]
        exact S1.keep (same_new hv2)
      have nv2 : v2 ≠ st := Store.ne S1 hv2
      have ev2 : G2 v2 = some (.lst (cutV xs (some j) (some (j + 1)))) := by
        rw [← hg]
        exact upd_same
      clear hg
      walk_at "rd"
      refine ⟨v1, v2, _, _, rfl, rfl, (t2.1 _ _ nv1 ev1), ev2, sz_le (by simp only [List.length_append, List.length_cons, List.length_nil, lens1, lens2, lens3, lens4, lens5, lens6]; omega), fun v3 hv3 => ?_⟩
      generalize hg : upd G2 v3 _ = G3
      have t3 : ButS st G2 G3 := by
        rw [← hg]
        exact .new hv3
      have T3 : ButS st G0 G3 := T2.trans t3
      have S3 : Store G3 st := by
        rw [← hg]
        exact S2.keep (same_new hv3)
      have nv3 : v3 ≠ st := Store.ne S2 hv3
      have ev3 : G3 v3 = some (.lst (cutV xs none (some j) ++ cutV xs (some j) (some (j + 1)))) := by
        rw [← hg]
        exact upd_same
      clear hg
      walk_at "rd"
      refine ⟨l, xs, rfl, SqL.of (T3.1 _ _ hne hl0), fun v4 hv4 => ?_⟩
      generalize hg : upd G3 v4 _ = G4
      have t4 : ButS st G3 G4 := by
        rw [← hg]
        exact .new hv4
      have T4 : ButS st G0 G4 := T3.trans t4
      have S4 : Store G4 st := by
        rw [← hg]
        exact S3.keep (same_new hv4)
      have nv4 : v4 ≠ st := Store.ne S3 hv4
      have ev4 : G4 v4 = some (.lst (cutV xs (some j) none)) := by
        rw [← hg]
        exact upd_same
      clear hg
      walk_at "rd"
      refine ⟨v3, v4, _, _, rfl, rfl, (t4.1 _ _ nv3 ev3), ev4, sz_le (by simp only [List.length_append, List.length_cons, List.length_nil, lens1, lens2, lens3, lens4, lens5, lens6]; omega), fun v5 hv5 => ?_⟩
      generalize hg : upd G4 v5 _ = G5
      have t5 : ButS st G4 G5 := by
        rw [← hg]
        exact .new hv5
      have T5 : ButS st G0 G5 := T4.trans t5
      have S5 : Store G5 st := by
        rw [← hg]
        exact S4.keep (same_new hv5)
      have nv5 : v5 ≠ st := Store.ne S4 hv5
      have ev5 : G5 v5 = some (.lst (cutV xs none (some j) ++ cutV xs (some j) (some (j + 1)) ++ cutV xs (some j) none)) := by
        rw [← hg]
        exact upd_same
      clear hg
      walk_at "rd"
      refine q v5 _ _ ev5 ((BG.trans T4).free S4 hv5) (fun y hy => ?_) (by simp only [List.length_append, List.length_cons, List.length_nil, lens1, lens2, lens3, lens4, lens5, lens6]; omega) S5 (BG.trans T5)
      simp only [List.mem_append, List.mem_singleton] at hy
      have fx : ∀ {lo hi : Option Int}, y ∈ cutV xs lo hi → It1 st G5 y := fun h => (hx0 y (cutV_mem h)).keep SG0 T5
      rcases hy with (hy | hy) | hy
      · exact fx hy
      · exact fx hy
      · exact fx hy
    · skip
      walk_at "rd"
      refine ⟨l, xs, rfl, SqL.of hl0, fun v1 hv1 => ?_⟩
      generalize hg : upd G0 v1 _ = G1
      have t1 : ButS st G0 G1 := by
        rw [← hg]
        exact .new hv1
      have T1 : ButS st G0 G1 := ButS.refl.trans t1
      have S1 : Store G1 st := by
        rw [← hg]
        exact SG0.keep (same_new hv1)
      have nv1 : v1 ≠ st := Store.ne SG0 hv1
      have ev1 : G1 v1 = some (.lst (cutV xs none (some j))) := by
        rw [← hg]
        exact upd_same
      clear hg
      walk_at "rd"
      refine ⟨l, xs, rfl, SqL.of (T1.1 _ _ hne hl0), fun v2 hv2 => ?_⟩
      generalize hg : upd G1 v2 _ = G2
      have t2 : ButS st G1 G2 := by
        rw [← hg]
        exact .new hv2
      have T2 : ButS st G0 G2 := T1.trans t2
      have S2 : Store G2 st := by
        rw [← hg]
        exact S1.keep (same_new hv2)
      have nv2 : v2 ≠ st := Store.ne S1 hv2
      have ev2 : G2 v2 = some (.lst (cutV xs (some (j + 1)) (some (j + 2)))) := by
        rw [← hg]
        exact upd_same
      clear hg
      walk_at "rd"
      refine ⟨v1, v2, _, _, rfl, rfl, (t2.1 _ _ nv1 ev1), ev2, sz_le (by simp only [List.length_append, List.length_cons, List.length_nil, lens1, lens2, lens3, lens4, lens5, lens6]; omega), fun v3 hv3 => ?_⟩
      generalize hg : upd G2 v3 _ = G3
      have t3 : ButS st G2 G3 := by
        rw [← hg]
        exact .new hv3
      have T3 : ButS st G0 G3 := T2.trans t3
      have S3 : Store G3 st := by
        rw [← hg]
        exact S2.keep (same_new hv3)
      have nv3 : v3 ≠ st := Store.ne S2 hv3
      have ev3 : G3 v3 = some (.lst (cutV xs none (some j) ++ cutV xs (some (j + 1)) (some (j + 2)))) := by
        rw [← hg]
        exact upd_same
      clear hg
      walk_at "rd"
      refine ⟨l, xs, rfl, SqL.of (T3.1 _ _ hne hl0), fun v4 hv4 => ?_⟩
      generalize hg : upd G3 v4 _ = G4
      have t4 : ButS st G3 G4 := by
        rw [← hg]
        exact .new hv4
      have T4 : ButS st G0 G4 := T3.trans t4
      have S4 : Store G4 st := by
        rw [← hg]
        exact S3.keep (same_new hv4)
      have nv4 : v4 ≠ st := Store.ne S3 hv4
      have ev4 : G4 v4 = some (.lst (cutV xs (some j) (some (j + 1)))) := by
        rw [← hg]
        exact upd_same
      clear hg
      walk_at "rd"
      refine ⟨v3, v4, _, _, rfl, rfl, (t4.1 _ _ nv3 ev3), ev4, sz_le (by simp only [List.length_append, List.length_cons, List.length_nil, lens1, lens2, lens3, lens4, lens5, lens6]; omega), fun v5 hv5 => ?_⟩
      generalize hg : upd G4 v5 _ = G5
      have t5 : ButS st G4 G5 := by
        rw [← hg]
        exact .new hv5
      have T5 : ButS st G0 G5 := T4.trans t5
      have S5 : Store G5 st := by
        rw [← hg]
        exact S4.keep (same_new hv5)
      have nv5 : v5 ≠ st := Store.ne S4 hv5
      have ev5 : G5 v5 = some (.lst (cutV xs none (some j) ++ cutV xs (some (j + 1)) (some (j + 2)) ++ cutV xs (some j) (some (j + 1)))) := by
        rw [← hg]
        exact upd_same
      clear hg
      walk_at "rd"
      refine ⟨l, xs, rfl, SqL.of (T5.1 _ _ hne hl0), fun v6 hv6 => ?_⟩
      generalize hg : upd G5 v6 _ = G6
      have t6 : ButS st G5 G6 := by
        rw [← hg]
        exact .new hv6
      have T6 : ButS st G0 G6 := T5.trans t6
      have S6 : Store G6 st := by
        rw [← hg]
        exact S5.keep (same_new hv6)
      have nv6 : v6 ≠ st := Store.ne S5 hv6
      have ev6 : G6 v6 = some (.lst (cutV xs (some (j + 2)) none)) := by
        rw [← hg]
        exact upd_same
      clear hg
      walk_at "rd"
      refine ⟨v5, v6, _, _, rfl, rfl, (t6.1 _ _ nv5 ev5), ev6, sz_le (by simp only [List.length_append, List.length_cons, List.length_nil, lens1, lens2, lens3, lens4, lens5, lens6]; omega), fun v7 hv7 => ?_⟩
      generalize hg : upd G6 v7 _ = G7
      have t7 : ButS st G6 G7 := by
        rw [← hg]
        exact .new hv7
      have T7 : ButS st G0 G7 := T6.trans t7
      have S7 : Store G7 st := by
        rw [← hg]
        exact S6.keep (same_new hv7)
      have nv7 : v7 ≠ st := Store.ne S6 hv7
      have ev7 : G7 v7 = some (.lst (cutV xs none (some j) ++ cutV xs (some (j + 1)) (some (j + 2)) ++ cutV xs (some j) (some (j + 1)) ++ cutV xs (some (j + 2)) none)) := by
        rw [← hg]
        exact upd_same
      clear hg
      walk_at "rd"
      refine q v7 _ _ ev7 ((BG.trans T6).free S6 hv7) (fun y hy => ?_) (by simp only [List.length_append, List.length_cons, List.length_nil, lens1, lens2, lens3, lens4, lens5, lens6]; omega) S7 (BG.trans T7)
      simp only [List.mem_append, List.mem_singleton] at hy
      have fx : ∀ {lo hi : Option Int}, y ∈ cutV xs lo hi → It1 st G7 y := fun h => (hx0 y (cutV_mem h)).keep SG0 T7
      rcases hy with ((hy | hy) | hy) | hy
      · exact fx hy
      · exact fx hy
      · exact fx hy
      · exact fx hy
end
end K47

set_option Elab.async false
set_option linter.all false
set_option maxRecDepth 100000
set_option maxHeartbeats 4000000
set_option pp.deepTerms false
set_option pp.deepTerms.threshold 12
namespace K47
open PySem PySem.Spec PyProof.Rows L2
local macro_rules | `(tactic| walk_at "ty") => `(tactic| first | exact .base (.int _) | exact .base (.bl _) | exact .base (.str _) | exact .base .non | assumption | exact .base (.tup (by assumption)) | exact .base (.lst (by assumption)))
local macro_rules | `(tactic| walk_at "cm") => `(tactic| first | exact cm_r (by decide) (by decide) | exact cm_l (by decide) (by decide) | exact cm_fmod (by decide) (by decide) | exact cm_r (by omega) (by omega) | exact cm_l (by omega) (by omega))
local macro_rules | `(tactic| walk_at "dv") => `(tactic| first | exact ⟨by decide, by decide⟩ | exact ⟨by omega, by omega⟩)
local macro_rules | `(tactic| walk_at "r1") => `(tactic| first
  | refine ⟨_, rfl, ?_⟩ | refine ⟨_, _, rfl, rfl, ?_⟩ | refine Or.inl ⟨_, rfl, ?_⟩ | refine Or.inr ⟨_, rfl, ?_⟩
  | refine And.intro (a := CMul _ _) (by walk_at "cm") ?_ | refine And.intro (a := CDivN _ _) (by walk_at "dv") ?_ | refine And.intro (a := _ ≠ (0 : Int)) (by first | decide | omega) ?_ | refine And.intro (a := scal _ _ = true) rfl ?_ | refine ⟨_, _, _, _, rfl, rfl, SqL.of (by first | exact upd_same | assumption), rfl, ?_⟩ | refine ⟨_, _, _, _, rfl, rfl, (by first | exact upd_same | assumption), rfl, ?_⟩ | refine ⟨_, _, rfl, ?_⟩ | refine And.intro (a := (_ : V) = V.non) rfl ?_ | refine And.intro (a := CPow _ _) ⟨by decide, by decide, by decide⟩ ?_ | refine And.intro (a := (_ : List V) = []) rfl ?_ | refine ⟨_, _, rfl, SqT.of (by first | exact upd_same | assumption), rfl, ?_⟩
  | refine ⟨_, _, _, _, rfl, rfl, SqT.of (by first | exact upd_same | assumption), rfl, ?_⟩
  | refine ⟨_, _, _, _, true, rfl, ClsV.ty _, (by walk_at "ty"), kit_ty (by decide +kernel), ?_⟩ | refine ⟨_, _, _, _, false, rfl, ClsV.ty _, (by walk_at "ty"), kit_ty (by decide +kernel), ?_⟩)
local macro_rules | `(tactic| walk_at "rd") => `(tactic| repeat walk_at "r1")
local macro_rules | `(tactic| walk_at "yes") => `(tactic| (change (if true = true then _ else _); rw [if_pos rfl]))
local macro_rules | `(tactic| walk_at "no") => `(tactic| (change (if false = true then _ else _); rw [if_neg Bool.false_ne_true]))
local macro_rules | `(tactic| walk_at "nw") => `(tactic| refine And.intro (a := _ ≤ sizeLine) (sz_le (Nat.le_of_ble_eq_true rfl)) ?_)

section
variable {P : Program} {w : World} {K : PySem.W.Frag} {mg : Str → Option Value} {base : Heap}
variable {C_VaultError C_NumberError C_BadPrime C_BadTable C_BadCells C_ShapeError C_PaperError C_BadMove fV fI_BadMove fI_BadCells fI_BadPrime fI_BadTable : Addr}
variable (T : Txt P K mg C_VaultError C_NumberError C_BadPrime C_BadTable C_BadCells C_ShapeError C_PaperError C_BadMove fV fI_BadMove fI_BadCells fI_BadPrime fI_BadTable)
include T
/-- the stops told so far -/
def Kn (H : Hp) (dk : Addr) (N : Nat) : Prop := ∃ kvs : List (List Key × V), H dk = some (.dT kvs) ∧ kvs.length ≤ N ∧ ∀ (n c : Nat) (v : V), valV kvs [Sum.inl (n : Int), Sum.inl ((c + 1 : Nat) : Int)] = some v → ∃ m : Nat, v = .int m ∧ M11.IsStop n c m
def StI (n c : Nat) (dk : Addr) (H1 : Hp) : L2.St → Hp → Prop := fun σ H' => ∃ (m : Nat) (v4 v5 : Option V), σ = [some (.ref dk), some (.int n), some (.int ((c + 1 : Nat) : Int)), some (.int m), v4, v5] ∧ H' = H1 ∧ M11.IsStop n c m
def spStop : Sp := fun vs H Q _ => ∃ (dk : Addr) (a b : Int), vs = [.ref dk, .int a, .int b] ∧ ∃ n c N : Nat, (a = n ∧ b = (c + 1 : Nat)) ∧ 1 ≤ n ∧ n ≤ 120 ∧ c < 120 ∧ N ≤ 1000 ∧ Kn H dk N ∧
  ∀ (m : Nat) H', M11.IsStop n c m → Kn H' dk (N + 1) → But dk H H' → Q (.int m) H'
theorem ok_stop {f : Addr} {fd : FuncData} (F : Fun K "_law_stop" "_law_stop" s_stop f fd) {f_leastups : Addr} {fd_leastups : FuncData} (D_leastups : Def K mg "_law_leastups" s_leastups p_leastups f_leastups fd_leastups) (G_leastups : FnOk P w K mg base CX0 1 f_leastups fd_leastups p_leastups spUps) : FnOk P w K mg base CX0 2 f fd p_stop spStop := by
  refine F.ok sc_stop (fun vs H Q E h => ?_) (fun cdv A outer s H vs Q E hr h => ?_)
  · obtain ⟨t, a, b, rfl, _⟩ := h
    rfl
  · obtain ⟨dk, _, _, rfl, n, c, N, ⟨rfl, rfl⟩, h1, hn, hc, hN, ⟨kvs, ek, kl, kn⟩, q⟩ := h
    refine ⟨_, (pss_mid (ps_if (pt_cmp (pc_din (hu_of hr) (pe_tup (pa_cons (pv 1) (pa_cons (pv 2) pa_nil))) (pv 0))) (pss_one (ps_ret (by exact (pe_dget (hu_of hr) (pv 0) (pe_tup (pa_cons (pv 1) (pa_cons (pv 2) pa_nil))) (fun _ _ => rfl))))) pss_nil)
      (pss_cons (ps_set (i := 3) sc_stop.nd rfl (Or.inl rfl) (by exact (pv 1)))
      (pss_mid (ps_if (pt_cmpR op_gt (pv 2) pe_int (nomark _)) (pss_cons (ps_set (i := 4) sc_stop.nd rfl (Or.inl rfl) (by exact (pe_call G_leastups (hr.mono (by first | decide | omega)) rfl D_leastups.g D_leastups.fn.kp D_leastups.b .nil pass0 (pa_cons (pv 1) (pa_cons (pv 2) pa_nil)))))
          (pss_one (ps_for PassesOwn.never rfl (pi_range2 (by rfl) T.b_range (pa_cons pe_int (pa_cons (pe_op op_add (pv 1) pe_int) pa_nil))) (pg_name (i := 5) sc_stop.nd rfl (Or.inl rfl)) (pss_one (ps_if (pt_cmpR op_eq (pe_op op_add (pe_op op_add (pv 5) (pe_call G_leastups (hr.mono (by first | decide | omega)) rfl D_leastups.g D_leastups.fn.kp D_leastups.b .nil pass0 (pa_cons (pe_op op_sub (pv 1) (pv 5)) (pa_cons (pe_op op_sub (pv 2) pe_int) pa_nil)))) (pe_call G_leastups (hr.mono (by first | decide | omega)) rfl D_leastups.g D_leastups.fn.kp D_leastups.b .nil pass0 (pa_cons (pe_op op_sub (pv 5) pe_int) (pa_cons (pv 2) pa_nil)))) (pv 4) (nomark _)) (pss_cons (ps_set (i := 3) sc_stop.nd rfl (Or.inl rfl) (by exact (pv 5)))
                  (pss_one ps_break)) pss_nil))))) pss_nil)
      (pss_cons (ps_dput (hu_of hr) (pv 0) (pe_tup (pa_cons (pv 1) (pa_cons (pv 2) pa_nil))) (pv 3) rfl)
      (pss_one (ps_ret (by exact (pv 3)))))))), ?_⟩
    walk_at "rd"
    refine ⟨fun σ' H' => σ' = [some (.ref dk), some (.int n), some (.int ((c + 1 : Nat) : Int)), none, none, none] ∧ Same H H', ?_, ?_⟩
    · walk_at "rd"
      walk_at "nw"
      intro t ht
      have s1 : Same H (upd H t (.tup [.int n, .int ((c + 1 : Nat) : Int)])) := same_new ht
      generalize hg : upd H t _ = H1 at s1 ⊢
      have et : H1 t = some (.tup ([Sum.inl (n : Int), Sum.inl ((c + 1 : Nat) : Int)].map kV)) := by rw [← hg]; exact upd_same
      clear hg
      walk_at "r1"
      refine ⟨dk, _, rfl, DGet.t (s1 _ _ ek) et, ?_⟩
      cases hv : valV kvs [Sum.inl (n : Int), Sum.inl ((c + 1 : Nat) : Int)] with
      | none =>
        walk_at "rd"
        exact ⟨rfl, s1⟩
      | some v =>
        obtain ⟨m, rfl, hm⟩ := kn n c v hv
        walk_at "rd"
        walk_at "nw"
        intro t2 ht2
        have s2 : Same H1 (upd H1 t2 (.tup [.int n, .int ((c + 1 : Nat) : Int)])) := same_new ht2
        generalize hg : upd H1 t2 _ = H2 at s2 ⊢
        have et2 : H2 t2 = some (.tup ([Sum.inl (n : Int), Sum.inl ((c + 1 : Nat) : Int)].map kV)) := by rw [← hg]; exact upd_same
        clear hg
        have e2 := s2 _ _ (s1 _ _ ek)
        refine ⟨dk, .int m, rfl, by rw [← hv]; exact DGet.t e2 et2, ?_⟩
        exact q m H2 hm ⟨kvs, e2, by omega, kn⟩ (.of (s1.trans s2))
    rintro σ' H1 ⟨rfl, s1⟩
    walk_at "rd"
    refine ⟨StI n c dk H1, ?_, ?_⟩
    · walk_at "rd"
      refine ite2 (fun hc2 => ?_) (fun hc2 => ?_)
      · have hc3 := of_decide_eq_true hc2
        obtain ⟨k, rfl⟩ : ∃ k, c = k + 1 := ⟨c - 1, by omega⟩
        walk_at "rd"
        refine ⟨n, k + 1, ⟨rfl, rfl⟩, by omega, by omega, ?_⟩
        walk_at "rd"
        refine ⟨⟨by omega, by omega, by omega, by omega⟩, ?_⟩
        rw [show ((n : Int) + 1 - 1).toNat = n by omega]
        refine for_range (fun i σ H' => ∃ v5 : Option V, σ = [some (.ref dk), some (.int n), some (.int ((k + 1 + 1 : Nat) : Int)), some (.int n), some (.int (M11.T n (k + 1 + 1))), v5] ∧ H' = H1 ∧ ∀ j, 1 ≤ j → j ≤ i → M11.sm n (k + 1) j ≠ some (M11.T n (k + 1 + 1))) ⟨none, rfl, rfl, fun j h1 h2 => by omega⟩ ?_ ?_
        · rintro i σ H' hi ⟨v, rfl, rfl, hno⟩
          walk_at "rd"
          refine ⟨n - (i + 1), k, ⟨by omega, by omega⟩, by omega, by omega, ?_⟩
          walk_at "rd"
          refine ⟨i, k + 1, ⟨by omega, rfl⟩, by omega, by omega, ?_⟩
          walk_at "rd"
          have sm : M11.sm n (k + 1) (i + 1) = some (((i + 1 : Nat) : Int) + M11.T (n - (i + 1)) (k + 1) + M11.T i (k + 1 + 1)) := by
            unfold M11.sm
            rw [if_neg (Nat.succ_ne_zero k), Nat.add_sub_cancel]
          refine ite2 (fun hc => ?_) (fun hc => ?_)
          · have e := V.int.inj (of_decide_eq_true hc)
            walk_at "rd"
            have e1 : (1 : Int) + (i : Int) = ((i + 1 : Nat) : Int) := by omega
            rw [e1]
            refine ⟨i + 1, _, _, rfl, rfl, by omega, by omega, ?_, fun j j1 j2 => hno j j1 (by omega)⟩
            rw [sm]
            congr 1
            have e2 : (1 : Int) + (i : Int) + M11.T (n - (i + 1)) (k + 1) + M11.T i (k + 1 + 1) = M11.T n (k + 1 + 1) := e
            omega
          · refine ⟨_, rfl, rfl, fun j j1 j2 => ?_⟩
            rcases Nat.lt_or_ge i j with z | z
            · obtain rfl : j = i + 1 := by omega
              rw [sm]
              intro z
              refine of_ndec hc (congrArg V.int ?_)
              have z := Option.some.inj z
              show (1 : Int) + (i : Int) + M11.T (n - (i + 1)) (k + 1) + M11.T i (k + 1 + 1) = M11.T n (k + 1 + 1)
              omega
            · exact hno j j1 z
        · rintro σ H' ⟨v, rfl, rfl, hno⟩
          exact absurd (M11.stop_more h1 hno) (Nat.lt_irrefl n)
      · have : c = 0 := by
          have := of_ndec hc2
          omega
        subst this
        exact ⟨n, none, none, rfl, rfl, M11.stop_1 h1⟩
    · rintro σ' H' ⟨m, v4, v5, rfl, rfl, hm⟩
      walk_at "rd"
      walk_at "nw"
      intro t ht
      have s2 : Same H' (upd H' t (.tup [.int n, .int ((c + 1 : Nat) : Int)])) := same_new ht
      generalize hg : upd H' t _ = H2 at s2 ⊢
      have et : H2 t = some (.tup ([Sum.inl (n : Int), Sum.inl ((c + 1 : Nat) : Int)].map kV)) := by rw [← hg]; exact upd_same
      clear hg
      have e2 := s2 _ _ (s1 _ _ ek)
      refine ⟨dk, _, rfl, DPut.t e2 et (sz_lt (by omega)), ?_⟩
      walk_at "rd"
      refine q m _ hm ⟨_, upd_same, Nat.le_trans ?_ (Nat.succ_le_succ kl), fun n' c' v hv => ?_⟩ ((But.of (s1.trans s2)).trans .set)
      · unfold putK
        split
        · rw [List.length_map]
          omega
        · rw [List.length_append]
          exact Nat.le_refl _
      · rw [valV_put] at hv
        split at hv
        · next e =>
          cases hv
          have e1 := Sum.inl.inj (List.cons.inj e).1
          have e2 := Sum.inl.inj (List.cons.inj (List.cons.inj e).2).1
          obtain rfl : n' = n := by omega
          obtain rfl : c' = c := by omega
          exact ⟨m, rfl, hm⟩
        · exact kn n' c' v hv
end
end K47

set_option Elab.async false
set_option linter.all false
set_option maxRecDepth 100000
set_option maxHeartbeats 4000000
set_option pp.deepTerms false
set_option pp.deepTerms.threshold 12
namespace K47
open PySem PySem.Spec PyProof.Rows L2
local macro_rules | `(tactic| walk_at "ty") => `(tactic| first | exact .base (.int _) | exact .base (.bl _) | exact .base (.str _) | exact .base .non | assumption | exact .base (.tup (by assumption)) | exact .base (.lst (by assumption)))
local macro_rules | `(tactic| walk_at "cm") => `(tactic| first | exact cm_r (by decide) (by decide) | exact cm_l (by decide) (by decide) | exact cm_fmod (by decide) (by decide) | exact cm_r (by omega) (by omega) | exact cm_l (by omega) (by omega))
local macro_rules | `(tactic| walk_at "dv") => `(tactic| first | exact ⟨by decide, by decide⟩ | exact ⟨by omega, by omega⟩)
local macro_rules | `(tactic| walk_at "r1") => `(tactic| first
  | refine ⟨_, rfl, ?_⟩ | refine ⟨_, _, rfl, rfl, ?_⟩ | refine Or.inl ⟨_, rfl, ?_⟩ | refine Or.inr ⟨_, rfl, ?_⟩
  | refine And.intro (a := CMul _ _) (by walk_at "cm") ?_ | refine And.intro (a := CDivN _ _) (by walk_at "dv") ?_ | refine And.intro (a := _ ≠ (0 : Int)) (by first | decide | omega) ?_ | refine And.intro (a := scal _ _ = true) rfl ?_ | refine ⟨_, _, _, _, rfl, rfl, SqL.of (by first | exact upd_same | assumption), rfl, ?_⟩ | refine ⟨_, _, _, _, rfl, rfl, (by first | exact upd_same | assumption), rfl, ?_⟩ | refine ⟨_, _, rfl, ?_⟩ | refine And.intro (a := (_ : V) = V.non) rfl ?_ | refine And.intro (a := CPow _ _) ⟨by decide, by decide, by decide⟩ ?_ | refine And.intro (a := (_ : List V) = []) rfl ?_ | refine ⟨_, _, rfl, SqT.of (by first | exact upd_same | assumption), rfl, ?_⟩
  | refine ⟨_, _, _, _, rfl, rfl, SqT.of (by first | exact upd_same | assumption), rfl, ?_⟩
  | refine ⟨_, _, _, _, true, rfl, ClsV.ty _, (by walk_at "ty"), kit_ty (by decide +kernel), ?_⟩ | refine ⟨_, _, _, _, false, rfl, ClsV.ty _, (by walk_at "ty"), kit_ty (by decide +kernel), ?_⟩)
local macro_rules | `(tactic| walk_at "rd") => `(tactic| repeat walk_at "r1")
local macro_rules | `(tactic| walk_at "yes") => `(tactic| (change (if true = true then _ else _); rw [if_pos rfl]))
local macro_rules | `(tactic| walk_at "no") => `(tactic| (change (if false = true then _ else _); rw [if_neg Bool.false_ne_true]))
local macro_rules | `(tactic| walk_at "nw") => `(tactic| refine And.intro (a := _ ≤ sizeLine) (sz_le (Nat.le_of_ble_eq_true rfl)) ?_)

section
variable {P : Program} {w : World} {K : PySem.W.Frag} {mg : Str → Option Value} {base : Heap}
variable {C_VaultError C_NumberError C_BadPrime C_BadTable C_BadCells C_ShapeError C_PaperError C_BadMove fV fI_BadMove fI_BadCells fI_BadPrime fI_BadTable : Addr}
variable (T : Txt P K mg C_VaultError C_NumberError C_BadPrime C_BadTable C_BadCells C_ShapeError C_PaperError C_BadMove fV fI_BadMove fI_BadCells fI_BadPrime fI_BadTable)
include T
omit T in
theorem IsU.tk {H H' : Hp} {v : V} {m : Mv} (h : IsU H v m) (s : TK H H') : IsU H' v m := by
  cases h with
  | up t a b h => exact .up t a b (s _ _ h)
  | read t a h => exact .read t a (s _ _ h)
omit T in
theorem IsUs.tk {H H' : Hp} {xs : List V} {ms : List Mv} (h : Paired (IsU H) xs ms) (s : TK H H') : Paired (IsU H') xs ms := Us.map h fun _ _ h => h.tk s
/-- an open problem, or a read that is due: how many turns it takes, and its moves -/
inductive Opn (many : Int) (H : Hp) : V → Nat → List Mv → Prop
  | prob (t : Addr) (size c : Nat) (o f : Int) (ms : List Mv) (h : H t = some (.tup [.int size, .int o, .int f, .int 0])) (hz : size ≤ 120) (hc : size = 0 ∨ f + c = many) (hf : 1 ≤ f) (b : Best size c o f ms) : Opn many H (.ref t) (3 * size + 1) ms
  | read (t : Addr) (f : Int) (f0 : 1 ≤ f) (h : H t = some (.tup [.int 0, .int 0, .int 0, .int f])) : Opn many H (.ref t) 1 [.read f]
inductive Stk (many : Int) (H : Hp) : List V → Nat → List Mv → Prop
  | nil : Stk many H [] 0 []
  | snoc (xs : List V) (x : V) (w w1 : Nat) (ms m1 : List Mv) (s : Stk many H xs w ms) (o : Opn many H x w1 m1) : Stk many H (xs ++ [x]) (w1 + w) (m1 ++ ms)
omit T in
theorem Opn.tk {many : Int} {H H' : Hp} {x : V} {w : Nat} {ms : List Mv} (h : Opn many H x w ms) (s : TK H H') : Opn many H' x w ms := by
  cases h with
  | prob t size c o f ms h hz hc hf b => exact .prob t size c o f ms (s _ _ h) hz hc hf b
  | read t f f0 h => exact .read t f f0 (s _ _ h)
omit T in
theorem Opn.pos {many : Int} {H : Hp} {x : V} {w : Nat} {ms : List Mv} (h : Opn many H x w ms) : 1 ≤ w := by
  cases h <;> omega
omit T in
theorem Stk.tk {many : Int} {H H' : Hp} {xs : List V} {w : Nat} {ms : List Mv} (h : Stk many H xs w ms) (s : TK H H') : Stk many H' xs w ms := by
  induction h with
  | nil => exact .nil
  | snoc xs x w w1 ms m1 _ o ih => exact .snoc xs x w w1 ms m1 ih (o.tk s)
omit T in
theorem Stk.len {many : Int} {H : Hp} {xs : List V} {w : Nat} {ms : List Mv} (h : Stk many H xs w ms) : xs.length ≤ w := by
  induction h with
  | nil => exact Nat.le_refl 0
  | snoc xs x w w1 ms m1 _ o ih =>
    have := o.pos
    rw [List.length_append]
    show xs.length + 1 ≤ w1 + w
    omega
omit T in
theorem Stk.empty {many : Int} {H : Hp} {w : Nat} {ms : List Mv} (h : Stk many H [] w ms) : ms = [] := by
  generalize e : ([] : List V) = xs at h
  cases h with
  | nil => rfl
  | snoc xs x w w1 ms m1 _ o => exact absurd e.symm (by simp)
omit T in
/-- the last one -/
theorem Stk.top {many : Int} {H : Hp} {xs : List V} {w : Nat} {ms : List Mv} (h : Stk many H xs w ms) (hne : xs ≠ []) : ∃ ys x w0 w1 m0 m1, xs = ys ++ [x] ∧ w = w1 + w0 ∧ ms = m1 ++ m0 ∧ Stk many H ys w0 m0 ∧ Opn many H x w1 m1 := by
  cases h with
  | nil => exact absurd rfl hne
  | snoc xs x w w1 ms m1 s o => exact ⟨xs, x, w, w1, ms, m1, rfl, rfl, rfl, s, o⟩
omit T in
theorem Best.split {n c s : Nat} {o f : Int} {ms : List Mv} (h : Best n c o f ms) (h1 : 1 ≤ n) (hs : M11.IsStop n c s) :
    ∃ (xr yr : List Mv) (k : Nat), ms = .up o f :: (List.replicate (s - 1) (.up f f) ++ (xr ++ (.read f :: yr))) ∧ (n - s = 0 ∨ k + 1 = c) ∧ Best (n - s) k f (f + 1) xr ∧ Best (s - 1) c o f yr ∧ 1 ≤ s ∧ s ≤ n := by
  cases h with
  | nil => omega
  | last _ s' _ _ ys h b =>
    obtain rfl : s = s' := hs.uniq h
    have e : s = n := h.uniq (M11.stop_1 h1)
    refine ⟨[], ys, 0, rfl, .inl (by omega), ?_, b, h.lo, h.hi⟩
    rw [show n - s = 0 by omega]
    exact .nil 0 f (f + 1)
  | more _ k s' _ _ xs ys h a b =>
    obtain rfl : s = s' := hs.uniq h
    exact ⟨xs, ys, k, rfl, .inr rfl, a, b, h.lo, h.hi⟩
/-- the two lists at work, and the stops told so far -/
structure LS (H0 : Hp) (po pt dk : Addr) (ys zs : List V) (N : Nat) (H : Hp) : Prop where
  po0 : H0 po = none
  pt0 : H0 pt = none
  dk0 : H0 dk = none
  sm : Same H0 H
  eo : H po = some (.lst ys)
  et : H pt = some (.lst zs)
  ne : po ≠ pt
  kn : Kn H dk N
omit T in
theorem Kn.same {H H' : Hp} {dk : Addr} {N : Nat} (k : Kn H dk N) (s : Same H H') : Kn H' dk N := by
  obtain ⟨kvs, e, l, h⟩ := k
  exact ⟨kvs, s _ _ e, l, h⟩
omit T in
theorem Kn.mut {H : Hp} {dk p : Addr} {N : Nat} {xs ys : List V} (k : Kn H dk N) (e : H p = some (.lst xs)) : Kn (upd H p (.lst ys)) dk N := by
  obtain ⟨kvs, e1, l, h⟩ := k
  exact ⟨kvs, by rw [upd_ne fun z => by rw [z, e] at e1; cases e1]; exact e1, l, h⟩
omit T in
theorem Kn.ne {H : Hp} {dk p : Addr} {N : Nat} {xs : List V} (k : Kn H dk N) (e : H p = some (.lst xs)) : p ≠ dk := fun z => by
  obtain ⟨kvs, e1, _⟩ := k
  rw [← z, e] at e1
  cases e1
omit T in
theorem LS.new {H0 H : Hp} {po pt dk t : Addr} {ys zs : List V} {N : Nat} {o : HO} (x : LS H0 po pt dk ys zs N H) (ht : H t = none) : LS H0 po pt dk ys zs N (upd H t o) ∧ TK H (upd H t o) :=
  ⟨⟨x.po0, x.pt0, x.dk0, x.sm.trans (same_new ht), same_new ht _ _ x.eo, same_new ht _ _ x.et, x.ne, x.kn.same (same_new ht)⟩, TK.of (same_new ht)⟩
omit T in
theorem LS.setT {H0 H : Hp} {po pt dk : Addr} {ys zs zs' : List V} {N : Nat} (x : LS H0 po pt dk ys zs N H) : LS H0 po pt dk ys zs' N (upd H pt (.lst zs')) ∧ TK H (upd H pt (.lst zs')) :=
  ⟨⟨x.po0, x.pt0, x.dk0, x.sm.mut x.pt0, by rw [upd_ne x.ne]; exact x.eo, upd_same, x.ne, x.kn.mut x.et⟩, TK.mut x.et⟩
omit T in
theorem LS.setO {H0 H : Hp} {po pt dk : Addr} {ys zs ys' : List V} {N : Nat} (x : LS H0 po pt dk ys zs N H) : LS H0 po pt dk ys' zs N (upd H po (.lst ys')) ∧ TK H (upd H po (.lst ys')) :=
  ⟨⟨x.po0, x.pt0, x.dk0, x.sm.mut x.po0, upd_same, by rw [upd_ne (Ne.symm x.ne)]; exact x.et, x.ne, x.kn.mut x.eo⟩, TK.mut x.eo⟩
omit T in
theorem LS.swap {H0 H : Hp} {po pt dk p : Addr} {ys zs zs' : List V} {N : Nat} (x : LS H0 po pt dk ys zs N H) (hp : H p = none) : LS H0 po p dk ys zs' N (upd H p (.lst zs')) ∧ TK H (upd H p (.lst zs')) :=
  ⟨⟨x.po0, same_free hp x.sm, x.dk0, x.sm.trans (same_new hp), same_new hp _ _ x.eo, upd_same, (fun z => by rw [← z, x.eo] at hp; cases hp), x.kn.same (same_new hp)⟩, TK.of (same_new hp)⟩
omit T in
theorem LS.swapO {H0 H : Hp} {po pt dk p : Addr} {ys zs ys' : List V} {N : Nat} (x : LS H0 po pt dk ys zs N H) (hp : H p = none) : LS H0 p pt dk ys' zs N (upd H p (.lst ys')) ∧ TK H (upd H p (.lst ys')) :=
  ⟨⟨same_free hp x.sm, x.pt0, x.dk0, x.sm.trans (same_new hp), upd_same, same_new hp _ _ x.et, (fun z => by rw [z, x.et] at hp; cases hp), x.kn.same (same_new hp)⟩, TK.of (same_new hp)⟩
omit T in
theorem LS.told {H0 H H' : Hp} {po pt dk : Addr} {ys zs : List V} {N M : Nat} (x : LS H0 po pt dk ys zs N H) (b : But dk H H') (k : Kn H' dk M) : LS H0 po pt dk ys zs M H' ∧ TK H H' :=
  ⟨⟨x.po0, x.pt0, x.dk0, fun c o h => b c o (fun z => by rw [z, x.dk0] at h; cases h) (x.sm c o h), b _ _ (x.kn.ne x.eo) x.eo, b _ _ (x.kn.ne x.et) x.et, x.ne, k⟩, fun t xs h => b _ _ (fun z => by
    obtain ⟨kvs, e1, _⟩ := x.kn
    rw [← z, h] at e1
    cases e1) h⟩
omit T in
theorem LS.step {H0 H : Hp} {po pt dk : Addr} {ys zs : List V} {N : Nat} (x : LS H0 po pt dk ys zs N H) : LS H0 po pt dk ys zs (N + 1) H := by
  obtain ⟨kvs, e, l, h⟩ := x.kn
  exact { x with kn := ⟨kvs, e, by omega, h⟩ }
def LoI (N many : Nat) (dk : Addr) (ms : List Mv) (H : Hp) (i : Nat) : L2.St → Hp → Prop := fun σ H' => ∃ (po pt : Addr) (st zs : List V) (w : Nat) (done rest : List Mv) (v5 v6 v7 v8 v9 v10 : Option V),
  σ = [some (.int N), some (.int many), some (.ref dk), some (.ref pt), some (.ref po), v5, v6, v7, v8, v9, v10] ∧ LS H po pt dk st zs i H' ∧
  Paired (IsU H') zs done ∧ Stk many H' st w rest ∧ ms = done ++ rest ∧ w + i ≤ 3 * N + 1
def LoE (N many : Nat) (dk : Addr) (ms : List Mv) (H : Hp) : L2.St → Hp → Prop := fun σ H' => ∃ (po pt : Addr) (zs : List V) (v5 v6 v7 v8 v9 v10 : Option V),
  σ = [some (.int N), some (.int many), some (.ref dk), some (.ref pt), some (.ref po), v5, v6, v7, v8, v9, v10] ∧ H pt = none ∧ Same H H' ∧ H' pt = some (.lst zs) ∧ Paired (IsU H') zs ms
def spListOf : Sp := fun vs H Q _ => ∃ a b : Int, vs = [.int a, .int b] ∧ ∃ n c : Nat, (a = n ∧ b = (c + 1 : Nat)) ∧ n ≤ 120 ∧ c < 120 ∧ spMoves n c H Q
theorem ok_movesdue {f : Addr} {fd : FuncData} (F : Fun K "_law_movesdue" "_law_movesdue" s_movesdue f fd) {f_stop : Addr} {fd_stop : FuncData} (D_stop : Def K mg "_law_stop" s_stop p_stop f_stop fd_stop) (G_stop : FnOk P w K mg base CX0 2 f_stop fd_stop p_stop spStop) : FnOk P w K mg base CX0 3 f fd p_movesdue spListOf := by
  refine F.ok sc_movesdue (fun vs H Q E h => ?_) (fun cdv A outer s H vs Q E hr h => ?_)
  · obtain ⟨a, b, rfl, _⟩ := h
    rfl
  · obtain ⟨_, _, rfl, n, c, ⟨rfl, rfl⟩, hn, hc, q⟩ := h
    refine ⟨_, (pss_cons (ps_set (i := 2) sc_movesdue.nd rfl (Or.inl rfl) (by exact pe_dnewT))
      (pss_cons (ps_set (i := 3) sc_movesdue.nd rfl (Or.inl rfl) (by exact (pe_lst pa_nil)))
      (pss_cons (ps_set (i := 4) sc_movesdue.nd rfl (Or.inl rfl) (by exact (pe_lst (pa_cons (pe_tup (pa_cons (pv 0) (pa_cons pe_int (pa_cons pe_int (pa_cons pe_int pa_nil))))) pa_nil))))
      (pss_mid (ps_for PassesOwn.never rfl (pi_range1 (by rfl) T.b_range (pa_cons pe_int pa_nil)) (pg_name (i := 5) sc_movesdue.nd rfl (Or.inl rfl)) (pss_mid (ps_if (pt_cmpR op_eq (pe_callB call_len_seq (by rfl) T.b_len (by first | exact PySem.boot_len | decide +kernel) (pa_cons (pv 4) pa_nil)) pe_int (nomark _)) (pss_one ps_break) pss_nil)
          (pss_cons (ps_asg (by exact (pe_bm0 PySem.F.plainAttrs_list PySem.F.slot_list_pop PySem.F.type_list_pop mt_pop (pv 4))) (pg_tup rfl (pgs_cons (pg_name (i := 6) sc_movesdue.nd rfl (Or.inl rfl)) (pgs_cons (pg_name (i := 7) sc_movesdue.nd rfl (Or.inl rfl)) (pgs_cons (pg_name (i := 8) sc_movesdue.nd rfl (Or.inl rfl)) (pgs_cons (pg_name (i := 9) sc_movesdue.nd rfl (Or.inl rfl)) pgs_nil))))))
          (pss_one (ps_if (pt_cmpR op_gt (pv 9) pe_int (nomark _)) (pss_one (ps_expr (pe_bm PySem.F.plainAttrs_list PySem.F.slot_list_append PySem.F.type_list_append mt_append (pv 3) (pa_cons (pe_tup (pa_cons pe_str (pa_cons (pv 9) pa_nil))) pa_nil)))) (pss_one (ps_if (pt_cmpR op_gt (pv 6) pe_int (nomark _)) (pss_cons (ps_set (i := 10) sc_movesdue.nd rfl (Or.inl rfl) (by exact (pe_call G_stop (hr.mono (by first | decide | omega)) rfl D_stop.g D_stop.fn.kp D_stop.b .nil pass0 (pa_cons (pv 2) (pa_cons (pv 6) (pa_cons (pe_op op_add (pe_op op_sub (pv 1) (pv 8)) pe_int) pa_nil))))))
                  (pss_cons (ps_set (i := 3) sc_movesdue.nd rfl (Or.inl rfl) (by exact (pe_op op_cat (pe_op op_cat (pv 3) (pe_lst (pa_cons (pe_tup (pa_cons pe_str (pa_cons (pv 7) (pa_cons (pv 8) pa_nil)))) pa_nil))) (pe_op op_rep (pe_lst (pa_cons (pe_tup (pa_cons pe_str (pa_cons (pv 8) (pa_cons (pv 8) pa_nil)))) pa_nil)) (pe_op op_sub (pv 10) pe_int)))))
                  (pss_one (ps_set (i := 4) sc_movesdue.nd rfl (Or.inl rfl) (by exact (pe_op op_cat (pv 4) (pe_lst (pa_cons (pe_tup (pa_cons (pe_op op_sub (pv 10) pe_int) (pa_cons (pv 7) (pa_cons (pv 8) (pa_cons pe_int pa_nil))))) (pa_cons (pe_tup (pa_cons pe_int (pa_cons pe_int (pa_cons pe_int (pa_cons (pv 8) pa_nil))))) (pa_cons (pe_tup (pa_cons (pe_op op_sub (pv 6) (pv 10)) (pa_cons (pv 8) (pa_cons (pe_op op_add (pv 8) pe_int) (pa_cons pe_int pa_nil))))) pa_nil)))))))))) pss_nil)))))))
      (pss_one (ps_ret (by exact (pv 3)))))))), ?_⟩
    walk_at "rd"
    intro dk hdk
    obtain ⟨ms, hb⟩ := Best.ex n n (Nat.le_refl _) c 0 1
    have hlen := hb.len
    have hT := T_small (c := c) hn
    have hml : ms.length ≤ 14640 := by omega
    have h1 : Same H (upd H dk (.dT [])) := same_new hdk
    generalize hg : upd H dk _ = H1 at h1 ⊢
    have ed : H1 dk = some (.dT []) := by rw [← hg]; exact upd_same
    clear hg
    walk_at "rd"
    walk_at "nw"
    intro pt hpt
    have h2 : Same H1 (upd H1 pt (.lst [])) := same_new hpt
    generalize hg : upd H1 pt _ = H2 at h2 ⊢
    have ept : H2 pt = some (.lst []) := by rw [← hg]; exact upd_same
    clear hg
    walk_at "rd"
    walk_at "nw"
    intro t0 ht0
    have h3 : Same H2 (upd H2 t0 (.tup [.int n, .int 0, .int 1, .int 0])) := same_new ht0
    generalize hg : upd H2 t0 _ = H3 at h3 ⊢
    have et0 : H3 t0 = some (.tup [.int n, .int 0, .int 1, .int 0]) := by rw [← hg]; exact upd_same
    clear hg
    walk_at "rd"
    walk_at "nw"
    intro po hpo
    have h4 : Same H3 (upd H3 po (.lst [.ref t0])) := same_new hpo
    generalize hg : upd H3 po _ = HB at h4 ⊢
    have epo : HB po = some (.lst [.ref t0]) := by rw [← hg]; exact upd_same
    clear hg
    have s24 := h3.trans h4
    have base : LoI n (c + 1) dk ms H 0 [some (.int n), some (.int ((c + 1 : Nat) : Int)), some (.ref dk), some (.ref pt), some (.ref po), none, none, none, none, none, none] HB :=
      ⟨po, pt, [.ref t0], [], 3 * n + 1 + 0, [], ms ++ [], none, none, none, none, none, none, rfl, ⟨same_free hpo ((h1.trans h2).trans h3), same_free hpt h1, hdk, ((h1.trans h2).trans h3).trans h4, epo, s24 _ _ ept, (fun z => by
        have := h3 _ _ ept
        rw [← z, hpo] at this
        cases this), ⟨[], s24 _ _ (h2 _ _ ed), Nat.le_refl 0, fun _ _ _ h => (nomatch h)⟩⟩, .nil, .snoc [] _ _ _ _ _ .nil (.prob t0 n c 0 1 ms (h4 _ _ et0) hn (.inr (by omega)) (by decide) hb), by rw [List.append_nil]; rfl, by omega⟩
    clear hpo hpt ht0 h1 h2 h3 h4 s24 ed ept et0 epo
    walk_at "rd"
    refine ⟨LoE n (c + 1) dk ms H, ?_, ?_⟩
    · walk_at "rd"
      refine ⟨by omega, by omega, ?_⟩
      rw [show (500 : Int).toNat = 500 from rfl]
      refine for_range (fun i σ H' => LoI n (c + 1) dk ms H i σ H') base ?_ ?_
      · clear base po pt t0 HB H1 H2 H3
        rintro i σ H' hi ⟨po, pt, st, zs, w, done, rest, v5, v6, v7, v8, v9, v10, rfl, L0, u, sk, hms, hw⟩
        walk_at "rd"
        refine ⟨fun σ' H'' => σ' = [some (.int n), some (.int ((c + 1 : Nat) : Int)), some (.ref dk), some (.ref pt), some (.ref po), some (.int (0 + i)), v6, v7, v8, v9, v10] ∧ H'' = H' ∧ st ≠ [], ?_, ?_⟩
        · walk_at "rd"
          refine ⟨po, st, rfl, .inl (SqL.of L0.eo), ?_⟩
          walk_at "rd"
          refine ite2 (fun hc => ?_) (fun hc => ?_)
          · have hst : st = [] := by
              have e := V.int.inj (of_decide_eq_true hc)
              exact List.eq_nil_of_length_eq_zero (by omega)
            subst hst
            obtain rfl := sk.empty
            walk_at "rd"
            exact ⟨po, pt, zs, _, _, _, _, _, _, rfl, L0.pt0, L0.sm, L0.et, by rw [hms, List.append_nil]; exact u⟩
          · exact ⟨rfl, rfl, fun z => of_ndec hc (by rw [z]; rfl)⟩
        rintro σ' H'' ⟨rfl, rfl, hst⟩
        obtain ⟨ys, x, w0, w1, m0, m1, rfl, rfl, rfl, sk0, ox⟩ := sk.top hst
        have lys := sk0.len
        walk_at "rd"
        refine ⟨.inl ⟨rfl, _, SqL.of L0.eo⟩, po, _, x, rfl, rfl, L0.eo, by rw [List.length_append]; simp, ?_⟩
        rw [List.dropLast_concat]
        obtain ⟨L1, k1⟩ := L0.setO (ys' := ys)
        generalize upd H'' po _ = H1 at L1 k1 ⊢
        have u1 := IsUs.tk u k1
        have sk1 := sk0.tk k1
        have ox1 := ox.tk k1
        have hzl : zs.length = done.length := u1.length
        have hdl : done.length + (m1.length + m0.length) ≤ 14640 := by
          have := hml
          rw [hms, List.length_append, List.length_append] at this
          omega
        clear u sk0 ox k1 sk hst L0
        cases ox1 with
        | read t f f0 ht =>
          refine ⟨t, _, rfl, SqT.of ht, rfl, ?_⟩
          walk_at "rd"
          refine ite2 (fun hc => ?_) (fun hc => absurd f0 (of_ndec hc))
          walk_at "rd"
          refine ⟨.inl ⟨rfl, _, SqL.of L1.et⟩, ?_⟩
          walk_at "rd"
          walk_at "nw"
          intro t2 ht2
          obtain ⟨L2', k2⟩ := L1.new (o := .tup [.str "read", .int f]) ht2
          refine ⟨pt, _, _, rfl, rfl, L2'.et, sz_lt (by omega), ?_⟩
          obtain ⟨L3, k3⟩ := L2'.setT (zs' := zs ++ [.ref t2])
          have kk := k2.trans k3
          have r3 : IsU (upd (upd H1 t2 (.tup [.str "read", .int f])) pt (.lst (zs ++ [.ref t2]))) (.ref t2) (.read f) := .read t2 f (k3 _ _ upd_same)
          exact ⟨po, pt, ys, zs ++ [.ref t2], w0, done ++ [.read f], m0, _, _, _, _, _, _, rfl, L3.step, Us.app (IsUs.tk u1 kk) (.cons r3 .nil), sk1.tk kk, by rw [hms, List.append_assoc], by omega⟩
        | prob t size c' o f ms' ht hsz hcc hff hb' =>
          refine ⟨t, _, rfl, SqT.of ht, rfl, ?_⟩
          walk_at "rd"
          refine ite2 (fun hc => ?_) (fun hc => ?_)
          · have hpos : 0 < (size : Int) := of_decide_eq_true hc
            have hf2 : f + c' = ((c + 1 : Nat) : Int) := hcc.elim (fun z => by omega) id
            have hsn : size ≤ n := by omega
            walk_at "rd"
            refine ⟨dk, _, _, rfl, size, c', i, ⟨rfl, by omega⟩, by omega, hsz, by omega, by omega, L1.kn, fun s G1 hs kn1 b1 => ?_⟩
            obtain ⟨G, kG⟩ := L1.told b1 kn1
            replace u1 := IsUs.tk u1 kG
            replace sk1 := sk1.tk kG
            clear L1 b1 kn1 kG
            obtain ⟨xr, yr, k, rfl, hk, hxr, hyr, hs1, hs2⟩ := hb'.split (by omega) hs
            have hl1 : (Mv.up o f :: (List.replicate (s - 1) (Mv.up f f) ++ (xr ++ (Mv.read f :: yr)))).length = 1 + ((s - 1) + (xr.length + (1 + yr.length))) := by
              rw [List.length_cons, List.length_append, List.length_replicate, List.length_append, List.length_cons]
              omega
            rw [hl1] at hdl
            walk_at "rd"
            walk_at "nw"
            intro a1 ha1
            obtain ⟨M2, k2⟩ := G.new (o := .tup [.str "up", .int o, .int f]) ha1
            have f1 : (upd G1 a1 (.tup [.str "up", .int o, .int f])) a1 = some (.tup [.str "up", .int o, .int f]) := upd_same
            have u2 := IsUs.tk u1 k2
            have sk2 := sk1.tk k2
            generalize upd G1 a1 _ = H2 at M2 f1 u2 sk2 ⊢
            clear k2 u1 sk1 G ht ha1
            walk_at "rd"
            walk_at "nw"
            intro l1 hl1'
            obtain ⟨M3, k3⟩ := M2.new (o := .lst [.ref a1]) hl1'
            have f2 : (upd H2 l1 (.lst [.ref a1])) l1 = some (.lst [.ref a1]) := upd_same
            have f3 := k3 _ _ f1
            have u3 := IsUs.tk u2 k3
            have sk3 := sk2.tk k3
            generalize upd H2 l1 _ = H3 at M3 f2 f3 u3 sk3 ⊢
            clear k3 u2 sk2 M2 f1 hl1'
            refine ⟨pt, l1, _, _, rfl, rfl, M3.et, f2, sz_le (by rw [hzl]; show done.length + 1 ≤ 100000; omega), fun c1 hc1 => ?_⟩
            obtain ⟨M4, k4⟩ := M3.swap (zs' := zs ++ [.ref a1]) hc1
            have u4 := Us.app (IsUs.tk u3 k4) (.cons (IsU.up a1 o f (k4 _ _ f3)) .nil)
            have sk4 := sk3.tk k4
            generalize upd H3 c1 _ = H4 at M4 u4 sk4 ⊢
            clear k4 u3 sk3 M3 f2 f3 hc1
            walk_at "rd"
            walk_at "nw"
            intro a2 ha2
            obtain ⟨M5, k5⟩ := M4.new (o := .tup [.str "up", .int f, .int f]) ha2
            have f1 : (upd H4 a2 (.tup [.str "up", .int f, .int f])) a2 = some (.tup [.str "up", .int f, .int f]) := upd_same
            have u5 := IsUs.tk u4 k5
            have sk5 := sk4.tk k5
            generalize upd H4 a2 _ = H5 at M5 f1 u5 sk5 ⊢
            clear k5 u4 sk4 M4 ha2
            walk_at "rd"
            walk_at "nw"
            intro l2 hl2
            obtain ⟨M6, k6⟩ := M5.new (o := .lst [.ref a2]) hl2
            have f2 : (upd H5 l2 (.lst [.ref a2])) l2 = some (.lst [.ref a2]) := upd_same
            have f3 := k6 _ _ f1
            have u6 := IsUs.tk u5 k6
            have sk6 := sk5.tk k6
            generalize upd H5 l2 _ = H6 at M6 f2 f3 u6 sk6 ⊢
            clear k6 u5 sk5 M5 f1 hl2
            walk_at "rd"
            refine ⟨l2, (s : Int) - 1, _, rfl, rfl, f2, by omega, by omega, sz_le (by show 1 * ((s : Int) - 1).toNat ≤ 100000; omega), fun r hr => ?_⟩
            obtain ⟨M7, k7⟩ := M6.new (o := .lst (List.replicate (s - 1) (.ref a2))) hr
            have er : (List.replicate ((s : Int) - 1).toNat [V.ref a2]).flatten = List.replicate (s - 1) (V.ref a2) := by
              rw [show ((s : Int) - 1).toNat = s - 1 by omega, List.flatten_replicate_singleton]
            rw [er]
            have f4 : (upd H6 r (.lst (List.replicate (s - 1) (.ref a2)))) r = some (.lst (List.replicate (s - 1) (.ref a2))) := upd_same
            have f5 := k7 _ _ f3
            have u7 := IsUs.tk u6 k7
            have sk7 := sk6.tk k7
            generalize upd H6 r _ = H7 at M7 f4 f5 u7 sk7 ⊢
            clear k7 u6 sk6 M6 f2 f3 hr er
            refine ⟨c1, r, _, _, rfl, rfl, M7.et, f4, sz_le (by rw [List.length_append, List.length_replicate, hzl]; show done.length + 1 + (s - 1) ≤ 100000; omega), fun c2 hc2 => ?_⟩
            obtain ⟨M8, k8⟩ := M7.swap (zs' := zs ++ [.ref a1] ++ List.replicate (s - 1) (.ref a2)) hc2
            have reps : ∀ j : Nat, Paired (IsU (upd H7 c2 (.lst (zs ++ [.ref a1] ++ List.replicate (s - 1) (.ref a2))))) (List.replicate j (.ref a2)) (List.replicate j (.up f f)) := by
              intro j
              induction j with
              | zero => exact .nil
              | succ j ih =>
                rw [List.replicate_succ, List.replicate_succ]
                exact .cons (.up a2 f f (k8 _ _ f5)) ih
            have u8 := Us.app (IsUs.tk u7 k8) (reps (s - 1))
            have sk8 := sk7.tk k8
            generalize upd H7 c2 _ = H8 at M8 u8 sk8 ⊢
            clear k8 u7 sk7 M7 f4 f5 hc2 reps
            walk_at "rd"
            walk_at "nw"
            intro p1 hp1
            obtain ⟨M9, k9⟩ := M8.new (o := .tup [.int ((s : Int) - 1), .int o, .int f, .int 0]) hp1
            have fp1 : (upd H8 p1 (.tup [.int ((s : Int) - 1), .int o, .int f, .int 0])) p1 = some (.tup [.int ((s : Int) - 1), .int o, .int f, .int 0]) := upd_same
            have u9 := IsUs.tk u8 k9
            have sk9 := sk8.tk k9
            generalize upd H8 p1 _ = H9 at M9 fp1 u9 sk9 ⊢
            clear k9 u8 sk8 M8 hp1
            walk_at "rd"
            walk_at "nw"
            intro p2 hp2
            obtain ⟨M10, k10⟩ := M9.new (o := .tup [.int 0, .int 0, .int 0, .int f]) hp2
            have fp2 : (upd H9 p2 (.tup [.int 0, .int 0, .int 0, .int f])) p2 = some (.tup [.int 0, .int 0, .int 0, .int f]) := upd_same
            have u10 := IsUs.tk u9 k10
            have sk10 := sk9.tk k10
            replace fp1 := k10 _ _ fp1
            generalize upd H9 p2 _ = H10 at M10 fp1 fp2 u10 sk10 ⊢
            clear k10 u9 sk9 M9 hp2
            walk_at "rd"
            walk_at "nw"
            intro p3 hp3
            obtain ⟨M11, k11⟩ := M10.new (o := .tup [.int ((size : Int) - s), .int f, .int (f + 1), .int 0]) hp3
            have fp3 : (upd H10 p3 (.tup [.int ((size : Int) - s), .int f, .int (f + 1), .int 0])) p3 = some (.tup [.int ((size : Int) - s), .int f, .int (f + 1), .int 0]) := upd_same
            have u11 := IsUs.tk u10 k11
            have sk11 := sk10.tk k11
            replace fp1 := k11 _ _ fp1
            replace fp2 := k11 _ _ fp2
            generalize upd H10 p3 _ = H11 at M11 fp1 fp2 fp3 u11 sk11 ⊢
            clear k11 u10 sk10 M10 hp3
            walk_at "rd"
            walk_at "nw"
            intro l3 hl3
            obtain ⟨M12, k12⟩ := M11.new (o := .lst [.ref p1, .ref p2, .ref p3]) hl3
            have el3 : (upd H11 l3 (.lst [.ref p1, .ref p2, .ref p3])) l3 = some (.lst [.ref p1, .ref p2, .ref p3]) := upd_same
            have u12 := IsUs.tk u11 k12
            have sk12 := sk11.tk k12
            replace fp1 := k12 _ _ fp1
            replace fp2 := k12 _ _ fp2
            replace fp3 := k12 _ _ fp3
            generalize upd H11 l3 _ = H12 at M12 el3 fp1 fp2 fp3 u12 sk12 ⊢
            clear k12 u11 sk11 M11 hl3
            refine ⟨po, l3, _, _, rfl, rfl, M12.eo, el3, sz_le (by show ys.length + 3 ≤ 100000; omega), fun c3 hc3 => ?_⟩
            obtain ⟨M13, k13⟩ := M12.swapO (ys' := ys ++ [.ref p1, .ref p2, .ref p3]) hc3
            have u13 := IsUs.tk u12 k13
            replace fp1 := k13 _ _ fp1
            replace fp2 := k13 _ _ fp2
            replace fp3 := k13 _ _ fp3
            have sk13 := ((((sk12.tk k13).snoc _ _ _ _ _ _ (.prob p1 (s - 1) c' o f yr (by rw [show ((s - 1 : Nat) : Int) = (s : Int) - 1 by omega]; exact fp1) (by omega) (.inr hf2) hff hyr)).snoc _ _ _ _ _ _ (.read p2 f hff fp2)).snoc _ _ _ _ _ _
              (.prob p3 (size - s) k f (f + 1) xr (by rw [show ((size - s : Nat) : Int) = (size : Int) - s by omega]; exact fp3) (by omega) (hk.elim .inl fun z => .inr (by omega)) (by omega) hxr))
            rw [show ys ++ [V.ref p1, V.ref p2, V.ref p3] = ys ++ [.ref p1] ++ [.ref p2] ++ [.ref p3] by simp only [List.append_assoc, List.cons_append, List.nil_append]] at M13 u13 sk13 ⊢
            refine ⟨c3, c2, _, _, _, _, _, some (.int (0 + i)), some (.int size), some (.int o), some (.int f), some (.int 0), some (.int s), rfl, M13, u13, sk13, ?_, by omega⟩
            rw [hms]
            simp only [List.append_assoc, List.cons_append, List.nil_append]
          · have h0 : size = 0 := by
              have := of_ndec hc
              omega
            subst h0
            obtain rfl := hb'.zero
            exact ⟨po, pt, ys, zs, w0, done, m0, _, _, _, _, _, _, rfl, L1.step, u1, sk1, hms, by omega⟩
      · rintro σ' H' ⟨po, pt, st, zs, w, done, rest, v5, v6, v7, v8, v9, v10, rfl, L0, u, sk, hms, hw⟩
        exact absurd hw (by omega)
    · rintro σ' H' ⟨po, pt, zs, v5, v6, v7, v8, v9, v10, rfl, hp, sm, e, u⟩
      walk_at "rd"
      exact q pt zs ms H' sm hp e u hb
end
end K47

set_option Elab.async false
set_option linter.all false
set_option maxRecDepth 100000
set_option maxHeartbeats 4000000
set_option pp.deepTerms false
set_option pp.deepTerms.threshold 12
namespace K47
open PySem PySem.Spec PyProof.Rows L2
local macro_rules | `(tactic| walk_at "ty") => `(tactic| first | exact .base (.int _) | exact .base (.bl _) | exact .base (.str _) | exact .base .non | assumption | exact .base (.tup (by assumption)) | exact .base (.lst (by assumption)))
local macro_rules | `(tactic| walk_at "cm") => `(tactic| first | exact cm_r (by decide) (by decide) | exact cm_l (by decide) (by decide) | exact cm_fmod (by decide) (by decide) | exact cm_r (by omega) (by omega) | exact cm_l (by omega) (by omega))
local macro_rules | `(tactic| walk_at "dv") => `(tactic| first | exact ⟨by decide, by decide⟩ | exact ⟨by omega, by omega⟩)
local macro_rules | `(tactic| walk_at "r1") => `(tactic| first
  | refine ⟨_, rfl, ?_⟩ | refine ⟨_, _, rfl, rfl, ?_⟩ | refine Or.inl ⟨_, rfl, ?_⟩ | refine Or.inr ⟨_, rfl, ?_⟩
  | refine And.intro (a := CMul _ _) (by walk_at "cm") ?_ | refine And.intro (a := CDivN _ _) (by walk_at "dv") ?_ | refine And.intro (a := _ ≠ (0 : Int)) (by first | decide | omega) ?_ | refine And.intro (a := scal _ _ = true) rfl ?_ | refine ⟨_, _, _, _, rfl, rfl, SqL.of (by first | exact upd_same | assumption), rfl, ?_⟩ | refine ⟨_, _, _, _, rfl, rfl, (by first | exact upd_same | assumption), rfl, ?_⟩ | refine ⟨_, _, rfl, ?_⟩ | refine And.intro (a := (_ : V) = V.non) rfl ?_ | refine And.intro (a := CPow _ _) ⟨by decide, by decide, by decide⟩ ?_ | refine And.intro (a := (_ : List V) = []) rfl ?_ | refine ⟨_, _, rfl, SqT.of (by first | exact upd_same | assumption), rfl, ?_⟩
  | refine ⟨_, _, _, _, rfl, rfl, SqT.of (by first | exact upd_same | assumption), rfl, ?_⟩
  | refine ⟨_, _, _, _, true, rfl, ClsV.ty _, (by walk_at "ty"), kit_ty (by decide +kernel), ?_⟩ | refine ⟨_, _, _, _, false, rfl, ClsV.ty _, (by walk_at "ty"), kit_ty (by decide +kernel), ?_⟩)
local macro_rules | `(tactic| walk_at "rd") => `(tactic| repeat walk_at "r1")
local macro_rules | `(tactic| walk_at "yes") => `(tactic| (change (if true = true then _ else _); rw [if_pos rfl]))
local macro_rules | `(tactic| walk_at "no") => `(tactic| (change (if false = true then _ else _); rw [if_neg Bool.false_ne_true]))
local macro_rules | `(tactic| walk_at "nw") => `(tactic| refine And.intro (a := _ ≤ sizeLine) (sz_le (Nat.le_of_ble_eq_true rfl)) ?_)

section
variable {P : Program} {w : World} {K : PySem.W.Frag} {mg : Str → Option Value} {base : Heap}
variable {C_VaultError C_NumberError C_BadPrime C_BadTable C_BadCells C_ShapeError C_PaperError C_BadMove fV fI_BadMove fI_BadCells fI_BadPrime fI_BadTable : Addr}
variable (T : Txt P K mg C_VaultError C_NumberError C_BadPrime C_BadTable C_BadCells C_ShapeError C_PaperError C_BadMove fV fI_BadMove fI_BadCells fI_BadPrime fI_BadTable)
include T
open L2N (pe_ex exz)
omit T in
theorem xd_word_BadMove (v : V) : (excD ["at"] "BadMove" [v]).lookup ("word" : Str) = some (.str "badmove") := by
  first | rfl | decide +kernel
omit T in
theorem xd_at_BadMove (v : V) : (excD ["at"] "BadMove" [v]).lookup ("at" : Str) = some v := by
  first | rfl | decide +kernel
omit T in
theorem xd_word_BadPrime (v : V) : (excD ["value"] "BadPrime" [v]).lookup ("word" : Str) = some (.str "badprime") := by
  first | rfl | decide +kernel
omit T in
theorem xd_value_BadPrime (v : V) : (excD ["value"] "BadPrime" [v]).lookup ("value" : Str) = some v := by
  first | rfl | decide +kernel
omit T in
theorem xd_word_BadTable (v : V) : (excD ["which"] "BadTable" [v]).lookup ("word" : Str) = some (.str "badtable") := by
  first | rfl | decide +kernel
omit T in
theorem xd_which_BadTable (v : V) : (excD ["which"] "BadTable" [v]).lookup ("which" : Str) = some v := by
  first | rfl | decide +kernel
omit T in
theorem xd_word_BadCells (v : V) : (excD ["cells"] "BadCells" [v]).lookup ("word" : Str) = some (.str "badcells") := by
  first | rfl | decide +kernel
omit T in
theorem xd_cells_BadCells (v : V) : (excD ["cells"] "BadCells" [v]).lookup ("cells" : Str) = some v := by
  first | rfl | decide +kernel
omit T in
theorem SameD.le {H : Hp} : ∀ {n m : Nat} {x y : V}, SameD H n x y → n ≤ m → SameD H m x y
  | 0, _, _, _, h, _ => h.elim
  | n + 1, m, x, y, h, hl => by
    obtain ⟨m, rfl⟩ : ∃ k, m = k + 1 := ⟨m - 1, by omega⟩
    rcases h with h | ⟨a, b, xs, ys, h1, h2, h3, h4, h5, h6⟩
    · exact .inl h
    · exact .inr ⟨a, b, xs, ys, h1, h2, h3, h4, h5, fun i p q hp hq => SameD.le (h6 i p q hp hq) (Nat.le_of_succ_le_succ hl)⟩
omit T in
theorem SameD.keep {H H' : Hp} (s : Same H H') : ∀ {n : Nat} {x y : V}, SameD H n x y → SameD H' n x y
  | 0, _, _, h => h.elim
  | n + 1, x, y, h => by
    rcases h with h | ⟨a, b, xs, ys, h1, h2, h3, h4, h5, h6⟩
    · exact .inl h
    · exact .inr ⟨a, b, xs, ys, h1, h2, h3.imp (fun z => ⟨s _ _ z.1, s _ _ z.2⟩) (fun z => ⟨s _ _ z.1, s _ _ z.2⟩), h4, h5, fun i p q hp hq => (h6 i p q hp hq).keep s⟩
omit T in
theorem sameD_lists {H : Hp} {n : Nat} {a b : Addr} {xs : List V} (ha : H a = some (.lst xs)) (hb : H b = some (.lst xs)) (hz : xs.length ≤ 100000) (h : ∀ x ∈ xs, SameD H n x x) : SameD H (n + 1) (.ref a) (.ref b) :=
  .inr ⟨a, b, xs, xs, rfl, rfl, .inr ⟨ha, hb⟩, rfl, hz, fun i p q hp hq => by
    rw [hp] at hq
    cases hq
    exact h _ (List.mem_of_getElem? hp)⟩
def ChR (n c : Int) (a hd : Addr) (xs : List V) (ms : List Mv) (H : Hp) : L2.St → Hp → Prop := fun σ H' => ∃ t : Addr, σ = [some (.int n), some (.int c), some (.ref a), some (.ref hd), some (.ref t), none] ∧ Same H H' ∧ H' hd = some (.lst xs) ∧
  ((∃ k, verdict n c ms = .inl k ∧ H' t = some (.tup [.str "told", .int k])) ∨ ∃ j : Nat, verdict n c ms = .inr j ∧ H' t = some (.tup [.str "error", .str "badmove", .int j, .bl true]))
def spChecked : Sp := fun vs H Q _ => ∃ (n c : Int) (a : Addr), vs = [.int n, .int c, .ref a] ∧ (0 ≤ n ∧ n ≤ 120 ∧ 1 ≤ c ∧ c ≤ 120) ∧ ∃ (xs : List V) (ms : List Mv), H a = some (.lst xs) ∧ xs.length ≤ 20000 ∧ IsMs H xs ms ∧ (∀ x ∈ xs, SameD H 2 x x) ∧
  ∀ t H', Same H H' → ((∃ k, verdict n c ms = .inl k ∧ H' t = some (.tup [.str "told", .int k])) ∨ ∃ j : Nat, verdict n c ms = .inr j ∧ H' t = some (.tup [.str "error", .str "badmove", .int j, .bl true])) → Q (.ref t) H'
theorem ok_checked {f : Addr} {fd : FuncData} (F : Fun K "_law_checked" "_law_checked" s_checked f fd) {f_check_moves : Addr} {fd_check_moves : FuncData} (D_check_moves : Def K mg "check_moves" s_check_moves p_check_moves f_check_moves fd_check_moves) (G_check_moves : FnOk P w K mg base (L2N.CX P w) 4 f_check_moves fd_check_moves p_check_moves (spCheck K C_BadCells C_BadMove)) {f_same : Addr} {fd_same : FuncData} (D_same : Def K mg "_law_same" s_same p_same f_same fd_same) (G_same : FnOk P w K mg base CX0 6 f_same fd_same p_same (spSame 6)) (X1 : PySem.W.exmOne K (.ref C_BadMove) (.ref C_BadMove) = some true) : FnOk P w K mg base CX0 7 f fd p_checked spChecked := by
  refine F.ok sc_checked (fun vs H Q E h => ?_) (fun cdv A outer s H vs Q E hr h => ?_)
  · obtain ⟨n, c, a, rfl, _⟩ := h
    rfl
  · obtain ⟨n, c, a, rfl, ⟨n0, n1, c0, c1⟩, xs, ms, ha, hz, hm, hsd, q⟩ := h
    refine ⟨_, (pss_cons (ps_set (i := 3) sc_checked.nd rfl (Or.inl rfl) (by exact (pe_callTy call_list_of (by rfl) T.b_list (by first | exact PySem.boot_list | decide +kernel) (pa_cons (pv 2) pa_nil))))
      (pss_mid (L2N.ps_tryH (tb := _) (Wo := fun _ _ _ _ => False) sc_checked.nd rfl rfl takesN0
  (fun W pn xe tk _ => (pss_one (ps_set (i := 4) sc_checked.nd rfl (Or.inl rfl) (by exact (pe_tup (pa_cons pe_str (pa_cons (pe_callS G_check_moves (hr.mono (by first | decide | omega)) rfl D_check_moves.g D_check_moves.fn.kp D_check_moves.b (fun σ => L2N.passAt tk σ) (pa_cons (pv 0) (pa_cons (pv 1) (pa_cons (pv 3) pa_nil)))) pa_nil)))))))
  (.named (i := 5) (ts := _) ⟨rfl, by decide, Or.inl T.g_BadMove⟩ rfl rfl (fun a oe cls d pn hz hf => (pss_one (ps_set (i := 4) sc_checked.nd rfl (Or.inl rfl) (by exact (pe_ex (p := fun d' => cls = .ref C_BadMove ∧ d = some d') (fun d' h => (pe_tup (pa_cons pe_str (pa_cons (L2N.pe_xa (List.mem_cons_self (a := (a, oe))) T.lf_BadMove.kind (exz (a := a) hz hf h) T.lf_BadMove.kind.nw (pv 5)) (pa_cons (L2N.pe_xa (List.mem_cons_self (a := (a, oe))) T.lf_BadMove.kind (exz (a := a) hz hf h) (T.lf_BadMove.nf "at" List.mem_cons_self).1 (pv 5)) (pa_cons (pe_and (pe_callB (id := "isinstance") (L2N.call_isOA (K := K) rfl (List.mem_cons_self (a := (a, oe))) T.lf_BadMove.kind (exz (a := a) hz hf h)) (by rfl) T.b_isinstance (by first | exact PySem.boot_isinstance | decide +kernel) (pa_cons (pv 5) (pa_cons (pe_glob (v := .ref C_PaperError) rfl T.g_PaperError rfl) pa_nil))) (pe_one (pe_not (pe_callB (id := "isinstance") (L2N.call_isPA (K := K) rfl (List.mem_cons_self (a := (a, oe))) T.lf_BadMove.kind (exz (a := a) hz hf h)) (by rfl) T.b_isinstance (by first | exact PySem.boot_isinstance | decide +kernel) (pa_cons (pv 5) (pa_cons (pe_tup (pa_cons (pe_glob (v := .ref C_NumberError) rfl T.g_NumberError rfl) (pa_cons (pe_glob (v := .ref C_ShapeError) rfl T.g_ShapeError rfl) pa_nil))) pa_nil)))))) pa_nil)))))))))))
  (.bare (ts := _) ⟨rfl, by decide, Or.inl T.g_VaultError⟩ (fun a oe cls d pn hz hf => (pss_one (ps_ret (by exact (pe_tup (pa_cons pe_str (pa_cons pe_str pa_nil)))))))
  .nil)))
      (pss_mid (ps_if (pt_not (pt_val (pe_call G_same (hr.mono (by first | decide | omega)) rfl D_same.g D_same.fn.kp D_same.b .nil pass0 (pa_cons (pv 3) (pa_cons (pe_callTy call_list_of (by rfl) T.b_list (by first | exact PySem.boot_list | decide +kernel) (pa_cons (pv 2) pa_nil)) pa_nil))))) (pss_one (ps_ret (by exact (pe_tup (pa_cons pe_str pa_nil))))) pss_nil)
      (pss_one (ps_ret (by exact (pv 4))))))), ?_⟩
    walk_at "rd"
    refine ⟨a, _, rfl, .inl (SqL.of ha), fun hd h1 => ?_⟩
    have s1 : Same H (upd H hd (.lst xs)) := same_new h1
    generalize hg : upd H hd _ = H1 at s1 ⊢
    have e1 : H1 hd = some (.lst xs) := by rw [← hg]; exact upd_same
    clear hg
    walk_at "rd"
    refine ⟨ChR n c a hd xs ms H, ?_, ?_⟩
    · walk_at "rd"
      refine ⟨n, .int c, .ref hd, rfl, .inl ⟨c, rfl, ⟨n0, n1, c0, c1⟩, hd, xs, ms, rfl, .inl e1, hz, hm.keep s1, fun H2 s2 => ⟨fun k hk => ?_, fun j hj d hd0 => ?_⟩⟩⟩
      · walk_at "rd"
        walk_at "nw"
        intro t ht
        exact ⟨t, rfl, (s1.trans s2).trans (same_new ht), same_new ht _ _ (s2 _ _ e1), .inl ⟨k, hk, upd_same⟩⟩
      · refine ⟨true, X1, fun _ x hx => ?_, fun z => nomatch z⟩
        refine ⟨d, ⟨rfl, rfl⟩, ?_⟩
        walk_at "rd"
        refine ⟨rfl, _, _, upd_same, xd_word_BadMove _, ?_⟩
        walk_at "rd"
        refine ⟨rfl, _, _, upd_same, xd_at_BadMove _, ?_⟩
        walk_at "rd"
        refine ⟨_, _, true, _, rfl, fun _ h => h, T.k_BadMove_PaperError, upd_same, ?_⟩
        walk_at "rd"
        walk_at "nw"
        intro tp htp
        have s3 : Same H2 (upd H2 d (.xd (excD ["at"] "BadMove" [.int j]))) := same_new hd0
        generalize hg : upd H2 d _ = H3 at s3 htp ⊢
        have e3 : H3 d = some (.xd (excD ["at"] "BadMove" [.int j])) := by rw [← hg]; exact upd_same
        clear hg hx
        have s4 : Same H3 (upd H3 tp (.tup [.ref C_NumberError, .ref C_ShapeError])) := same_new htp
        generalize hg : upd H3 tp _ = H4 at s4 ⊢
        have e4 : H4 tp = some (.tup [.ref C_NumberError, .ref C_ShapeError]) := by rw [← hg]; exact upd_same
        clear hg
        dsimp only [tNil]
        refine ⟨tp, _, _, false, _, rfl, e4, .cons (.own _) (.cons (.own _) .nil), kitAny_cons T.k_BadMove_NumberError (fun _ => kitAny_cons T.k_BadMove_ShapeError (fun _ => rfl) fun z => (nomatch z)) fun z => (nomatch z), s4 _ _ e3, ?_⟩
        walk_at "rd"
        walk_at "nw"
        intro t ht
        exact ⟨t, rfl, ((s1.trans s2).trans (s3.trans s4)).trans (same_new ht), same_new ht _ _ (s4 _ _ (s3 _ _ (s2 _ _ e1))), .inr ⟨j, hj, upd_same⟩⟩
    rintro σ' H2 ⟨t, rfl, s2, e2, ht⟩
    walk_at "rd"
    refine ⟨ChR n c a hd xs ms H, ?_, ?_⟩
    · walk_at "rd"
      refine ⟨a, _, rfl, .inl (SqL.of (s2 _ _ ha)), fun l hl => ?_⟩
      have s3 : Same H2 (upd H2 l (.lst xs)) := same_new hl
      generalize hg : upd H2 l _ = H3 at s3 ⊢
      have e3 : H3 l = some (.lst xs) := by rw [← hg]; exact upd_same
      clear hg
      have sd : SameD H3 6 (.ref hd) (.ref l) := SameD.le (sameD_lists (n := 2) (s3 _ _ e2) e3 (by omega) fun x hx => (hsd x hx).keep (s2.trans s3)) (by decide)
      walk_at "rd"
      refine ⟨sd, ?_⟩
      walk_at "rd"
      exact ⟨s2.trans s3, s3 _ _ e2, ht.imp (fun ⟨k, h1, h2⟩ => ⟨k, h1, s3 _ _ h2⟩) fun ⟨j, h1, h2⟩ => ⟨j, h1, s3 _ _ h2⟩⟩
    · rintro σ' H3 ⟨t, rfl, s3, e3, ht⟩
      walk_at "rd"
      exact q t H3 s3 ht
end
end K47

set_option Elab.async false
set_option linter.all false
set_option maxRecDepth 100000
set_option maxHeartbeats 4000000
set_option pp.deepTerms false
set_option pp.deepTerms.threshold 12
namespace K47
open PySem PySem.Spec PyProof.Rows L2
local macro_rules | `(tactic| walk_at "ty") => `(tactic| first | exact .base (.int _) | exact .base (.bl _) | exact .base (.str _) | exact .base .non | assumption | exact .base (.tup (by assumption)) | exact .base (.lst (by assumption)))
local macro_rules | `(tactic| walk_at "cm") => `(tactic| first | exact cm_r (by decide) (by decide) | exact cm_l (by decide) (by decide) | exact cm_fmod (by decide) (by decide) | exact cm_r (by omega) (by omega) | exact cm_l (by omega) (by omega))
local macro_rules | `(tactic| walk_at "dv") => `(tactic| first | exact ⟨by decide, by decide⟩ | exact ⟨by omega, by omega⟩)
local macro_rules | `(tactic| walk_at "r1") => `(tactic| first
  | refine ⟨_, rfl, ?_⟩ | refine ⟨_, _, rfl, rfl, ?_⟩ | refine Or.inl ⟨_, rfl, ?_⟩ | refine Or.inr ⟨_, rfl, ?_⟩
  | refine And.intro (a := CMul _ _) (by walk_at "cm") ?_ | refine And.intro (a := CDivN _ _) (by walk_at "dv") ?_ | refine And.intro (a := _ ≠ (0 : Int)) (by first | decide | omega) ?_ | refine And.intro (a := scal _ _ = true) rfl ?_ | refine ⟨_, _, _, _, rfl, rfl, SqL.of (by first | exact upd_same | assumption), rfl, ?_⟩ | refine ⟨_, _, _, _, rfl, rfl, (by first | exact upd_same | assumption), rfl, ?_⟩ | refine ⟨_, _, rfl, ?_⟩ | refine And.intro (a := (_ : V) = V.non) rfl ?_ | refine And.intro (a := CPow _ _) ⟨by decide, by decide, by decide⟩ ?_ | refine And.intro (a := (_ : List V) = []) rfl ?_ | refine ⟨_, _, rfl, SqT.of (by first | exact upd_same | assumption), rfl, ?_⟩
  | refine ⟨_, _, _, _, rfl, rfl, SqT.of (by first | exact upd_same | assumption), rfl, ?_⟩
  | refine ⟨_, _, _, _, true, rfl, ClsV.ty _, (by walk_at "ty"), kit_ty (by decide +kernel), ?_⟩ | refine ⟨_, _, _, _, false, rfl, ClsV.ty _, (by walk_at "ty"), kit_ty (by decide +kernel), ?_⟩)
local macro_rules | `(tactic| walk_at "rd") => `(tactic| repeat walk_at "r1")
local macro_rules | `(tactic| walk_at "yes") => `(tactic| (change (if true = true then _ else _); rw [if_pos rfl]))
local macro_rules | `(tactic| walk_at "no") => `(tactic| (change (if false = true then _ else _); rw [if_neg Bool.false_ne_true]))
local macro_rules | `(tactic| walk_at "nw") => `(tactic| refine And.intro (a := _ ≤ sizeLine) (sz_le (Nat.le_of_ble_eq_true rfl)) ?_)

section
variable {P : Program} {w : World} {K : PySem.W.Frag} {mg : Str → Option Value} {base : Heap}
variable {C_VaultError C_NumberError C_BadPrime C_BadTable C_BadCells C_ShapeError C_PaperError C_BadMove fV fI_BadMove fI_BadCells fI_BadPrime fI_BadTable : Addr}
variable (T : Txt P K mg C_VaultError C_NumberError C_BadPrime C_BadTable C_BadCells C_ShapeError C_PaperError C_BadMove fV fI_BadMove fI_BadCells fI_BadPrime fI_BadTable)
include T
open L2N (pe_ex exz)
/-- two lists or two tuples with the same items -/
def Twin (H : Hp) (a b : Addr) (xs : List V) : Prop := (H a = some (.lst xs) ∧ H b = some (.lst xs)) ∨ (H a = some (.tup xs) ∧ H b = some (.tup xs))
omit T in
theorem Twin.keep {H H' : Hp} {a b : Addr} {xs : List V} (h : Twin H a b xs) (s : Same H H') : Twin H' a b xs := h.imp (fun z => ⟨s _ _ z.1, s _ _ z.2⟩) fun z => ⟨s _ _ z.1, s _ _ z.2⟩
omit T in
theorem Twin.seq {H : Hp} {a b : Addr} {xs : List V} (h : Twin H a b xs) : SeqAt H b xs := h.imp (·.2) (·.2)
omit T in
theorem Twin.same {H : Hp} {a b : Addr} {tb : List Int} (h : Twin H a b (tb.map V.int)) (hz : tb.length ≤ 100) : SameD H 3 (.ref b) (.ref a) :=
  .inr ⟨b, a, _, _, rfl, rfl, h.elim (fun z => .inr ⟨z.2, z.1⟩) fun z => .inl ⟨z.2, z.1⟩, rfl, by rw [List.length_map]; omega, fun i p q hp hq => by
    rw [hp] at hq
    cases hq
    obtain ⟨j, _, rfl⟩ := List.mem_map.mp (List.mem_of_getElem? hp)
    exact .inl ⟨rfl, rfl⟩⟩
omit T in
theorem twin_of {H : Hp} {a : Addr} {tb : List Int} {Q : VK} {E : XK} (h : SeqAt H a (tb.map V.int)) (hz : tb.length ≤ 100) (q : ∀ l H', Same H H' → H l = none → Twin H' a l (tb.map V.int) → Q (.ref l) H') : spCopy [.ref a] H Q E :=
  ⟨a, tb, rfl, hz, h.elim (fun e => .inl ⟨e, fun l H' s hl el => q l H' s hl (.inl ⟨s _ _ e, el⟩)⟩) fun e => .inr ⟨e, fun l H' s hl el => q l H' s hl (.inr ⟨s _ _ e, el⟩)⟩⟩
/-- what a run answers -/
def RanIs (n c W : Int) (ms : List Mv) (H' : Hp) (t : Addr) : Prop := (∃ k u, verdict n c ms = .inl k ∧ H' t = some (.tup [.str "told", .ref u]) ∧ H' u = some (.tup [.int W, .int k])) ∨ ∃ j : Nat, verdict n c ms = .inr j ∧ H' t = some (.tup [.str "error", .str "badmove", .int j, .bl true])
omit T in
theorem RanIs.keep {n c W : Int} {ms : List Mv} {H H' : Hp} {t : Addr} (h : RanIs n c W ms H t) (s : Same H H') : RanIs n c W ms H' t :=
  h.imp (fun ⟨k, u, h1, h2, h3⟩ => ⟨k, u, h1, s _ _ h2, s _ _ h3⟩) fun ⟨j, h1, h2⟩ => ⟨j, h1, s _ _ h2⟩
def RnR (p x : Int) (n : Nat) (c W : Int) (ua da ma hd u d m : Addr) (tb t2 : List Int) (xs : List V) (ms : List Mv) (H : Hp) : L2.St → Hp → Prop := fun σ H' => ∃ t : Addr, σ = [some (.int p), some (.ref ua), some (.ref da), some (.ref ma), some (.int x), some (.int n), some (.int c), some (.ref hd), some (.ref t), none] ∧ Same H H' ∧
  H' hd = some (.lst [.ref u, .ref d, .ref m]) ∧ Twin H' ua u (tb.map V.int) ∧ Twin H' da d (t2.map V.int) ∧ H' m = some (.lst xs) ∧ RanIs n c W ms H' t
def spRan : Sp := fun vs H Q _ => ∃ (p : Int) (ua da ma : Addr) (x : Int) (n : Nat) (c : Int), vs = [.int p, .ref ua, .ref da, .ref ma, .int x, .int n, .int c] ∧ (p ∈ M02.primes ∧ 0 ≤ x ∧ x < p ∧ n ≤ 120 ∧ 1 ≤ c ∧ c ≤ 120) ∧ ∃ (tb t2 : List Int) (xs : List V) (ms : List Mv),
  SeqAt H ua (tb.map V.int) ∧ SeqAt H da (t2.map V.int) ∧ TbOk p tb ∧ TbOk p t2 ∧ H ma = some (.lst xs) ∧ xs.length ≤ 20000 ∧ IsMs H xs ms ∧ (∀ x ∈ xs, SameD H 2 x x) ∧
  ∀ t H', Same H H' → RanIs n c (worthN p tb t2 x n) ms H' t → Q (.ref t) H'
theorem ok_ran {f : Addr} {fd : FuncData} (F : Fun K "_law_ran" "_law_ran" s_ran f fd) {f_copyof : Addr} {fd_copyof : FuncData} (D_copyof : Def K mg "_law_copyof" s_copyof p_copyof f_copyof fd_copyof) (G_copyof : FnOk P w K mg base CX0 2 f_copyof fd_copyof p_copyof spCopy) {f_run_moves : Addr} {fd_run_moves : FuncData} (D_run_moves : DefK K mg "run_moves" s_run_moves p_run_moves ["start", "length", "cells"] f_run_moves fd_run_moves) (G_run_moves : FnOk P w K mg base (L2N.CX P w) 5 f_run_moves fd_run_moves p_run_moves (spRun K C_BadPrime C_BadTable C_BadCells C_BadMove)) {f_same : Addr} {fd_same : FuncData} (D_same : Def K mg "_law_same" s_same p_same f_same fd_same) (G_same : FnOk P w K mg base CX0 6 f_same fd_same p_same (spSame 6)) (X1 : PySem.W.exmOne K (.ref C_BadMove) (.ref C_BadMove) = some true) : FnOk P w K mg base CX0 7 f fd p_ran spRan := by
  refine F.ok sc_ran (fun vs H Q E h => ?_) (fun cdv A outer s H vs Q E hr h => ?_)
  · obtain ⟨p, ua, da, ma, x, n, c, rfl, _⟩ := h
    rfl
  · obtain ⟨p, ua, da, ma, x, n, c, rfl, ⟨hp, x0, x1, n1, c0, c1⟩, tb, t2, xs, ms, hu, hd, ok1, ok2, hm, hz, him, hsd, q⟩ := h
    have hp2 := M02.primes_lo hp
    have z1 : tb.length ≤ 100 := by have := ok1.1; omega
    have z2 : t2.length ≤ 100 := by have := ok2.1; omega
    refine ⟨_, (pss_cons (ps_set (i := 7) sc_ran.nd rfl (Or.inl rfl) (by exact (pe_lst (pa_cons (pe_call G_copyof (hr.mono (by first | decide | omega)) rfl D_copyof.g D_copyof.fn.kp D_copyof.b .nil pass0 (pa_cons (pv 1) pa_nil)) (pa_cons (pe_call G_copyof (hr.mono (by first | decide | omega)) rfl D_copyof.g D_copyof.fn.kp D_copyof.b .nil pass0 (pa_cons (pv 2) pa_nil)) (pa_cons (pe_callTy call_list_of (by rfl) T.b_list (by first | exact PySem.boot_list | decide +kernel) (pa_cons (pv 3) pa_nil)) pa_nil))))))
      (pss_mid (L2N.ps_tryH (tb := _) (Wo := fun _ _ _ _ => False) sc_ran.nd rfl rfl takesN0
  (fun W pn xe tk _ => (pss_one (ps_set (i := 8) sc_ran.nd rfl (Or.inl rfl) (by exact (pe_tup (pa_cons pe_str (pa_cons (pe_callSK G_run_moves (hr.mono (by first | decide | omega)) rfl D_run_moves.g D_run_moves.fn.kp D_run_moves.b (fun σ => L2N.passAt tk σ) (pa_cons (pv 0) (pa_cons (pe_ix (show IxR _ (rIxL K) from ix_list) (pv 7) pe_int (fun _ _ => rfl)) (pa_cons (pe_ix (show IxR _ (rIxL K) from ix_list) (pv 7) pe_int (fun _ _ => rfl)) (pa_cons (pe_ix (show IxR _ (rIxL K) from ix_list) (pv 7) pe_int (fun _ _ => rfl)) pa_nil)))) (pk_cons (pv 4) (pk_cons (pv 5) (pk_cons (pv 6) pk_nil)))) pa_nil)))))))
  (.named (i := 9) (ts := _) ⟨rfl, by decide, Or.inl T.g_BadMove⟩ rfl rfl (fun a oe cls d pn hz hf => (pss_one (ps_set (i := 8) sc_ran.nd rfl (Or.inl rfl) (by exact (pe_ex (p := fun d' => cls = .ref C_BadMove ∧ d = some d') (fun d' h => (pe_tup (pa_cons pe_str (pa_cons (L2N.pe_xa (List.mem_cons_self (a := (a, oe))) T.lf_BadMove.kind (exz (a := a) hz hf h) T.lf_BadMove.kind.nw (pv 9)) (pa_cons (L2N.pe_xa (List.mem_cons_self (a := (a, oe))) T.lf_BadMove.kind (exz (a := a) hz hf h) (T.lf_BadMove.nf "at" List.mem_cons_self).1 (pv 9)) (pa_cons (pe_and (pe_callB (id := "isinstance") (L2N.call_isOA (K := K) rfl (List.mem_cons_self (a := (a, oe))) T.lf_BadMove.kind (exz (a := a) hz hf h)) (by rfl) T.b_isinstance (by first | exact PySem.boot_isinstance | decide +kernel) (pa_cons (pv 9) (pa_cons (pe_glob (v := .ref C_PaperError) rfl T.g_PaperError rfl) pa_nil))) (pe_one (pe_not (pe_callB (id := "isinstance") (L2N.call_isPA (K := K) rfl (List.mem_cons_self (a := (a, oe))) T.lf_BadMove.kind (exz (a := a) hz hf h)) (by rfl) T.b_isinstance (by first | exact PySem.boot_isinstance | decide +kernel) (pa_cons (pv 9) (pa_cons (pe_tup (pa_cons (pe_glob (v := .ref C_NumberError) rfl T.g_NumberError rfl) (pa_cons (pe_glob (v := .ref C_ShapeError) rfl T.g_ShapeError rfl) pa_nil))) pa_nil)))))) pa_nil)))))))))))
  (.bare (ts := _) ⟨rfl, by decide, Or.inl T.g_VaultError⟩ (fun a oe cls d pn hz hf => (pss_one (ps_ret (by exact (pe_tup (pa_cons pe_str (pa_cons pe_str pa_nil)))))))
  .nil)))
      (pss_mid (ps_if (pt_not (pt_val (pe_call G_same (hr.mono (by first | decide | omega)) rfl D_same.g D_same.fn.kp D_same.b .nil pass0 (pa_cons (pv 7) (pa_cons (pe_lst (pa_cons (pv 1) (pa_cons (pv 2) (pa_cons (pe_callTy call_list_of (by rfl) T.b_list (by first | exact PySem.boot_list | decide +kernel) (pa_cons (pv 3) pa_nil)) pa_nil)))) pa_nil))))) (pss_one (ps_ret (by exact (pe_tup (pa_cons pe_str pa_nil))))) pss_nil)
      (pss_one (ps_ret (by exact (pv 8))))))), ?_⟩
    walk_at "rd"
    dsimp only [tNil, List.cons_append, List.nil_append]
    refine twin_of hu z1 fun u H1 s1 h1 w1 => ?_
    walk_at "rd"
    dsimp only [tNil, List.cons_append, List.nil_append]
    refine twin_of (hd.keep s1) z2 fun d H2 s2 h2 w2 => ?_
    walk_at "rd"
    refine ⟨ma, _, rfl, .inl (SqL.of (s2 _ _ (s1 _ _ hm))), fun m hm0 => ?_⟩
    have s3 : Same H2 (upd H2 m (.lst xs)) := same_new hm0
    generalize hg : upd H2 m _ = H3 at s3 ⊢
    have e3 : H3 m = some (.lst xs) := by rw [← hg]; exact upd_same
    clear hg
    walk_at "nw"
    intro hh hh0
    have s4 : Same H3 (upd H3 hh (.lst [.ref u, .ref d, .ref m])) := same_new hh0
    generalize hg : upd H3 hh _ = H4 at s4 ⊢
    have e4 : H4 hh = some (.lst [.ref u, .ref d, .ref m]) := by rw [← hg]; exact upd_same
    clear hg
    have s34 := s3.trans s4
    have sH : Same H H4 := (s1.trans s2).trans s34
    have w1' := w1.keep (s2.trans s34)
    have w2' := w2.keep s34
    have e3' := s4 _ _ e3
    clear w1 w2 e3 h1 h2 hm0 hh0 s1 s2 s3 s4 s34
    walk_at "rd"
    refine ⟨RnR p x n c (worthN p tb t2 x n) ua da ma hh u d m tb t2 xs ms H, ?_, ?_⟩
    · walk_at "rd"
      refine ⟨_, .ref u, .ref d, .ref m, .int c, x, n, rfl, .inl ⟨p, rfl, hp, .inl ⟨tb, ⟨u, rfl, w1'.seq, ok1⟩, .inl ⟨t2, ⟨d, rfl, w2'.seq, ok2⟩, .inl ⟨c, rfl, ⟨n1, c0, c1⟩, ⟨x0, x1⟩, m, xs, ms, rfl, .inl e3', hz, him.keep sH, fun k hk t H5 s5 e5 => ?_, fun j hj d' H5 s5 hd' => ?_⟩⟩⟩⟩⟩
      · walk_at "rd"
        walk_at "nw"
        intro a ha
        have s6 : Same H5 (upd H5 a (.tup [.str "told", .ref t])) := same_new ha
        have s56 := s5.trans s6
        exact ⟨a, rfl, sH.trans s56, s56 _ _ e4, w1'.keep s56, w2'.keep s56, s56 _ _ e3', .inl ⟨k, t, hk, upd_same, s6 _ _ e5⟩⟩
      · refine ⟨true, X1, fun _ y hy => ?_, fun z => nomatch z⟩
        refine ⟨d', ⟨rfl, rfl⟩, ?_⟩
        walk_at "rd"
        refine ⟨rfl, _, _, upd_same, xd_word_BadMove _, ?_⟩
        walk_at "rd"
        refine ⟨rfl, _, _, upd_same, xd_at_BadMove _, ?_⟩
        walk_at "rd"
        refine ⟨_, _, true, _, rfl, fun _ h => h, T.k_BadMove_PaperError, upd_same, ?_⟩
        walk_at "rd"
        walk_at "nw"
        intro tp htp
        have s3 : Same H5 (upd H5 d' (.xd (excD ["at"] "BadMove" [.int j]))) := same_new hd'
        generalize hg : upd H5 d' _ = H6 at s3 htp ⊢
        have e6 : H6 d' = some (.xd (excD ["at"] "BadMove" [.int j])) := by rw [← hg]; exact upd_same
        clear hg hy
        have s4 : Same H6 (upd H6 tp (.tup [.ref C_NumberError, .ref C_ShapeError])) := same_new htp
        generalize hg : upd H6 tp _ = H7 at s4 ⊢
        have e7 : H7 tp = some (.tup [.ref C_NumberError, .ref C_ShapeError]) := by rw [← hg]; exact upd_same
        clear hg
        dsimp only [tNil]
        refine ⟨tp, _, _, false, _, rfl, e7, .cons (.own _) (.cons (.own _) .nil), kitAny_cons T.k_BadMove_NumberError (fun _ => kitAny_cons T.k_BadMove_ShapeError (fun _ => rfl) fun z => (nomatch z)) fun z => (nomatch z), s4 _ _ e6, ?_⟩
        walk_at "rd"
        walk_at "nw"
        intro a ha
        have s8 : Same H5 (upd H7 a (.tup [.str "error", .str "badmove", .int j, .bl true])) := (s3.trans s4).trans (same_new ha)
        have s58 := s5.trans s8
        exact ⟨a, rfl, sH.trans s58, s58 _ _ e4, w1'.keep s58, w2'.keep s58, s58 _ _ e3', .inr ⟨j, hj, upd_same⟩⟩
    clear w1' w2' e3' e4 sH H4 H1 H2 H3
    rintro σ' H2 ⟨t, rfl, s2, e2, w1, w2, em, ht⟩
    walk_at "rd"
    refine ⟨RnR p x n c (worthN p tb t2 x n) ua da ma hh u d m tb t2 xs ms H, ?_, ?_⟩
    · walk_at "rd"
      refine ⟨ma, _, rfl, .inl (SqL.of (s2 _ _ hm)), fun l hl => ?_⟩
      have s3 : Same H2 (upd H2 l (.lst xs)) := same_new hl
      generalize hg : upd H2 l _ = H3 at s3 ⊢
      have e3 : H3 l = some (.lst xs) := by rw [← hg]; exact upd_same
      clear hg
      walk_at "nw"
      intro g hg0
      have s4 : Same H3 (upd H3 g (.lst [.ref ua, .ref da, .ref l])) := same_new hg0
      generalize hg : upd H3 g _ = H4 at s4 ⊢
      have e4 : H4 g = some (.lst [.ref ua, .ref da, .ref l]) := by rw [← hg]; exact upd_same
      clear hg
      have s34 := s3.trans s4
      have d1 := (w1.keep s34).same z1
      have d2 := (w2.keep s34).same z2
      have d3 : SameD H4 3 (.ref m) (.ref l) := sameD_lists (n := 2) (s34 _ _ em) (s4 _ _ e3) (by omega) fun y hy => (hsd y hy).keep (s2.trans s34)
      have sd : SameD H4 6 (.ref hh) (.ref g) := SameD.le (n := 4) (.inr ⟨hh, g, _, _, rfl, rfl, .inr ⟨s34 _ _ e2, e4⟩, rfl, by show 3 ≤ 100000; decide, fun i y z hy hz => by
        match i with
        | 0 => cases hy; cases hz; exact d1
        | 1 => cases hy; cases hz; exact d2
        | 2 => cases hy; cases hz; exact d3
        | i + 3 => cases hy⟩) (by decide)
      walk_at "rd"
      refine ⟨sd, ?_⟩
      walk_at "rd"
      exact ⟨s2.trans s34, s34 _ _ e2, w1.keep s34, w2.keep s34, s34 _ _ em, ht.keep s34⟩
    · rintro σ' H3 ⟨t, rfl, s3, e3, w1, w2, em, ht⟩
      walk_at "rd"
      exact q t H3 s3 ht
end
end K47

set_option Elab.async false
set_option linter.all false
set_option maxRecDepth 100000
set_option maxHeartbeats 4000000
set_option pp.deepTerms false
set_option pp.deepTerms.threshold 12
namespace K47
open PySem PySem.Spec PyProof.Rows L2
local macro_rules | `(tactic| walk_at "ty") => `(tactic| first | exact .base (.int _) | exact .base (.bl _) | exact .base (.str _) | exact .base .non | assumption | exact .base (.tup (by assumption)) | exact .base (.lst (by assumption)))
local macro_rules | `(tactic| walk_at "cm") => `(tactic| first | exact cm_r (by decide) (by decide) | exact cm_l (by decide) (by decide) | exact cm_fmod (by decide) (by decide) | exact cm_r (by omega) (by omega) | exact cm_l (by omega) (by omega))
local macro_rules | `(tactic| walk_at "dv") => `(tactic| first | exact ⟨by decide, by decide⟩ | exact ⟨by omega, by omega⟩)
local macro_rules | `(tactic| walk_at "r1") => `(tactic| first
  | refine ⟨_, rfl, ?_⟩ | refine ⟨_, _, rfl, rfl, ?_⟩ | refine Or.inl ⟨_, rfl, ?_⟩ | refine Or.inr ⟨_, rfl, ?_⟩
  | refine And.intro (a := CMul _ _) (by walk_at "cm") ?_ | refine And.intro (a := CDivN _ _) (by walk_at "dv") ?_ | refine And.intro (a := _ ≠ (0 : Int)) (by first | decide | omega) ?_ | refine And.intro (a := scal _ _ = true) rfl ?_ | refine ⟨_, _, _, _, rfl, rfl, SqL.of (by first | exact upd_same | assumption), rfl, ?_⟩ | refine ⟨_, _, _, _, rfl, rfl, (by first | exact upd_same | assumption), rfl, ?_⟩ | refine ⟨_, _, rfl, ?_⟩ | refine And.intro (a := (_ : V) = V.non) rfl ?_ | refine And.intro (a := CPow _ _) ⟨by decide, by decide, by decide⟩ ?_ | refine And.intro (a := (_ : List V) = []) rfl ?_ | refine ⟨_, _, rfl, SqT.of (by first | exact upd_same | assumption), rfl, ?_⟩
  | refine ⟨_, _, _, _, rfl, rfl, SqT.of (by first | exact upd_same | assumption), rfl, ?_⟩
  | refine ⟨_, _, _, _, true, rfl, ClsV.ty _, (by walk_at "ty"), kit_ty (by decide +kernel), ?_⟩ | refine ⟨_, _, _, _, false, rfl, ClsV.ty _, (by walk_at "ty"), kit_ty (by decide +kernel), ?_⟩)
local macro_rules | `(tactic| walk_at "rd") => `(tactic| repeat walk_at "r1")
local macro_rules | `(tactic| walk_at "yes") => `(tactic| (change (if true = true then _ else _); rw [if_pos rfl]))
local macro_rules | `(tactic| walk_at "no") => `(tactic| (change (if false = true then _ else _); rw [if_neg Bool.false_ne_true]))
local macro_rules | `(tactic| walk_at "nw") => `(tactic| refine And.intro (a := _ ≤ sizeLine) (sz_le (Nat.le_of_ble_eq_true rfl)) ?_)

section
variable {P : Program} {w : World} {K : PySem.W.Frag} {mg : Str → Option Value} {base : Heap}
variable {C_VaultError C_NumberError C_BadPrime C_BadTable C_BadCells C_ShapeError C_PaperError C_BadMove fV fI_BadMove fI_BadCells fI_BadPrime fI_BadTable : Addr}
variable (T : Txt P K mg C_VaultError C_NumberError C_BadPrime C_BadTable C_BadCells C_ShapeError C_PaperError C_BadMove fV fI_BadMove fI_BadCells fI_BadPrime fI_BadTable)
include T
open L2N (pe_ex exz)
def NB (H : Hp) (b : V) : Prop := (∃ i, b = .int i ∧ i < 1) ∨ (∃ n, NotInt H b n)
/-- which door is spoilt how -/
def Door (H : Hp) (k : Int) (pv u v b : V) (P1 P2 P3 P4 : Prop) : Prop :=
  ((k = 0 ∨ k = 1 ∨ k = 2) ∧ NoV H pv ∧ P1) ∨ ∃ p : Int, pv = .int p ∧ p ∈ M02.primes ∧ (((k = 0 ∨ k = 1 ∨ k = 2) ∧ NoTb H p u ∧ P2) ∨ ∃ tb, TbAt H u p tb ∧ (((k = 0 ∨ k = 1) ∧ NoTb H p v ∧ P3) ∨ ∃ t2, TbAt H v p t2 ∧ (k = 0 ∨ k = 3 ∨ k = 4) ∧ NB H b ∧ P4))
omit T in
theorem NoV.keep {H H' : Hp} {v : V} (h : NoV H v) (s : Same H H') : NoV H' v := h.elim .inl fun ⟨n, e⟩ => .inr ⟨n, e.keep s⟩
def spDoor (Cp Ct Cc : Addr) : Sp := fun vs H Q E => ∃ (k : Int) (pv u v b : V), vs = [.int k, pv, u, v, b] ∧ Door H k pv u v b
  (∀ d H', Same H H' → H' d = none → E (.ref Cp) (some d) (upd H' d (.xd (excD ["value"] "BadPrime" [pv]))))
  (∀ d H', Same H H' → H' d = none → E (.ref Ct) (some d) (upd H' d (.xd (excD ["which"] "BadTable" [.str "up"]))))
  (∀ d H', Same H H' → H' d = none → E (.ref Ct) (some d) (upd H' d (.xd (excD ["which"] "BadTable" [.str "down"]))))
  (∀ d H', Same H H' → H' d = none → E (.ref Cc) (some d) (upd H' d (.xd (excD ["cells"] "BadCells" [b]))))
theorem ok_door {f : Addr} {fd : FuncData} (F : Fun K "_law_door" "_law_door" s_door f fd) {f_run_moves : Addr} {fd_run_moves : FuncData} (D_run_moves : DefK K mg "run_moves" s_run_moves p_run_moves ["start", "length", "cells"] f_run_moves fd_run_moves) (G_run_moves : FnOk P w K mg base (L2N.CX P w) 5 f_run_moves fd_run_moves p_run_moves (spRun K C_BadPrime C_BadTable C_BadCells C_BadMove)) {f_stretch : Addr} {fd_stretch : FuncData} (D_stretch : DefK K mg "stretch" s_stretch p_stretch ["password", "salt", "length"] f_stretch fd_stretch) (G_stretch : FnOk P w K mg base (L2N.CX P w) 6 f_stretch fd_stretch p_stretch (spStretch C_BadPrime C_BadTable)) {f_chain : Addr} {fd_chain : FuncData} (D_chain : Def K mg "chain" s_chain p_chain f_chain fd_chain) (G_chain : FnOk P w K mg base (L2N.CX P w) 5 f_chain fd_chain p_chain (spChain C_BadPrime C_BadTable)) {f_move_list : Addr} {fd_move_list : FuncData} (D_move_list : Def K mg "move_list" s_move_list p_move_list f_move_list fd_move_list) (G_move_list : FnOk P w K mg base (L2N.CX P w) 131 f_move_list fd_move_list p_move_list (spR C_BadCells spMoves)) {f_check_moves : Addr} {fd_check_moves : FuncData} (D_check_moves : Def K mg "check_moves" s_check_moves p_check_moves f_check_moves fd_check_moves) (G_check_moves : FnOk P w K mg base (L2N.CX P w) 4 f_check_moves fd_check_moves p_check_moves (spCheck K C_BadCells C_BadMove)) : FnOk P w K mg base (L2N.CX P w) 132 f fd p_door (spDoor C_BadPrime C_BadTable C_BadCells) := by
  refine F.okN sc_door (fun vs H Q E h => ?_) (fun cdv A outer s H vs Q E hr h => ?_)
  · obtain ⟨k, p1, u, v, b, rfl, _⟩ := h
    rfl
  · obtain ⟨k, p1, u, v, b, rfl, q⟩ := h
    have tk := L2N.takes_of (X := cxOf (L2N.CX P w) P w K mg base N_door "_law_door" (defScope s_door) f cdv A outer s H E) rfl rfl rfl rfl
    refine ⟨_, (pss_cons (ps_if (pt_cmpR op_eq (pv 0) pe_int (nomark _)) (pss_one (ps_ret (by exact (pe_callSK G_run_moves (hr.mono (by first | decide | omega)) rfl D_run_moves.g D_run_moves.fn.kp D_run_moves.b (fun σ => L2N.passAt tk σ) (pa_cons (pv 1) (pa_cons (pv 2) (pa_cons (pv 3) (pa_cons (pe_lst pa_nil) pa_nil)))) (pk_cons pe_int (pk_cons pe_int (pk_cons (pv 4) pk_nil))))))) pss_nil)
      (pss_cons (ps_if (pt_cmpR op_eq (pv 0) pe_int (nomark _)) (pss_one (ps_ret (by exact (pe_callSK G_stretch (hr.mono (by first | decide | omega)) rfl D_stretch.g D_stretch.fn.kp D_stretch.b (fun σ => L2N.passAt tk σ) (pa_cons (pv 1) (pa_cons (pv 2) (pa_cons (pv 3) pa_nil))) (pk_cons pe_int (pk_cons pe_int (pk_cons pe_int pk_nil))))))) pss_nil)
      (pss_cons (ps_if (pt_cmpR op_eq (pv 0) pe_int (nomark _)) (pss_one (ps_ret (by exact (pe_callS G_chain (hr.mono (by first | decide | omega)) rfl D_chain.g D_chain.fn.kp D_chain.b (fun σ => L2N.passAt tk σ) (pa_cons (pv 1) (pa_cons (pv 2) (pa_cons pe_int (pa_cons pe_int pa_nil)))))))) pss_nil)
      (pss_cons (ps_if (pt_cmpR op_eq (pv 0) pe_int (nomark _)) (pss_one (ps_ret (by exact (pe_callS G_move_list (hr.mono (by first | decide | omega)) rfl D_move_list.g D_move_list.fn.kp D_move_list.b (fun σ => L2N.passAt tk σ) (pa_cons pe_int (pa_cons (pv 4) pa_nil)))))) pss_nil)
      (pss_one (ps_ret (by exact (pe_callS G_check_moves (hr.mono (by first | decide | omega)) rfl D_check_moves.g D_check_moves.fn.kp D_check_moves.b (fun σ => L2N.passAt tk σ) (pa_cons pe_int (pa_cons (pv 4) (pa_cons (pe_lst pa_nil) pa_nil))))))))))), ?_⟩
    walk_at "rd"
    rcases q with ⟨hk, hv, q⟩ | ⟨p, rfl, hp, ⟨hk, hu, q⟩ | ⟨tb, hu, ⟨hk, hv, q⟩ | ⟨t2, hv, hk, hb, q⟩⟩⟩
    · rcases hk with rfl | rfl | rfl
      · walk_at "rd"
        walk_at "nw"
        intro e he
        have s1 := same_new (o := .lst []) he
        walk_at "rd"
        exact ⟨_, u, v, .ref e, b, 0, 0, rfl, .inr ⟨hv.keep s1, fun d hd => q d _ s1 hd⟩⟩
      · walk_at "rd"
        exact ⟨_, u, v, 0, 0, 1, rfl, .inr ⟨hv, fun d hd => q d _ (fun _ _ z => z) hd⟩⟩
      · walk_at "rd"
        exact ⟨_, u, 0, 0, rfl, .inr ⟨hv, fun d hd => q d _ (fun _ _ z => z) hd⟩⟩
    · rcases hk with rfl | rfl | rfl
      · walk_at "rd"
        walk_at "nw"
        intro e he
        have s1 := same_new (o := .lst []) he
        walk_at "rd"
        exact ⟨_, u, v, .ref e, b, 0, 0, rfl, .inl ⟨p, rfl, hp, .inr ⟨hu.keep s1, fun d H2 s hd => q d H2 (s1.trans s) hd⟩⟩⟩
      · walk_at "rd"
        exact ⟨_, u, v, 0, 0, 1, rfl, .inl ⟨p, rfl, hp, .inr ⟨hu, q⟩⟩⟩
      · walk_at "rd"
        exact ⟨_, u, 0, 0, rfl, .inl ⟨p, rfl, hp, .inr ⟨hu, q⟩⟩⟩
    · rcases hk with rfl | rfl
      · walk_at "rd"
        walk_at "nw"
        intro e he
        have s1 := same_new (o := .lst []) he
        walk_at "rd"
        exact ⟨_, u, v, .ref e, b, 0, 0, rfl, .inl ⟨p, rfl, hp, .inl ⟨tb, hu.keep s1, .inr ⟨hv.keep s1, fun d H2 s hd => q d H2 (s1.trans s) hd⟩⟩⟩⟩
      · walk_at "rd"
        exact ⟨_, u, v, 0, 0, 1, rfl, .inl ⟨p, rfl, hp, .inl ⟨tb, hu, .inr ⟨hv, q⟩⟩⟩⟩
    · rcases hk with rfl | rfl | rfl
      · walk_at "rd"
        walk_at "nw"
        intro e he
        have s1 := same_new (o := .lst []) he
        walk_at "rd"
        exact ⟨_, u, v, .ref e, b, 0, 0, rfl, .inl ⟨p, rfl, hp, .inl ⟨tb, hu.keep s1, .inl ⟨t2, hv.keep s1, .inr ⟨nb_keep hb s1, fun d H2 s hd => q d H2 (s1.trans s) hd⟩⟩⟩⟩⟩
      · walk_at "rd"
        exact .inr ⟨hb, fun d hd => q d _ (fun _ _ z => z) hd⟩
      · walk_at "rd"
        walk_at "nw"
        intro e he
        have s1 := same_new (o := .lst []) he
        walk_at "rd"
        exact ⟨1, b, .ref e, rfl, .inr ⟨nb_keep hb s1, fun d hd => q d _ s1 hd⟩⟩
def spSpoilt : Sp := fun vs H Q _ => ∃ (k : Int) (pv u v b : V), vs = [.int k, pv, u, v, b] ∧ Door H k pv u v b
  (∀ t H', Same H H' → H' t = some (.tup [.str "error", .str "badprime", pv, .bl true]) → Q (.ref t) H')
  (∀ t H', Same H H' → H' t = some (.tup [.str "error", .str "badtable", .str "up", .bl true]) → Q (.ref t) H')
  (∀ t H', Same H H' → H' t = some (.tup [.str "error", .str "badtable", .str "down", .bl true]) → Q (.ref t) H')
  (∀ t H', Same H H' → H' t = some (.tup [.str "error", .str "badcells", b, .bl true]) → Q (.ref t) H')
omit T in
theorem Door.map {H : Hp} {k : Int} {pv u v b : V} {P1 P2 P3 P4 R1 R2 R3 R4 : Prop} (h : Door H k pv u v b P1 P2 P3 P4) (f1 : P1 → R1) (f2 : P2 → R2) (f3 : P3 → R3) (f4 : P4 → R4) : Door H k pv u v b R1 R2 R3 R4 := by
  rcases h with ⟨hk, hv, q⟩ | ⟨p, e, hp, ⟨hk, hu, q⟩ | ⟨tb, hu, ⟨hk, hv, q⟩ | ⟨t2, hv, hk, hb, q⟩⟩⟩
  · exact .inl ⟨hk, hv, f1 q⟩
  · exact .inr ⟨p, e, hp, .inl ⟨hk, hu, f2 q⟩⟩
  · exact .inr ⟨p, e, hp, .inr ⟨tb, hu, .inl ⟨hk, hv, f3 q⟩⟩⟩
  · exact .inr ⟨p, e, hp, .inr ⟨tb, hu, .inr ⟨t2, hv, hk, hb, f4 q⟩⟩⟩
theorem ok_spoilt {f : Addr} {fd : FuncData} (F : Fun K "_law_spoilt" "_law_spoilt" s_spoilt f fd) {f_door : Addr} {fd_door : FuncData} (D_door : Def K mg "_law_door" s_door p_door f_door fd_door) (G_door : FnOk P w K mg base (L2N.CX P w) 132 f_door fd_door p_door (spDoor C_BadPrime C_BadTable C_BadCells)) (X1 : PySem.W.exmOne K (.ref C_BadPrime) (.ref C_BadPrime) = some true) (X2 : PySem.W.exmOne K (.ref C_BadTable) (.ref C_BadPrime) = some false) (X3 : PySem.W.exmOne K (.ref C_BadTable) (.ref C_BadTable) = some true)
    (X4 : PySem.W.exmOne K (.ref C_BadCells) (.ref C_BadPrime) = some false) (X5 : PySem.W.exmOne K (.ref C_BadCells) (.ref C_BadTable) = some false) (X6 : PySem.W.exmOne K (.ref C_BadCells) (.ref C_BadCells) = some true) : FnOk P w K mg base CX0 133 f fd p_spoilt spSpoilt := by
  refine F.ok sc_spoilt (fun vs H Q E h => ?_) (fun cdv A outer s H vs Q E hr h => ?_)
  · obtain ⟨k, p1, u, v, b, rfl, _⟩ := h
    rfl
  · obtain ⟨k, p1, u, v, b, rfl, q⟩ := h
    refine ⟨_, (pss_one (L2N.ps_tryH (tb := _) (Wo := fun _ _ _ _ => False) sc_spoilt.nd rfl rfl takesN0
  (fun W pn xe tk _ => (pss_one (ps_ret (by exact (pe_tup (pa_cons pe_str (pa_cons (pe_callS G_door (hr.mono (by first | decide | omega)) rfl D_door.g D_door.fn.kp D_door.b (fun σ => L2N.passAt tk σ) (pa_cons (pv 0) (pa_cons (pv 1) (pa_cons (pv 2) (pa_cons (pv 3) (pa_cons (pv 4) pa_nil)))))) pa_nil)))))))
  (.named (i := 5) (ts := _) ⟨rfl, by decide, Or.inl T.g_BadPrime⟩ rfl rfl (fun a oe cls d pn hz hf => (pss_one (ps_ret (by exact (pe_ex (p := fun d' => cls = .ref C_BadPrime ∧ d = some d') (fun d' h => (pe_tup (pa_cons pe_str (pa_cons (L2N.pe_xa (List.mem_cons_self (a := (a, oe))) T.lf_BadPrime.kind (exz (a := a) hz hf h) T.lf_BadPrime.kind.nw (pv 5)) (pa_cons (L2N.pe_xa (List.mem_cons_self (a := (a, oe))) T.lf_BadPrime.kind (exz (a := a) hz hf h) (T.lf_BadPrime.nf "value" List.mem_cons_self).1 (pv 5)) (pa_cons (pe_and (pe_callB (id := "isinstance") (L2N.call_isOA (K := K) rfl (List.mem_cons_self (a := (a, oe))) T.lf_BadPrime.kind (exz (a := a) hz hf h)) (by rfl) T.b_isinstance (by first | exact PySem.boot_isinstance | decide +kernel) (pa_cons (pv 5) (pa_cons (pe_glob (v := .ref C_NumberError) rfl T.g_NumberError rfl) pa_nil))) (pe_one (pe_not (pe_callB (id := "isinstance") (L2N.call_isPA (K := K) rfl (List.mem_cons_self (a := (a, oe))) T.lf_BadPrime.kind (exz (a := a) hz hf h)) (by rfl) T.b_isinstance (by first | exact PySem.boot_isinstance | decide +kernel) (pa_cons (pv 5) (pa_cons (pe_tup (pa_cons (pe_glob (v := .ref C_BadTable) rfl T.g_BadTable rfl) (pa_cons (pe_glob (v := .ref C_BadCells) rfl T.g_BadCells rfl) pa_nil))) pa_nil)))))) pa_nil)))))))))))
  (.named (i := 5) (ts := _) ⟨rfl, by decide, Or.inl T.g_BadTable⟩ rfl rfl (fun a oe cls d pn hz hf => (pss_one (ps_ret (by exact (pe_ex (p := fun d' => cls = .ref C_BadTable ∧ d = some d') (fun d' h => (pe_tup (pa_cons pe_str (pa_cons (L2N.pe_xa (List.mem_cons_self (a := (a, oe))) T.lf_BadTable.kind (exz (a := a) hz hf h) T.lf_BadTable.kind.nw (pv 5)) (pa_cons (L2N.pe_xa (List.mem_cons_self (a := (a, oe))) T.lf_BadTable.kind (exz (a := a) hz hf h) (T.lf_BadTable.nf "which" List.mem_cons_self).1 (pv 5)) (pa_cons (pe_and (pe_callB (id := "isinstance") (L2N.call_isOA (K := K) rfl (List.mem_cons_self (a := (a, oe))) T.lf_BadTable.kind (exz (a := a) hz hf h)) (by rfl) T.b_isinstance (by first | exact PySem.boot_isinstance | decide +kernel) (pa_cons (pv 5) (pa_cons (pe_glob (v := .ref C_NumberError) rfl T.g_NumberError rfl) pa_nil))) (pe_one (pe_not (pe_callB (id := "isinstance") (L2N.call_isPA (K := K) rfl (List.mem_cons_self (a := (a, oe))) T.lf_BadTable.kind (exz (a := a) hz hf h)) (by rfl) T.b_isinstance (by first | exact PySem.boot_isinstance | decide +kernel) (pa_cons (pv 5) (pa_cons (pe_tup (pa_cons (pe_glob (v := .ref C_BadPrime) rfl T.g_BadPrime rfl) (pa_cons (pe_glob (v := .ref C_BadCells) rfl T.g_BadCells rfl) pa_nil))) pa_nil)))))) pa_nil)))))))))))
  (.named (i := 5) (ts := _) ⟨rfl, by decide, Or.inl T.g_BadCells⟩ rfl rfl (fun a oe cls d pn hz hf => (pss_one (ps_ret (by exact (pe_ex (p := fun d' => cls = .ref C_BadCells ∧ d = some d') (fun d' h => (pe_tup (pa_cons pe_str (pa_cons (L2N.pe_xa (List.mem_cons_self (a := (a, oe))) T.lf_BadCells.kind (exz (a := a) hz hf h) T.lf_BadCells.kind.nw (pv 5)) (pa_cons (L2N.pe_xa (List.mem_cons_self (a := (a, oe))) T.lf_BadCells.kind (exz (a := a) hz hf h) (T.lf_BadCells.nf "cells" List.mem_cons_self).1 (pv 5)) (pa_cons (pe_and (pe_callB (id := "isinstance") (L2N.call_isOA (K := K) rfl (List.mem_cons_self (a := (a, oe))) T.lf_BadCells.kind (exz (a := a) hz hf h)) (by rfl) T.b_isinstance (by first | exact PySem.boot_isinstance | decide +kernel) (pa_cons (pv 5) (pa_cons (pe_glob (v := .ref C_NumberError) rfl T.g_NumberError rfl) pa_nil))) (pe_one (pe_not (pe_callB (id := "isinstance") (L2N.call_isPA (K := K) rfl (List.mem_cons_self (a := (a, oe))) T.lf_BadCells.kind (exz (a := a) hz hf h)) (by rfl) T.b_isinstance (by first | exact PySem.boot_isinstance | decide +kernel) (pa_cons (pv 5) (pa_cons (pe_tup (pa_cons (pe_glob (v := .ref C_BadPrime) rfl T.g_BadPrime rfl) (pa_cons (pe_glob (v := .ref C_BadTable) rfl T.g_BadTable rfl) pa_nil))) pa_nil)))))) pa_nil)))))))))))
  (.bare (ts := _) ⟨rfl, by decide, Or.inl T.g_VaultError⟩ (fun a oe cls d pn hz hf => (pss_one (ps_ret (by exact (pe_tup (pa_cons pe_str (pa_cons pe_str pa_nil)))))))
  .nil)))))), ?_⟩
    walk_at "rd"
    refine ⟨k, p1, u, v, b, rfl, q.map (fun q d H2 s2 hd => ?_) (fun q d H2 s2 hd => ?_) (fun q d H2 s2 hd => ?_) (fun q d H2 s2 hd => ?_)⟩
    · refine ⟨true, X1, fun _ y hy => ?_, fun z => nomatch z⟩
      · skip
        refine ⟨d, ⟨rfl, rfl⟩, ?_⟩
        walk_at "rd"
        refine ⟨rfl, _, _, upd_same, xd_word_BadPrime _, ?_⟩
        walk_at "rd"
        refine ⟨rfl, _, _, upd_same, xd_value_BadPrime _, ?_⟩
        walk_at "rd"
        refine ⟨_, _, true, _, rfl, fun _ h => h, T.k_BadPrime_NumberError, upd_same, ?_⟩
        walk_at "rd"
        walk_at "nw"
        intro tp htp
        have s3 := same_new (o := .xd (excD ["value"] "BadPrime" [p1])) hd
        generalize hg : upd H2 d _ = H3 at s3 htp ⊢
        have e3 : H3 d = some (.xd (excD ["value"] "BadPrime" [p1])) := by rw [← hg]; exact upd_same
        clear hg hy
        have s4 : Same H3 (upd H3 tp (.tup [.ref C_BadTable, .ref C_BadCells])) := same_new htp
        generalize hg : upd H3 tp _ = H4 at s4 ⊢
        have e4 : H4 tp = some (.tup [.ref C_BadTable, .ref C_BadCells]) := by rw [← hg]; exact upd_same
        clear hg
        dsimp only [tNil]
        refine ⟨tp, _, _, false, _, rfl, e4, .cons (.own _) (.cons (.own _) .nil), kitAny_cons T.k_BadPrime_BadTable (fun _ => kitAny_cons T.k_BadPrime_BadCells (fun _ => rfl) fun z => (nomatch z)) fun z => (nomatch z), s4 _ _ e3, ?_⟩
        walk_at "rd"
        walk_at "nw"
        intro t ht
        exact q t _ ((s2.trans (s3.trans s4)).trans (same_new ht)) upd_same
    · refine ⟨false, X2, fun z => (nomatch z), fun _ => ⟨true, X3, fun _ y hy => ?_, fun z => nomatch z⟩⟩
      · skip
        refine ⟨d, ⟨rfl, rfl⟩, ?_⟩
        walk_at "rd"
        refine ⟨rfl, _, _, upd_same, xd_word_BadTable _, ?_⟩
        walk_at "rd"
        refine ⟨rfl, _, _, upd_same, xd_which_BadTable _, ?_⟩
        walk_at "rd"
        refine ⟨_, _, true, _, rfl, fun _ h => h, T.k_BadTable_NumberError, upd_same, ?_⟩
        walk_at "rd"
        walk_at "nw"
        intro tp htp
        have s3 := same_new (o := .xd (excD ["which"] "BadTable" [.str "up"])) hd
        generalize hg : upd H2 d _ = H3 at s3 htp ⊢
        have e3 : H3 d = some (.xd (excD ["which"] "BadTable" [.str "up"])) := by rw [← hg]; exact upd_same
        clear hg hy
        have s4 : Same H3 (upd H3 tp (.tup [.ref C_BadPrime, .ref C_BadCells])) := same_new htp
        generalize hg : upd H3 tp _ = H4 at s4 ⊢
        have e4 : H4 tp = some (.tup [.ref C_BadPrime, .ref C_BadCells]) := by rw [← hg]; exact upd_same
        clear hg
        dsimp only [tNil]
        refine ⟨tp, _, _, false, _, rfl, e4, .cons (.own _) (.cons (.own _) .nil), kitAny_cons T.k_BadTable_BadPrime (fun _ => kitAny_cons T.k_BadTable_BadCells (fun _ => rfl) fun z => (nomatch z)) fun z => (nomatch z), s4 _ _ e3, ?_⟩
        walk_at "rd"
        walk_at "nw"
        intro t ht
        exact q t _ ((s2.trans (s3.trans s4)).trans (same_new ht)) upd_same
    · refine ⟨false, X2, fun z => (nomatch z), fun _ => ⟨true, X3, fun _ y hy => ?_, fun z => nomatch z⟩⟩
      · skip
        refine ⟨d, ⟨rfl, rfl⟩, ?_⟩
        walk_at "rd"
        refine ⟨rfl, _, _, upd_same, xd_word_BadTable _, ?_⟩
        walk_at "rd"
        refine ⟨rfl, _, _, upd_same, xd_which_BadTable _, ?_⟩
        walk_at "rd"
        refine ⟨_, _, true, _, rfl, fun _ h => h, T.k_BadTable_NumberError, upd_same, ?_⟩
        walk_at "rd"
        walk_at "nw"
        intro tp htp
        have s3 := same_new (o := .xd (excD ["which"] "BadTable" [.str "down"])) hd
        generalize hg : upd H2 d _ = H3 at s3 htp ⊢
        have e3 : H3 d = some (.xd (excD ["which"] "BadTable" [.str "down"])) := by rw [← hg]; exact upd_same
        clear hg hy
        have s4 : Same H3 (upd H3 tp (.tup [.ref C_BadPrime, .ref C_BadCells])) := same_new htp
        generalize hg : upd H3 tp _ = H4 at s4 ⊢
        have e4 : H4 tp = some (.tup [.ref C_BadPrime, .ref C_BadCells]) := by rw [← hg]; exact upd_same
        clear hg
        dsimp only [tNil]
        refine ⟨tp, _, _, false, _, rfl, e4, .cons (.own _) (.cons (.own _) .nil), kitAny_cons T.k_BadTable_BadPrime (fun _ => kitAny_cons T.k_BadTable_BadCells (fun _ => rfl) fun z => (nomatch z)) fun z => (nomatch z), s4 _ _ e3, ?_⟩
        walk_at "rd"
        walk_at "nw"
        intro t ht
        exact q t _ ((s2.trans (s3.trans s4)).trans (same_new ht)) upd_same
    · refine ⟨false, X4, fun z => (nomatch z), fun _ => ⟨false, X5, fun z => (nomatch z), fun _ => ⟨true, X6, fun _ y hy => ?_, fun z => nomatch z⟩⟩⟩
      · skip
        refine ⟨d, ⟨rfl, rfl⟩, ?_⟩
        walk_at "rd"
        refine ⟨rfl, _, _, upd_same, xd_word_BadCells _, ?_⟩
        walk_at "rd"
        refine ⟨rfl, _, _, upd_same, xd_cells_BadCells _, ?_⟩
        walk_at "rd"
        refine ⟨_, _, true, _, rfl, fun _ h => h, T.k_BadCells_NumberError, upd_same, ?_⟩
        walk_at "rd"
        walk_at "nw"
        intro tp htp
        have s3 := same_new (o := .xd (excD ["cells"] "BadCells" [b])) hd
        generalize hg : upd H2 d _ = H3 at s3 htp ⊢
        have e3 : H3 d = some (.xd (excD ["cells"] "BadCells" [b])) := by rw [← hg]; exact upd_same
        clear hg hy
        have s4 : Same H3 (upd H3 tp (.tup [.ref C_BadPrime, .ref C_BadTable])) := same_new htp
        generalize hg : upd H3 tp _ = H4 at s4 ⊢
        have e4 : H4 tp = some (.tup [.ref C_BadPrime, .ref C_BadTable]) := by rw [← hg]; exact upd_same
        clear hg
        dsimp only [tNil]
        refine ⟨tp, _, _, false, _, rfl, e4, .cons (.own _) (.cons (.own _) .nil), kitAny_cons T.k_BadCells_BadPrime (fun _ => kitAny_cons T.k_BadCells_BadTable (fun _ => rfl) fun z => (nomatch z)) fun z => (nomatch z), s4 _ _ e3, ?_⟩
        walk_at "rd"
        walk_at "nw"
        intro t ht
        exact q t _ ((s2.trans (s3.trans s4)).trans (same_new ht)) upd_same
end
end K47

set_option Elab.async false
set_option linter.all false
set_option maxRecDepth 100000
set_option maxHeartbeats 4000000
set_option pp.deepTerms false
set_option pp.deepTerms.threshold 12
namespace K47
open PySem PySem.Spec PyProof.Rows L2
local macro_rules | `(tactic| walk_at "ty") => `(tactic| first | exact .base (.int _) | exact .base (.bl _) | exact .base (.str _) | exact .base .non | assumption | exact .base (.tup (by assumption)) | exact .base (.lst (by assumption)))
local macro_rules | `(tactic| walk_at "cm") => `(tactic| first | exact cm_r (by decide) (by decide) | exact cm_l (by decide) (by decide) | exact cm_fmod (by decide) (by decide) | exact cm_r (by omega) (by omega) | exact cm_l (by omega) (by omega))
local macro_rules | `(tactic| walk_at "dv") => `(tactic| first | exact ⟨by decide, by decide⟩ | exact ⟨by omega, by omega⟩)
local macro_rules | `(tactic| walk_at "r1") => `(tactic| first
  | refine ⟨_, rfl, ?_⟩ | refine ⟨_, _, rfl, rfl, ?_⟩ | refine Or.inl ⟨_, rfl, ?_⟩ | refine Or.inr ⟨_, rfl, ?_⟩
  | refine And.intro (a := CMul _ _) (by walk_at "cm") ?_ | refine And.intro (a := CDivN _ _) (by walk_at "dv") ?_ | refine And.intro (a := _ ≠ (0 : Int)) (by first | decide | omega) ?_ | refine And.intro (a := scal _ _ = true) rfl ?_ | refine ⟨_, _, _, _, rfl, rfl, SqL.of (by first | exact upd_same | assumption), rfl, ?_⟩ | refine ⟨_, _, _, _, rfl, rfl, (by first | exact upd_same | assumption), rfl, ?_⟩ | refine ⟨_, _, rfl, ?_⟩ | refine And.intro (a := (_ : V) = V.non) rfl ?_ | refine And.intro (a := CPow _ _) ⟨by decide, by decide, by decide⟩ ?_ | refine And.intro (a := (_ : List V) = []) rfl ?_ | refine ⟨_, _, rfl, SqT.of (by first | exact upd_same | assumption), rfl, ?_⟩
  | refine ⟨_, _, _, _, rfl, rfl, SqT.of (by first | exact upd_same | assumption), rfl, ?_⟩
  | refine ⟨_, _, _, _, true, rfl, ClsV.ty _, (by walk_at "ty"), kit_ty (by decide +kernel), ?_⟩ | refine ⟨_, _, _, _, false, rfl, ClsV.ty _, (by walk_at "ty"), kit_ty (by decide +kernel), ?_⟩)
local macro_rules | `(tactic| walk_at "rd") => `(tactic| repeat walk_at "r1")
local macro_rules | `(tactic| walk_at "yes") => `(tactic| (change (if true = true then _ else _); rw [if_pos rfl]))
local macro_rules | `(tactic| walk_at "no") => `(tactic| (change (if false = true then _ else _); rw [if_neg Bool.false_ne_true]))
local macro_rules | `(tactic| walk_at "nw") => `(tactic| refine And.intro (a := _ ≤ sizeLine) (sz_le (Nat.le_of_ble_eq_true rfl)) ?_)

section
variable {P : Program} {w : World} {K : PySem.W.Frag} {mg : Str → Option Value} {base : Heap}
variable {C_VaultError C_NumberError C_BadPrime C_BadTable C_BadCells C_ShapeError C_PaperError C_BadMove fV fI_BadMove fI_BadCells fI_BadPrime fI_BadTable : Addr}
variable (T : Txt P K mg C_VaultError C_NumberError C_BadPrime C_BadTable C_BadCells C_ShapeError C_PaperError C_BadMove fV fI_BadMove fI_BadCells fI_BadPrime fI_BadTable)
include T
omit T in
theorem sameD_tupF {H : Hp} {a b : Addr} {xs : List V} (ha : H a = some (.tup xs)) (hb : H b = some (.tup xs)) (hz : xs.length ≤ 100000) (h : ∀ x ∈ xs, flatV x = true) : SameD H 2 (.ref a) (.ref b) :=
  .inr ⟨a, b, xs, xs, rfl, rfl, .inl ⟨ha, hb⟩, rfl, hz, fun i p q hp hq => by
    rw [hp] at hq
    cases hq
    exact .inl ⟨rfl, h _ (List.mem_of_getElem? hp)⟩⟩
omit T in
theorem fl2 {x y : V} (hx : flatV x = true) (hy : flatV y = true) : ∀ z ∈ [x, y], flatV z = true := fun z hz => by
  simp only [List.mem_cons, List.mem_nil_iff, or_false] at hz
  rcases hz with rfl | rfl
  · exact hx
  · exact hy
omit T in
theorem fl4 {x y z u : V} (hx : flatV x = true) (hy : flatV y = true) (hz : flatV z = true) (hu : flatV u = true) : ∀ v ∈ [x, y, z, u], flatV v = true := fun v hv => by
  simp only [List.mem_cons, List.mem_nil_iff, or_false] at hv
  rcases hv with rfl | rfl | rfl | rfl
  · exact hx
  · exact hy
  · exact hz
  · exact hu
/-- what the law's play makes due -/
def DueR (n c W : Int) (ms : List Mv) (H' : Hp) (dt rt : Addr) : Prop :=
  (∃ k u, verdict n c ms = .inl k ∧ H' dt = some (.tup [.str "told", .int k]) ∧ H' rt = some (.tup [.str "told", .ref u]) ∧ H' u = some (.tup [.int W, .int k])) ∨
  ∃ j : Nat, verdict n c ms = .inr j ∧ H' dt = some (.tup [.str "error", .str "badmove", .int j, .bl true]) ∧ rt = dt
omit T in
theorem DueR.keep {n c W : Int} {ms : List Mv} {H H' : Hp} {dt rt : Addr} (h : DueR n c W ms H dt rt) (s : Same H H') : DueR n c W ms H' dt rt :=
  h.imp (fun ⟨k, u, h1, h2, h3, h4⟩ => ⟨k, u, h1, s _ _ h2, s _ _ h3, s _ _ h4⟩) fun ⟨j, h1, h2, h3⟩ => ⟨j, h1, s _ _ h2, h3⟩
omit T in
theorem DueR.chk {n c W : Int} {ms : List Mv} {H : Hp} {dt rt t : Addr} (h : DueR n c W ms H dt rt) (g : (∃ k, verdict n c ms = .inl k ∧ H t = some (.tup [.str "told", .int k])) ∨ ∃ j : Nat, verdict n c ms = .inr j ∧ H t = some (.tup [.str "error", .str "badmove", .int j, .bl true])) : SameD H 2 (.ref t) (.ref dt) := by
  rcases h with ⟨k, u, h1, h2, _⟩ | ⟨j, h1, h2, _⟩
  · rcases g with ⟨k', g1, g2⟩ | ⟨j', g1, _⟩
    · rw [h1] at g1
      cases g1
      exact sameD_tupF g2 h2 (by show 2 ≤ 100000; decide) (fl2 rfl rfl)
    · rw [h1] at g1
      cases g1
  · rcases g with ⟨k', g1, g2⟩ | ⟨j', g1, g2⟩
    · rw [h1] at g1
      cases g1
    · rw [h1] at g1
      cases g1
      exact sameD_tupF g2 h2 (by show 4 ≤ 100000; decide) (fl4 rfl rfl rfl rfl)
omit T in
theorem sameD_told {H : Hp} {a b u v : Addr} {x y : V} (ha : H a = some (.tup [.str "told", .ref u])) (hb : H b = some (.tup [.str "told", .ref v])) (hu : H u = some (.tup [x, y])) (hv : H v = some (.tup [x, y])) (fx : flatV x = true) (fy : flatV y = true) : SameD H 3 (.ref a) (.ref b) :=
  .inr ⟨a, b, _, _, rfl, rfl, .inl ⟨ha, hb⟩, rfl, by show 2 ≤ 100000; decide, fun i p q hp hq => by
    match i with
    | 0 => cases hp; cases hq; exact .inl ⟨rfl, rfl⟩
    | 1 => cases hp; cases hq; exact sameD_tupF hu hv (by show 2 ≤ 100000; decide) (fl2 fx fy)
    | i + 2 => cases hp⟩
omit T in
theorem DueR.ran {n c W : Int} {ms : List Mv} {H : Hp} {dt rt t : Addr} (h : DueR n c W ms H dt rt) (g : RanIs n c W ms H t) : SameD H 3 (.ref t) (.ref rt) := by
  rcases h with ⟨k, u, h1, h2, h3, h4⟩ | ⟨j, h1, h2, rfl⟩
  · rcases g with ⟨k', u', g1, g2, g3⟩ | ⟨j', g1, _⟩
    · rw [h1] at g1
      cases g1
      exact sameD_told g2 h3 g3 h4 rfl rfl
    · rw [h1] at g1
      cases g1
  · rcases g with ⟨k', u', g1, g2, _⟩ | ⟨j', g1, g2⟩
    · rw [h1] at g1
      cases g1
    · rw [h1] at g1
      cases g1
      exact SameD.le (sameD_tupF g2 h2 (by show 4 ≤ 100000; decide) (fl4 rfl rfl rfl rfl)) (by decide)
def spRight : Sp := fun vs H Q _ => ∃ (p : Int) (ua da ma : Addr) (x : Int) (n : Nat) (c : Int), vs = [.int p, .ref ua, .ref da, .ref ma, .int x, .int n, .int c] ∧ (p ∈ M02.primes ∧ 0 ≤ x ∧ x < p ∧ n ≤ 120 ∧ 1 ≤ c ∧ c ≤ 120) ∧ ∃ (tb t2 : List Int) (xs : List V) (ms : List Mv),
  SeqAt H ua (tb.map V.int) ∧ SeqAt H da (t2.map V.int) ∧ TbOk p tb ∧ TbOk p t2 ∧ H ma = some (.lst xs) ∧ xs.length ≤ 20000 ∧ IsMs H xs ms ∧ (∀ x ∈ xs, SameD H 2 x x) ∧ ∀ H', Same H H' → Q (.bl true) H'
theorem ok_movesright {f : Addr} {fd : FuncData} (F : Fun K "_law_movesright" "_law_movesright" s_movesright f fd) {f_play : Addr} {fd_play : FuncData} (D_play : Def K mg "_law_play" s_play p_play f_play fd_play) (G_play : FnOk P w K mg base CX0 3 f_play fd_play p_play (spPlay K)) {f_stretchof : Addr} {fd_stretchof : FuncData} (D_stretchof : Def K mg "_law_stretchof" s_stretchof p_stretchof f_stretchof fd_stretchof) (G_stretchof : FnOk P w K mg base CX0 1 f_stretchof fd_stretchof p_stretchof spStretchof) {f_same : Addr} {fd_same : FuncData} (D_same : Def K mg "_law_same" s_same p_same f_same fd_same) (G_same : FnOk P w K mg base CX0 6 f_same fd_same p_same (spSame 6)) {f_checked : Addr} {fd_checked : FuncData} (D_checked : Def K mg "_law_checked" s_checked p_checked f_checked fd_checked) (G_checked : FnOk P w K mg base CX0 7 f_checked fd_checked p_checked spChecked) {f_ran : Addr} {fd_ran : FuncData} (D_ran : Def K mg "_law_ran" s_ran p_ran f_ran fd_ran) (G_ran : FnOk P w K mg base CX0 7 f_ran fd_ran p_ran spRan) : FnOk P w K mg base CX0 8 f fd p_movesright spRight := by
  refine F.ok sc_movesright (fun vs H Q E h => ?_) (fun cdv A outer s H vs Q E hr h => ?_)
  · obtain ⟨p, ua, da, ma, x, n, c, rfl, _⟩ := h
    rfl
  · obtain ⟨p, ua, da, ma, x, n, c, rfl, ⟨hp, x0, x1, n1, c0, c1⟩, tb, t2, xs, ms, hu, hd, ok1, ok2, hm, hz, him, hsd, q⟩ := h
    have hp2 := M02.primes_lo hp
    refine ⟨_, (pss_cons (ps_asg (by exact (pe_call G_play (hr.mono (by first | decide | omega)) rfl D_play.g D_play.fn.kp D_play.b .nil pass0 (pa_cons (pv 5) (pa_cons (pv 6) (pa_cons (pv 3) pa_nil))))) (pg_tup rfl (pgs_cons (pg_name (i := 7) sc_movesright.nd rfl (Or.inl rfl)) (pgs_cons (pg_name (i := 8) sc_movesright.nd rfl (Or.inl rfl)) pgs_nil))))
      (pss_cons (ps_set (i := 9) sc_movesright.nd rfl (Or.inl rfl) (by exact (pe_tup (pa_cons pe_str (pa_cons pe_str (pa_cons (pv 8) (pa_cons pe_bl pa_nil)))))))
      (pss_cons (ps_set (i := 10) sc_movesright.nd rfl (Or.inl rfl) (by exact (pv 9)))
      (pss_mid (ps_if (pt_val (pv 7)) (pss_cons (ps_set (i := 9) sc_movesright.nd rfl (Or.inl rfl) (by exact (pe_tup (pa_cons pe_str (pa_cons (pv 8) pa_nil)))))
          (pss_one (ps_set (i := 10) sc_movesright.nd rfl (Or.inl rfl) (by exact (pe_tup (pa_cons pe_str (pa_cons (pe_tup (pa_cons (pe_call G_stretchof (hr.mono (by first | decide | omega)) rfl D_stretchof.g D_stretchof.fn.kp D_stretchof.b .nil pass0 (pa_cons (pv 0) (pa_cons (pv 1) (pa_cons (pv 2) (pa_cons (pv 4) (pa_cons (pv 5) pa_nil)))))) (pa_cons (pv 8) pa_nil))) pa_nil))))))) pss_nil)
      (pss_mid (ps_if (pt_not (pt_val (pe_call G_same (hr.mono (by first | decide | omega)) rfl D_same.g D_same.fn.kp D_same.b .nil pass0 (pa_cons (pe_call G_checked (hr.mono (by first | decide | omega)) rfl D_checked.g D_checked.fn.kp D_checked.b .nil pass0 (pa_cons (pv 5) (pa_cons (pv 6) (pa_cons (pv 3) pa_nil)))) (pa_cons (pv 9) pa_nil))))) (pss_one (ps_ret (by exact pe_bl))) pss_nil)
      (pss_one (ps_ret (by exact (pe_call G_same (hr.mono (by first | decide | omega)) rfl D_same.g D_same.fn.kp D_same.b .nil pass0 (pa_cons (pe_call G_ran (hr.mono (by first | decide | omega)) rfl D_ran.g D_ran.fn.kp D_ran.b .nil pass0 (pa_cons (pv 0) (pa_cons (pv 1) (pa_cons (pv 2) (pa_cons (pv 3) (pa_cons (pv 4) (pa_cons (pv 5) (pa_cons (pv 6) pa_nil)))))))) (pa_cons (pv 10) pa_nil))))))))))), ?_⟩
    walk_at "rd"
    refine ⟨n, c, ma, rfl, ⟨by omega, by omega, c0, c1⟩, xs, ms, hm, hz, him, fun t H1 b k s1 et hv => ?_⟩
    refine ⟨t, _, rfl, SqT.of et, rfl, ?_⟩
    walk_at "rd"
    walk_at "nw"
    intro t1 ht1
    have s2 : Same H1 (upd H1 t1 (.tup [.str "error", .str "badmove", .int k, .bl true])) := same_new ht1
    generalize hg : upd H1 t1 _ = H2 at s2 ⊢
    have et1 : H2 t1 = some (.tup [.str "error", .str "badmove", .int k, .bl true]) := by rw [← hg]; exact upd_same
    clear hg
    have sH := s1.trans s2
    clear s1 s2 et ht1
    walk_at "rd"
    refine ⟨fun σ' H' => ∃ dt rt : Addr, σ' = [some (.int p), some (.ref ua), some (.ref da), some (.ref ma), some (.int x), some (.int n), some (.int c), some (.bl b), some (.int k), some (.ref dt), some (.ref rt)] ∧ Same H H' ∧ DueR n c (worthN p tb t2 x n) ms H' dt rt, ?_, ?_⟩
    · walk_at "rd"
      rcases hv with ⟨rfl, hv⟩ | ⟨rfl, j, rfl, hv⟩
      · walk_at "rd"
        walk_at "nw"
        intro dt hdt
        have s3 : Same H2 (upd H2 dt (.tup [.str "told", .int k])) := same_new hdt
        generalize hg : upd H2 dt _ = H3 at s3 ⊢
        have edt : H3 dt = some (.tup [.str "told", .int k]) := by rw [← hg]; exact upd_same
        clear hg
        walk_at "rd"
        have s03 := sH.trans s3
        refine ⟨p, ua, da, x, n, rfl, ⟨by omega, x0, x1, n1⟩, tb, t2, hu.keep s03, hd.keep s03, ok1, ok2, fun H4 s4 => ?_⟩
        walk_at "rd"
        walk_at "nw"
        intro u hu0
        have s5 : Same H4 (upd H4 u (.tup [.int (worthN p tb t2 x n), .int k])) := same_new hu0
        generalize hg : upd H4 u _ = H5 at s5 ⊢
        have eu : H5 u = some (.tup [.int (worthN p tb t2 x n), .int k]) := by rw [← hg]; exact upd_same
        clear hg
        walk_at "nw"
        intro rt hrt
        have s6 := same_new (o := .tup [.str "told", .ref u]) hrt
        exact ⟨dt, rt, rfl, ((s03.trans s4).trans s5).trans s6, .inl ⟨k, u, hv, s6 _ _ (s5 _ _ (s4 _ _ edt)), upd_same, s6 _ _ eu⟩⟩
      · walk_at "rd"
        exact ⟨sH, .inr ⟨j, hv, et1, rfl⟩⟩
    clear hv et1 sH
    rintro σ' H3 ⟨dt, rt, rfl, s3, due⟩
    walk_at "rd"
    refine ⟨fun σ' H' => σ' = [some (.int p), some (.ref ua), some (.ref da), some (.ref ma), some (.int x), some (.int n), some (.int c), some (.bl b), some (.int k), some (.ref dt), some (.ref rt)] ∧ Same H H' ∧ DueR n c (worthN p tb t2 x n) ms H' dt rt, ?_, ?_⟩
    · walk_at "rd"
      refine ⟨n, c, ma, rfl, ⟨by omega, by omega, c0, c1⟩, xs, ms, s3 _ _ hm, hz, him.keep s3, fun y hy => (hsd y hy).keep s3, fun t4 H4 s4 g => ?_⟩
      walk_at "rd"
      have d4 := due.keep s4
      refine ⟨SameD.le (d4.chk g) (by decide), ?_⟩
      walk_at "rd"
      exact ⟨rfl, s3.trans s4, d4⟩
    rintro σ' H4 ⟨rfl, s4, d4⟩
    walk_at "rd"
    refine ⟨p, ua, da, ma, x, n, c, rfl, ⟨hp, x0, x1, n1, c0, c1⟩, tb, t2, xs, ms, hu.keep s4, hd.keep s4, ok1, ok2, s4 _ _ hm, hz, him.keep s4, fun y hy => (hsd y hy).keep s4, fun t5 H5 s5 g => ?_⟩
    walk_at "rd"
    exact ⟨SameD.le ((d4.keep s5).ran g) (by decide), q _ (s4.trans s5)⟩
end
end K47

set_option Elab.async false
set_option linter.all false
set_option maxRecDepth 100000
set_option maxHeartbeats 4000000
set_option pp.deepTerms false
set_option pp.deepTerms.threshold 12
namespace K47
open PySem PySem.Spec PyProof.Rows L2
local macro_rules | `(tactic| walk_at "ty") => `(tactic| first | exact .base (.int _) | exact .base (.bl _) | exact .base (.str _) | exact .base .non | assumption | exact .base (.tup (by assumption)) | exact .base (.lst (by assumption)))
local macro_rules | `(tactic| walk_at "cm") => `(tactic| first | exact cm_r (by decide) (by decide) | exact cm_l (by decide) (by decide) | exact cm_fmod (by decide) (by decide) | exact cm_r (by omega) (by omega) | exact cm_l (by omega) (by omega))
local macro_rules | `(tactic| walk_at "dv") => `(tactic| first | exact ⟨by decide, by decide⟩ | exact ⟨by omega, by omega⟩)
local macro_rules | `(tactic| walk_at "r1") => `(tactic| first
  | refine ⟨_, rfl, ?_⟩ | refine ⟨_, _, rfl, rfl, ?_⟩ | refine Or.inl ⟨_, rfl, ?_⟩ | refine Or.inr ⟨_, rfl, ?_⟩
  | refine And.intro (a := CMul _ _) (by walk_at "cm") ?_ | refine And.intro (a := CDivN _ _) (by walk_at "dv") ?_ | refine And.intro (a := _ ≠ (0 : Int)) (by first | decide | omega) ?_ | refine And.intro (a := scal _ _ = true) rfl ?_ | refine ⟨_, _, _, _, rfl, rfl, SqL.of (by first | exact upd_same | assumption), rfl, ?_⟩ | refine ⟨_, _, _, _, rfl, rfl, (by first | exact upd_same | assumption), rfl, ?_⟩ | refine ⟨_, _, rfl, ?_⟩ | refine And.intro (a := (_ : V) = V.non) rfl ?_ | refine And.intro (a := CPow _ _) ⟨by decide, by decide, by decide⟩ ?_ | refine And.intro (a := (_ : List V) = []) rfl ?_ | refine ⟨_, _, rfl, SqT.of (by first | exact upd_same | assumption), rfl, ?_⟩
  | refine ⟨_, _, _, _, rfl, rfl, SqT.of (by first | exact upd_same | assumption), rfl, ?_⟩
  | refine ⟨_, _, _, _, true, rfl, ClsV.ty _, (by walk_at "ty"), kit_ty (by decide +kernel), ?_⟩ | refine ⟨_, _, _, _, false, rfl, ClsV.ty _, (by walk_at "ty"), kit_ty (by decide +kernel), ?_⟩)
local macro_rules | `(tactic| walk_at "rd") => `(tactic| repeat walk_at "r1")
local macro_rules | `(tactic| walk_at "yes") => `(tactic| (change (if true = true then _ else _); rw [if_pos rfl]))
local macro_rules | `(tactic| walk_at "no") => `(tactic| (change (if false = true then _ else _); rw [if_neg Bool.false_ne_true]))
local macro_rules | `(tactic| walk_at "nw") => `(tactic| refine And.intro (a := _ ≤ sizeLine) (sz_le (Nat.le_of_ble_eq_true rfl)) ?_)

section
variable {P : Program} {w : World} {K : PySem.W.Frag} {mg : Str → Option Value} {base : Heap}
variable {C_VaultError C_NumberError C_BadPrime C_BadTable C_BadCells C_ShapeError C_PaperError C_BadMove fV fI_BadMove fI_BadCells fI_BadPrime fI_BadTable : Addr}
variable (T : Txt P K mg C_VaultError C_NumberError C_BadPrime C_BadTable C_BadCells C_ShapeError C_PaperError C_BadMove fV fI_BadMove fI_BadCells fI_BadPrime fI_BadTable)
include T
/-- no prime, and the same as itself, whatever is drawn -/
def BadP (st : Addr) (H : Hp) (v : V) : Prop := ∀ H', ButS st H H' → NoV H' v ∧ SameD H' 3 v v
omit T in
theorem BadP.keep {st : Addr} {H H' : Hp} {v : V} (h : BadP st H v) (b : ButS st H H') : BadP st H' v := fun _ b2 => h _ (b.trans b2)
omit T in
theorem one7 {H : Hp} {a : Addr} {xs : List V} (h : SeqAt H a xs) (f : ∀ x ∈ xs, flatV x = true) (hz : xs.length ≤ 100) : SameD H 3 (.ref a) (.ref a) :=
  .inr ⟨a, a, xs, xs, rfl, rfl, h.elim (fun e => .inr ⟨e, e⟩) (fun e => .inl ⟨e, e⟩), rfl, by omega, fun i p q hp hq => by
    rw [hp] at hq
    cases hq
    exact .inl ⟨rfl, f _ (List.mem_of_getElem? hp)⟩⟩
omit T in
theorem BadV.self {st : Addr} {H : Hp} {v : V} (b : BadV st H v) : SameD H 3 v v := by
  have f1 : ∀ x ∈ ([.int 1] : List V), flatV x = true := fun x hx => by
    rw [List.mem_singleton.mp hx]
    rfl
  cases b with
  | int i q => exact .inl ⟨rfl, rfl⟩
  | bl b => exact .inl ⟨rfl, rfl⟩
  | non => exact .inl ⟨rfl, rfl⟩
  | str s => exact .inl ⟨rfl, rfl⟩
  | tup a n e => exact one7 (.inr e) f1 (by show 1 ≤ 100; decide)
  | lst a n e => exact one7 (.inl e) f1 (by show 1 ≤ 100; decide)
omit T in
/-- the answer and what is due: error, word, value, True -/
theorem sameD_err {H : Hp} {a b : Addr} {w : Str} {v : V} (ha : H a = some (.tup [.str "error", .str w, v, .bl true])) (hb : H b = some (.tup [.str "error", .str w, v, .bl true])) (h : SameD H 3 v v) : SameD H 6 (.ref a) (.ref b) :=
  SameD.le (n := 4) (.inr ⟨a, b, _, _, rfl, rfl, .inl ⟨ha, hb⟩, rfl, by show 4 ≤ 100000; decide, fun i p q hp hq => by
    match i with
    | 0 => cases hp; cases hq; exact .inl ⟨rfl, rfl⟩
    | 1 => cases hp; cases hq; exact .inl ⟨rfl, rfl⟩
    | 2 => cases hp; cases hq; exact h
    | 3 => cases hp; cases hq; exact .inl ⟨rfl, rfl⟩
    | i + 4 => cases hp⟩) (by decide)
def spRefused : Sp := fun vs H Q _ => ∃ (st : Addr) (p : Int) (ua da : Addr), vs = [.ref st, .int p, .ref ua, .ref da] ∧ p ∈ M02.primes ∧ Store H st ∧ ua ≠ st ∧ da ≠ st ∧ ∃ tb t2, H ua = some (.lst (tb.map V.int)) ∧ H da = some (.lst (t2.map V.int)) ∧ TbOk p tb ∧ TbOk p t2 ∧ ∀ H', Q (.bl true) H'
theorem ok_refused {f : Addr} {fd : FuncData} (F : Fun K "_law_refused" "_law_refused" s_refused f fd) {f_pick : Addr} {fd_pick : FuncData} (D_pick : Def K mg "_law_pick" s_pick p_pick f_pick fd_pick) (G_pick : FnOk P w K mg base CX0 3 f_pick fd_pick p_pick spPick) {f_badtable : Addr} {fd_badtable : FuncData} (D_badtable : Def K mg "_law_badtable" s_badtable p_badtable f_badtable fd_badtable) (G_badtable : FnOk P w K mg base CX0 4 f_badtable fd_badtable p_badtable spBadTab) {f_badcells : Addr} {fd_badcells : FuncData} (D_badcells : Def K mg "_law_badcells" s_badcells p_badcells f_badcells fd_badcells) (G_badcells : FnOk P w K mg base CX0 4 f_badcells fd_badcells p_badcells spBad) {f_same : Addr} {fd_same : FuncData} (D_same : Def K mg "_law_same" s_same p_same f_same fd_same) (G_same : FnOk P w K mg base CX0 6 f_same fd_same p_same (spSame 6)) {f_spoilt : Addr} {fd_spoilt : FuncData} (D_spoilt : Def K mg "_law_spoilt" s_spoilt p_spoilt f_spoilt fd_spoilt) (G_spoilt : FnOk P w K mg base CX0 133 f_spoilt fd_spoilt p_spoilt spSpoilt) : FnOk P w K mg base CX0 134 f fd p_refused spRefused := by
  refine F.ok sc_refused (fun vs H Q E h => ?_) (fun cdv A outer s H vs Q E hr h => ?_)
  · obtain ⟨st, p, ua, da, rfl, _⟩ := h
    rfl
  · obtain ⟨st, p, ua, da, rfl, hp, S, nu, nd, tb, t2, eu, ed, ok1, ok2, q⟩ := h
    have hp2 := M02.primes_lo hp
    refine ⟨_, (pss_cons (ps_set (i := 4) sc_refused.nd rfl (Or.inl rfl) (by exact (pe_call G_pick (hr.mono (by first | decide | omega)) rfl D_pick.g D_pick.fn.kp D_pick.b .nil pass0 (pa_cons (pv 0) (pa_cons (pe_lst (pa_cons pe_int (pa_cons pe_int (pa_cons (pe_op op_sub pe_int pe_int) (pa_cons pe_int (pa_cons pe_int (pa_cons pe_int (pa_cons pe_int (pa_cons pe_int (pa_cons (pe_op op_pow pe_int pe_int) (pa_cons pe_non (pa_cons pe_bl (pa_cons pe_bl (pa_cons pe_str (pa_cons (pe_tup (pa_cons pe_int pa_nil)) (pa_cons (pe_lst (pa_cons pe_int pa_nil)) (pa_cons (pe_tup pa_nil) pa_nil))))))))))))))))) pa_nil)))))
      (pss_cons (ps_set (i := 5) sc_refused.nd rfl (Or.inl rfl) (by exact (pe_call G_badtable (hr.mono (by first | decide | omega)) rfl D_badtable.g D_badtable.fn.kp D_badtable.b .nil pass0 (pa_cons (pv 0) (pa_cons (pv 1) pa_nil)))))
      (pss_cons (ps_set (i := 6) sc_refused.nd rfl (Or.inl rfl) (by exact (pe_call G_badcells (hr.mono (by first | decide | omega)) rfl D_badcells.g D_badcells.fn.kp D_badcells.b .nil pass0 (pa_cons (pv 0) pa_nil))))
      (pss_cons (ps_for PassesOwn.never rfl (pi_range1 (by rfl) T.b_range (pa_cons pe_int pa_nil)) (pg_name (i := 7) sc_refused.nd rfl (Or.inl rfl)) (pss_cons (ps_if (pt_not (pt_val (pe_call G_same (hr.mono (by first | decide | omega)) rfl D_same.g D_same.fn.kp D_same.b .nil pass0 (pa_cons (pe_call G_spoilt (hr.mono (by first | decide | omega)) rfl D_spoilt.g D_spoilt.fn.kp D_spoilt.b .nil pass0 (pa_cons (pv 7) (pa_cons (pv 4) (pa_cons (pv 5) (pa_cons (pv 5) (pa_cons (pv 6) pa_nil)))))) (pa_cons (pe_tup (pa_cons pe_str (pa_cons pe_str (pa_cons (pv 4) (pa_cons pe_bl pa_nil))))) pa_nil))))) (pss_one (ps_ret (by exact pe_bl))) pss_nil)
          (pss_one (ps_if (pt_not (pt_val (pe_call G_same (hr.mono (by first | decide | omega)) rfl D_same.g D_same.fn.kp D_same.b .nil pass0 (pa_cons (pe_call G_spoilt (hr.mono (by first | decide | omega)) rfl D_spoilt.g D_spoilt.fn.kp D_spoilt.b .nil pass0 (pa_cons (pv 7) (pa_cons (pv 1) (pa_cons (pv 5) (pa_cons (pv 5) (pa_cons (pv 6) pa_nil)))))) (pa_cons (pe_tup (pa_cons pe_str (pa_cons pe_str (pa_cons pe_str (pa_cons pe_bl pa_nil))))) pa_nil))))) (pss_one (ps_ret (by exact pe_bl))) pss_nil))))
      (pss_cons (ps_for PassesOwn.never rfl (pi_range1 (by rfl) T.b_range (pa_cons pe_int pa_nil)) (pg_name (i := 7) sc_refused.nd rfl (Or.inl rfl)) (pss_one (ps_if (pt_not (pt_val (pe_call G_same (hr.mono (by first | decide | omega)) rfl D_same.g D_same.fn.kp D_same.b .nil pass0 (pa_cons (pe_call G_spoilt (hr.mono (by first | decide | omega)) rfl D_spoilt.g D_spoilt.fn.kp D_spoilt.b .nil pass0 (pa_cons (pv 7) (pa_cons (pv 1) (pa_cons (pv 2) (pa_cons (pv 5) (pa_cons (pv 6) pa_nil)))))) (pa_cons (pe_tup (pa_cons pe_str (pa_cons pe_str (pa_cons pe_str (pa_cons pe_bl pa_nil))))) pa_nil))))) (pss_one (ps_ret (by exact pe_bl))) pss_nil)))
      (pss_cons (ps_for PassesOwn.never rfl (pi_list (pe_lst (pa_cons pe_int (pa_cons pe_int (pa_cons pe_int pa_nil))))) (pg_name (i := 7) sc_refused.nd rfl (Or.inl rfl)) (pss_one (ps_if (pt_not (pt_val (pe_call G_same (hr.mono (by first | decide | omega)) rfl D_same.g D_same.fn.kp D_same.b .nil pass0 (pa_cons (pe_call G_spoilt (hr.mono (by first | decide | omega)) rfl D_spoilt.g D_spoilt.fn.kp D_spoilt.b .nil pass0 (pa_cons (pv 7) (pa_cons (pv 1) (pa_cons (pv 2) (pa_cons (pv 3) (pa_cons (pv 6) pa_nil)))))) (pa_cons (pe_tup (pa_cons pe_str (pa_cons pe_str (pa_cons (pv 6) (pa_cons pe_bl pa_nil))))) pa_nil))))) (pss_one (ps_ret (by exact pe_bl))) pss_nil)))
      (pss_one (ps_ret (by exact pe_bl))))))))), ?_⟩
    walk_at "rd"
    walk_at "nw"
    intro a7 h7
    have s1 : Same H (upd H a7 (.tup [.int 7])) := same_new h7
    generalize hg : upd H a7 _ = H1 at s1 ⊢
    have e7 : H1 a7 = some (.tup [.int 7]) := by rw [← hg]; exact upd_same
    clear hg
    walk_at "rd"
    walk_at "nw"
    intro l7 g7
    have s2 : Same H1 (upd H1 l7 (.lst [.int 7])) := same_new g7
    generalize hg : upd H1 l7 _ = H2 at s2 ⊢
    have el7 : H2 l7 = some (.lst [.int 7]) := by rw [← hg]; exact upd_same
    clear hg
    walk_at "nw"
    intro a0 h0
    have s3 : Same H2 (upd H2 a0 (.tup [])) := same_new h0
    generalize hg : upd H2 a0 _ = H3 at s3 ⊢
    have e0 : H3 a0 = some (.tup []) := by rw [← hg]; exact upd_same
    clear hg
    walk_at "nw"
    intro L hL
    have n7 : a7 ≠ st := ne_st S h7
    have nl7 : l7 ≠ st := ne_st (S.keep s1) g7
    have n0 : a0 ≠ st := ne_st (S.keep (s1.trans s2)) h0
    have s13 := (s1.trans s2).trans s3
    have nL : L ≠ st := ne_st (S.keep s13) hL
    have s4 := same_new (o := .lst [.int 0, .int 1, .int (0 - 2), .int 4, .int 49, .int 91, .int 98, .int 101, .int (10 ^ 39), .non, .bl true, .bl false, .str "7", .ref a7, .ref l7, .ref a0]) hL
    have s14 := s13.trans s4
    walk_at "rd"
    refine ⟨st, L, _, rfl, upd_same, nL, Nat.le_of_ble_eq_true rfl, Nat.le_of_ble_eq_true rfl, S.keep s14, fun bad H5 hv S5 b5 => ?_⟩
    have f7 : ∀ x ∈ ([.int 7] : List V), flatV x = true := fun x hx => by
      rw [List.mem_singleton.mp hx]
      rfl
    have hbad : BadP st H5 bad := by
      intro H6 b6
      have b56 := b5.trans b6
      simp only [List.mem_cons, List.mem_nil_iff, or_false] at hv
      rcases hv with rfl | rfl | rfl | rfl | rfl | rfl | rfl | rfl | rfl | rfl | rfl | rfl | rfl | rfl | rfl | rfl
      iterate 8 exact ⟨.inl ⟨_, rfl, by decide⟩, .inl ⟨rfl, rfl⟩⟩
      · refine ⟨.inl ⟨_, rfl, fun z => ?_⟩, .inl ⟨rfl, rfl⟩⟩
        have := (M02.primes_lo z).2
        revert this
        decide
      · exact ⟨.inr ⟨_, .non⟩, .inl ⟨rfl, rfl⟩⟩
      · exact ⟨.inr ⟨_, .bl _⟩, .inl ⟨rfl, rfl⟩⟩
      · exact ⟨.inr ⟨_, .bl _⟩, .inl ⟨rfl, rfl⟩⟩
      · exact ⟨.inr ⟨_, .str _⟩, .inl ⟨rfl, rfl⟩⟩
      · have e := b56.1 _ _ n7 (s4 _ _ (s3 _ _ (s2 _ _ e7)))
        exact ⟨.inr ⟨_, .tup _ _ e⟩, one7 (.inr e) f7 (by show 1 ≤ 100; decide)⟩
      · have e := b56.1 _ _ nl7 (s4 _ _ (s3 _ _ el7))
        exact ⟨.inr ⟨_, .lst _ _ e⟩, one7 (.inl e) f7 (by show 1 ≤ 100; decide)⟩
      · have e := b56.1 _ _ n0 (s4 _ _ e0)
        exact ⟨.inr ⟨_, .tup _ _ e⟩, one7 (.inr e) (fun _ h => (nomatch h)) (by show 0 ≤ 100; decide)⟩
    have eu5 := b5.1 _ _ nu (s14 _ _ eu)
    have ed5 := b5.1 _ _ nd (s14 _ _ ed)
    clear hv b5 s14 s4 s13 s1 s2 s3 e7 el7 e0 f7 hL h0 g7 h7
    walk_at "rd"
    refine ⟨⟨by omega, by omega⟩, S5, fun wrong H6 hw S6 b6 => ?_⟩
    walk_at "rd"
    refine ⟨S6, fun many H7 hm S7 b7 => ?_⟩
    have b67 := b6.trans b7
    have hbad7 := hbad.keep b67
    have hw7 := hw.keep b7
    have eu7 := b67.1 _ _ nu eu5
    have ed7 := b67.1 _ _ nd ed5
    clear hbad hw eu5 ed5 b6 b7 b67 S5 S6
    walk_at "rd"
    obtain ⟨nv, sb⟩ := hbad7 _ .refl
    have nwr := hw7 _ .refl
    have nm : NB H7 many := hm.cells
    have sm := hm.self
    have tu : TbAt H7 (.ref ua) p tb := ⟨ua, rfl, .inl eu7, ok1⟩
    have td : TbAt H7 (.ref da) p t2 := ⟨da, rfl, .inl ed7, ok2⟩
    have fl : ∀ {s : Str} {G : Hp}, SameD G 3 (.str s) (.str s) := .inl ⟨rfl, rfl⟩
    clear hbad7 hw7 hm eu7 ed7
    refine ⟨by omega, by omega, ?_⟩
    rw [show (3 : Int).toNat = 3 from rfl]
    refine for_range (fun _ σ H' => ∃ v7 : Option V, σ = [some (.ref st), some (.int p), some (.ref ua), some (.ref da), some bad, some wrong, some many, v7] ∧ Same H7 H') ⟨_, rfl, fun _ _ z => z⟩ ?_ ?_
    · rintro i σ G hi ⟨v7, rfl, sG⟩
      have hk : (0 : Int) + i = 0 ∨ (0 : Int) + i = 1 ∨ (0 : Int) + i = 2 := by omega
      walk_at "rd"
      refine ⟨0 + i, bad, wrong, wrong, many, rfl, .inl ⟨hk, nv.keep sG, fun q1 G1 r1 f1 => ?_⟩⟩
      walk_at "rd"
      walk_at "nw"
      intro u1 hu1
      have se1 : Same G1 (upd G1 u1 (.tup [.str "error", .str "badprime", bad, .bl true])) := same_new hu1
      have sg1 := sG.trans (r1.trans se1)
      walk_at "rd"
      refine ⟨sameD_err (se1 _ _ f1) upd_same (sb.keep sg1), ?_⟩
      walk_at "rd"
      refine ⟨0 + i, .int p, wrong, wrong, many, rfl, .inr ⟨p, rfl, hp, .inl ⟨hk, nwr.keep sg1, fun q2 G2 r2 f2 => ?_⟩⟩⟩
      walk_at "rd"
      walk_at "nw"
      intro u2 hu2
      have se2 : Same G2 (upd G2 u2 (.tup [.str "error", .str "badtable", .str "up", .bl true])) := same_new hu2
      have sg2 := sg1.trans (r2.trans se2)
      walk_at "rd"
      refine ⟨sameD_err (se2 _ _ f2) upd_same ((fl (G := H7)).keep sg2), ?_⟩
      walk_at "rd"
      exact sg2
    rintro σ G ⟨v7, rfl, sG⟩
    walk_at "rd"
    refine ⟨by omega, by omega, ?_⟩
    rw [show (2 : Int).toNat = 2 from rfl]
    refine for_range (fun _ σ H' => ∃ v7 : Option V, σ = [some (.ref st), some (.int p), some (.ref ua), some (.ref da), some bad, some wrong, some many, v7] ∧ Same H7 H') ⟨_, rfl, sG⟩ ?_ ?_
    · clear sG G
      rintro i σ G hi ⟨v7, rfl, sG⟩
      have hk : (0 : Int) + i = 0 ∨ (0 : Int) + i = 1 := by omega
      walk_at "rd"
      refine ⟨0 + i, .int p, .ref ua, wrong, many, rfl, .inr ⟨p, rfl, hp, .inr ⟨tb, tu.keep sG, .inl ⟨hk, nwr.keep sG, fun q1 G1 r1 f1 => ?_⟩⟩⟩⟩
      walk_at "rd"
      walk_at "nw"
      intro u1 hu1
      have se1 : Same G1 (upd G1 u1 (.tup [.str "error", .str "badtable", .str "down", .bl true])) := same_new hu1
      have sg1 := sG.trans (r1.trans se1)
      walk_at "rd"
      refine ⟨sameD_err (se1 _ _ f1) upd_same ((fl (G := H7)).keep sg1), ?_⟩
      walk_at "rd"
      exact sg1
    clear sG G
    rintro σ G ⟨v7, rfl, sG⟩
    walk_at "rd"
    walk_at "nw"
    intro l hl
    have s8 := sG.trans (same_new (o := .lst [.int 0, .int 3, .int 4]) hl)
    generalize hg : upd G l _ = G0 at s8 ⊢
    have el : G0 l = some (.lst [.int 0, .int 3, .int 4]) := by rw [← hg]; exact upd_same
    clear hg hl sG
    refine ⟨l, rfl, ⟨_, SqL.of el⟩, for_list (K := K) (a := l) (xs := [.int 0, .int 3, .int 4]) (fun _ σ H' => ∃ v7 : Option V, σ = [some (.ref st), some (.int p), some (.ref ua), some (.ref da), some bad, some wrong, some many, v7] ∧ Same G0 H') ⟨_, rfl, fun _ _ z => z⟩ (fun i σ H' _ z => by obtain ⟨_, _, z⟩ := z; exact SqL.of (z _ _ el)) ?_ ?_⟩
    · rintro i y σ G' hi ⟨v7, rfl, s9⟩
      have sG := s8.trans s9
      have hk : ∃ k : Int, y = .int k ∧ (k = 0 ∨ k = 3 ∨ k = 4) := by
        have := List.mem_of_getElem? hi
        simp only [List.mem_cons, List.mem_nil_iff, or_false] at this
        rcases this with rfl | rfl | rfl
        · exact ⟨0, rfl, .inl rfl⟩
        · exact ⟨3, rfl, .inr (.inl rfl)⟩
        · exact ⟨4, rfl, .inr (.inr rfl)⟩
      obtain ⟨k, rfl, hk⟩ := hk
      walk_at "rd"
      refine ⟨k, .int p, .ref ua, .ref da, many, rfl, .inr ⟨p, rfl, hp, .inr ⟨tb, tu.keep sG, .inr ⟨t2, td.keep sG, hk, nb_keep nm sG, fun q1 G1 r1 f1 => ?_⟩⟩⟩⟩
      walk_at "rd"
      walk_at "nw"
      intro u1 hu1
      have se1 : Same G1 (upd G1 u1 (.tup [.str "error", .str "badcells", many, .bl true])) := same_new hu1
      have sg1 := sG.trans (r1.trans se1)
      walk_at "rd"
      refine ⟨sameD_err (se1 _ _ f1) upd_same (sm.keep sg1), ?_⟩
      walk_at "rd"
      exact s9.trans (r1.trans se1)
    · rintro σ G' ⟨v7, rfl, s9⟩
      walk_at "rd"
      exact q _
end
end K47

set_option Elab.async false
set_option linter.all false
set_option maxRecDepth 100000
set_option maxHeartbeats 4000000
set_option pp.deepTerms false
set_option pp.deepTerms.threshold 12
namespace K47
open PySem PySem.Spec PyProof.Rows L2
local macro_rules | `(tactic| walk_at "ty") => `(tactic| first | exact .base (.int _) | exact .base (.bl _) | exact .base (.str _) | exact .base .non | assumption | exact .base (.tup (by assumption)) | exact .base (.lst (by assumption)))
local macro_rules | `(tactic| walk_at "cm") => `(tactic| first | exact cm_r (by decide) (by decide) | exact cm_l (by decide) (by decide) | exact cm_fmod (by decide) (by decide) | exact cm_r (by omega) (by omega) | exact cm_l (by omega) (by omega))
local macro_rules | `(tactic| walk_at "dv") => `(tactic| first | exact ⟨by decide, by decide⟩ | exact ⟨by omega, by omega⟩)
local macro_rules | `(tactic| walk_at "r1") => `(tactic| first
  | refine ⟨_, rfl, ?_⟩ | refine ⟨_, _, rfl, rfl, ?_⟩ | refine Or.inl ⟨_, rfl, ?_⟩ | refine Or.inr ⟨_, rfl, ?_⟩
  | refine And.intro (a := CMul _ _) (by walk_at "cm") ?_ | refine And.intro (a := CDivN _ _) (by walk_at "dv") ?_ | refine And.intro (a := _ ≠ (0 : Int)) (by first | decide | omega) ?_ | refine And.intro (a := scal _ _ = true) rfl ?_ | refine ⟨_, _, _, _, rfl, rfl, SqL.of (by first | exact upd_same | assumption), rfl, ?_⟩ | refine ⟨_, _, _, _, rfl, rfl, (by first | exact upd_same | assumption), rfl, ?_⟩ | refine ⟨_, _, rfl, ?_⟩ | refine And.intro (a := (_ : V) = V.non) rfl ?_ | refine And.intro (a := CPow _ _) ⟨by decide, by decide, by decide⟩ ?_ | refine And.intro (a := (_ : List V) = []) rfl ?_ | refine ⟨_, _, rfl, SqT.of (by first | exact upd_same | assumption), rfl, ?_⟩
  | refine ⟨_, _, _, _, rfl, rfl, SqT.of (by first | exact upd_same | assumption), rfl, ?_⟩
  | refine ⟨_, _, _, _, true, rfl, ClsV.ty _, (by walk_at "ty"), kit_ty (by decide +kernel), ?_⟩ | refine ⟨_, _, _, _, false, rfl, ClsV.ty _, (by walk_at "ty"), kit_ty (by decide +kernel), ?_⟩)
local macro_rules | `(tactic| walk_at "rd") => `(tactic| repeat walk_at "r1")
local macro_rules | `(tactic| walk_at "yes") => `(tactic| (change (if true = true then _ else _); rw [if_pos rfl]))
local macro_rules | `(tactic| walk_at "no") => `(tactic| (change (if false = true then _ else _); rw [if_neg Bool.false_ne_true]))
local macro_rules | `(tactic| walk_at "nw") => `(tactic| refine And.intro (a := _ ≤ sizeLine) (sz_le (Nat.le_of_ble_eq_true rfl)) ?_)

section
variable {P : Program} {w : World} {K : PySem.W.Frag} {mg : Str → Option Value} {base : Heap}
variable {C_VaultError C_NumberError C_BadPrime C_BadTable C_BadCells C_ShapeError C_PaperError C_BadMove fV fI_BadMove fI_BadCells fI_BadPrime fI_BadTable : Addr}
variable (T : Txt P K mg C_VaultError C_NumberError C_BadPrime C_BadTable C_BadCells C_ShapeError C_PaperError C_BadMove fV fI_BadMove fI_BadCells fI_BadPrime fI_BadTable)
include T
omit T in
theorem sameD_flat {H : Hp} {k : Nat} {x : V} (h : flatV x = true) : SameD H (k + 1) x x := .inl ⟨rfl, h⟩
/-- small numbers in a move -/
def smM : Mv → Prop
  | .up a b => (0 ≤ a ∧ a ≤ 127) ∧ 0 ≤ b ∧ b ≤ 127
  | .read a => 0 ≤ a ∧ a ≤ 127
  | .bad => False
omit T in
theorem Best.small {n c : Nat} {o f : Int} {ms : List Mv} (x : Best n c o f ms) : 0 ≤ o → o ≤ 127 → 0 ≤ f → f + c ≤ 127 → ∀ m ∈ ms, smM m := by
  induction x with
  | nil c o f => exact fun _ _ _ _ m h => nomatch h
  | last n s o f ys h b ih =>
    intro o0 o1 f0 f1 m hm
    simp only [List.mem_cons, List.mem_append] at hm
    rcases hm with rfl | hm | rfl | hm
    · exact ⟨⟨o0, o1⟩, f0, by omega⟩
    · obtain rfl := List.eq_of_mem_replicate hm
      exact ⟨⟨f0, by omega⟩, f0, by omega⟩
    · exact ⟨f0, by omega⟩
    · exact ih o0 o1 f0 f1 m hm
  | more n c s o f xs ys h a b iha ihb =>
    intro o0 o1 f0 f1 m hm
    simp only [List.mem_cons, List.mem_append] at hm
    rcases hm with rfl | hm | hm | rfl | hm
    · exact ⟨⟨o0, o1⟩, f0, by omega⟩
    · obtain rfl := List.eq_of_mem_replicate hm
      exact ⟨⟨f0, by omega⟩, f0, by omega⟩
    · exact iha f0 (by omega) (by omega) (by omega) m hm
    · exact ⟨f0, by omega⟩
    · exact ihb o0 o1 f0 f1 m hm
omit T in
theorem IsU.it {st : Addr} {H : Hp} {v : V} {m : Mv} (h : IsU H v m) (s : smM m) : It1 st H v := by
  cases h with
  | up t a b h =>
    obtain ⟨⟨a0, a1⟩, b0, b1⟩ := s
    exact (UR.up h a0 a1 b0 b1).it
  | read t a h => exact (UR.read h s.1 s.2).it
omit T in
theorem IsUs.it {st : Addr} {H : Hp} {xs : List V} {ms : List Mv} (h : Paired (IsU H) xs ms) (s : ∀ m ∈ ms, smM m) : ∀ x ∈ xs, It1 st H x := by
  induction h with
  | nil => exact fun _ h => nomatch h
  | cons a _ ih =>
    intro x hx
    rcases List.mem_cons.mp hx with rfl | hx
    · exact a.it (s _ List.mem_cons_self)
    · exact ih (fun m hm => s m (List.mem_cons_of_mem _ hm)) x hx
omit T in
theorem IsU.same {H : Hp} {v v' : V} {m : Mv} (h : IsU H v m) (k : IsU H v' m) : SameD H 2 v v' := by
  cases h with
  | up t a b h =>
    cases k with
    | up t' _ _ k => exact .tup h k (by show 3 ≤ 100000; decide) (.cons (sameD_flat rfl) (.cons (sameD_flat rfl) (.cons (sameD_flat rfl) .nil)))
  | read t a h =>
    cases k with
    | read t' _ k => exact .tup h k (by show 2 ≤ 100000; decide) (.cons (sameD_flat rfl) (.cons (sameD_flat rfl) .nil))
omit T in
theorem IsUs.same {H : Hp} {xs : List V} {ms : List Mv} (h : Paired (IsU H) xs ms) : ∀ {ys}, Paired (IsU H) ys ms → Paired (SameD H 2) xs ys := by
  induction h with
  | nil =>
    intro ys k
    cases k
    exact .nil
  | cons a _ ih =>
    intro ys k
    cases k with
    | cons b k => exact .cons (a.same b) (ih k)
omit T in
theorem IsUs.isMs {H : Hp} {xs : List V} {ms : List Mv} (h : Paired (IsU H) xs ms) : IsMs H xs ms := by
  unfold IsMs
  induction h with
  | nil => exact .nil
  | cons a _ ih => exact .cons a.isM ih
/-- a list of moves that may be asked -/
def LM (st : Addr) (H : Hp) (l : Addr) (k : Nat) : Prop := ∃ xs : List V, H l = some (.lst xs) ∧ l ≠ st ∧ (∀ x ∈ xs, It1 st H x) ∧ xs.length ≤ k
omit T in
theorem LM.keep {st l : Addr} {k : Nat} {H H' : Hp} (h : LM st H l k) (S : Store H st) (b : ButS st H H') : LM st H' l k := by
  obtain ⟨xs, e, n, i, z⟩ := h
  exact ⟨xs, b.1 _ _ n e, n, fun x hx => (i x hx).keep S b, z⟩
omit T in
theorem LM.le {st l : Addr} {k m : Nat} {H : Hp} (h : LM st H l k) (hk : k ≤ m) : LM st H l m := by
  obtain ⟨xs, e, n, i, z⟩ := h
  exact ⟨xs, e, n, i, Nat.le_trans z hk⟩
omit T in
theorem LM.new {st l : Addr} {k : Nat} {H : Hp} {xs : List V} (S : Store H st) (hl : H l = none) (i : ∀ x ∈ xs, It1 st H x) (z : xs.length ≤ k) : LM st (upd H l (.lst xs)) l k :=
  ⟨xs, upd_same, Store.ne S hl, fun x hx => (i x hx).same (same_new hl), z⟩
omit T in
theorem LM.bent {st l : Addr} {k : Nat} {H : Hp} {c : Int} {Q : VK} {E : XK} (h : LM st H l k) (hk : k ≤ 19000) (c0 : 1 ≤ c) (c1 : c ≤ 120) (S : Store H st) (q : ∀ l' H', LM st H' l' (k + 1) → Store H' st → ButS st H H' → Q (.ref l') H') : spBent [.ref st, .ref l, .int c] H Q E := by
  obtain ⟨xs, e, n, i, z⟩ := h
  exact ⟨st, l, c, rfl, c0, c1, xs, e, n, i, by omega, S, fun l' ys H' e' h0 i' z' S' b' => q l' H' ⟨ys, e', Store.ne S h0, i', by omega⟩ S' b'⟩
omit T in
theorem It1.self {st : Addr} {H : Hp} {v : V} (h : It1 st H v) : SameD H 2 v v := by
  cases h with
  | flat v h => exact .inl ⟨rfl, SmV.flat h⟩
  | lst a ys n h f l => exact .inr ⟨a, a, ys, ys, rfl, rfl, .inr ⟨h, h⟩, rfl, by omega, fun i p q hp hq => by
      rw [hp] at hq
      cases hq
      exact .inl ⟨rfl, SmV.flat (f _ (List.mem_of_getElem? hp))⟩⟩
  | nil a h => exact sameD_tupF h h (by show 0 ≤ 100000; decide) fun _ h => nomatch h
  | tup a w rest h f l => exact sameD_tupF h h (by show rest.length + 1 ≤ 100000; omega) fun x hx => SmV.flat (f x hx)
/-- the right move list -/
def BL (H : Hp) (l : Addr) (ms : List Mv) : Prop := ∃ zs, H l = some (.lst zs) ∧ Paired (IsU H) zs ms
omit T in
theorem BL.keep {H H' : Hp} {l : Addr} {ms : List Mv} (h : BL H l ms) (s : Same H H') : BL H' l ms := by
  obtain ⟨zs, e, u⟩ := h
  exact ⟨zs, s _ _ e, Us.map u fun _ _ z => z.keep s⟩
omit T in
theorem BL.same {H : Hp} {l l' : Addr} {ms : List Mv} (h : BL H l ms) (h' : BL H l' ms) (hz : ms.length ≤ 20000) : SameD H 6 (.ref l) (.ref l') := by
  obtain ⟨zs, e, u⟩ := h
  obtain ⟨ys, e', u'⟩ := h'
  have hl : zs.length = ms.length := u.length
  exact SameD.le (SameD.lst e e' (by omega) (IsUs.same u u')) (by decide)
/-- two tables that the law has drawn -/
structure Tbs (st : Addr) (p : Int) (ua da : Addr) (tb t2 : List Int) (H : Hp) : Prop where
  u : SeqAt H ua (tb.map V.int)
  d : SeqAt H da (t2.map V.int)
  nu : ua ≠ st
  nd : da ≠ st
  S : Store H st
omit T in
theorem SeqAt.but {st a : Addr} {H H' : Hp} {xs : List V} (h : SeqAt H a xs) (n : a ≠ st) (b : ButS st H H') : SeqAt H' a xs := h.imp (b.1 _ _ n) (b.1 _ _ n)
omit T in
theorem Tbs.but {st : Addr} {p : Int} {ua da : Addr} {tb t2 : List Int} {H H' : Hp} (x : Tbs st p ua da tb t2 H) (S : Store H' st) (b : ButS st H H') : Tbs st p ua da tb t2 H' := ⟨x.u.but x.nu b, x.d.but x.nd b, x.nu, x.nd, S⟩
omit T in
theorem Tbs.same {st : Addr} {p : Int} {ua da : Addr} {tb t2 : List Int} {H H' : Hp} (x : Tbs st p ua da tb t2 H) (s : Same H H') : Tbs st p ua da tb t2 H' := x.but (x.S.keep s) (.of s)
def spLaw (K : PySem.W.Frag) : Sp := fun vs H Q _ => ∃ (a : Addr) (ns : List Int), vs = [.ref a] ∧ SqL K H a (ns.map V.int) ∧ ∀ H', Q (.bl true) H'
theorem ok_law {f : Addr} {fd : FuncData} (F : Fun K "law" "law" s_law f fd) {f_store : Addr} {fd_store : FuncData} (D_store : Def K mg "_law_store" s_store p_store f_store fd_store) (G_store : FnOk P w K mg base CX0 1 f_store fd_store p_store (spStore K)) {f_prime : Addr} {fd_prime : FuncData} (D_prime : Def K mg "_law_prime" s_prime p_prime f_prime fd_prime) (G_prime : FnOk P w K mg base CX0 4 f_prime fd_prime p_prime spPrime) {f_length : Addr} {fd_length : FuncData} (D_length : Def K mg "_law_length" s_length p_length f_length fd_length) (G_length : FnOk P w K mg base CX0 4 f_length fd_length p_length spLen) {f_cellcount : Addr} {fd_cellcount : FuncData} (D_cellcount : Def K mg "_law_cellcount" s_cellcount p_cellcount f_cellcount fd_cellcount) (G_cellcount : FnOk P w K mg base CX0 4 f_cellcount fd_cellcount p_cellcount spLen) {f_table : Addr} {fd_table : FuncData} (D_table : Def K mg "_law_table" s_table p_table f_table fd_table) (G_table : FnOk P w K mg base CX0 3 f_table fd_table p_table spTab) {f_odds : Addr} {fd_odds : FuncData} (D_odds : Def K mg "_law_odds" s_odds p_odds f_odds fd_odds) (G_odds : FnOk P w K mg base CX0 3 f_odds fd_odds p_odds spOdds) {f_edge : Addr} {fd_edge : FuncData} (D_edge : Def K mg "_law_edge" s_edge p_edge f_edge fd_edge) (G_edge : FnOk P w K mg base CX0 3 f_edge fd_edge p_edge spTake) {f_movesdue : Addr} {fd_movesdue : FuncData} (D_movesdue : Def K mg "_law_movesdue" s_movesdue p_movesdue f_movesdue fd_movesdue) (G_movesdue : FnOk P w K mg base CX0 3 f_movesdue fd_movesdue p_movesdue spListOf) {f_move_list : Addr} {fd_move_list : FuncData} (D_move_list : Def K mg "move_list" s_move_list p_move_list f_move_list fd_move_list) (G_move_list : FnOk P w K mg base (L2N.CX P w) 131 f_move_list fd_move_list p_move_list (spR C_BadCells spMoves)) {f_same : Addr} {fd_same : FuncData} (D_same : Def K mg "_law_same" s_same p_same f_same fd_same) (G_same : FnOk P w K mg base CX0 6 f_same fd_same p_same (spSame 6)) {f_least_steps : Addr} {fd_least_steps : FuncData} (D_least_steps : Def K mg "least_steps" s_least_steps p_least_steps f_least_steps fd_least_steps) (G_least_steps : FnOk P w K mg base (L2N.CX P w) 5 f_least_steps fd_least_steps p_least_steps (spR C_BadCells spSteps2)) {f_leastups : Addr} {fd_leastups : FuncData} (D_leastups : Def K mg "_law_leastups" s_leastups p_leastups f_leastups fd_leastups) (G_leastups : FnOk P w K mg base CX0 1 f_leastups fd_leastups p_leastups spUps) {f_stretchof : Addr} {fd_stretchof : FuncData} (D_stretchof : Def K mg "_law_stretchof" s_stretchof p_stretchof f_stretchof fd_stretchof) (G_stretchof : FnOk P w K mg base CX0 1 f_stretchof fd_stretchof p_stretchof spStretchof) {f_ran : Addr} {fd_ran : FuncData} (D_ran : Def K mg "_law_ran" s_ran p_ran f_ran fd_ran) (G_ran : FnOk P w K mg base CX0 7 f_ran fd_ran p_ran spRan) {f_chain : Addr} {fd_chain : FuncData} (D_chain : Def K mg "chain" s_chain p_chain f_chain fd_chain) (G_chain : FnOk P w K mg base (L2N.CX P w) 5 f_chain fd_chain p_chain (spChain C_BadPrime C_BadTable)) {f_stretch : Addr} {fd_stretch : FuncData} (D_stretch : DefK K mg "stretch" s_stretch p_stretch ["password", "salt", "length"] f_stretch fd_stretch) (G_stretch : FnOk P w K mg base (L2N.CX P w) 6 f_stretch fd_stretch p_stretch (spStretch C_BadPrime C_BadTable)) {f_moves : Addr} {fd_moves : FuncData} (D_moves : Def K mg "_law_moves" s_moves p_moves f_moves fd_moves) (G_moves : FnOk P w K mg base CX0 126 f_moves fd_moves p_moves (spMv 122)) {f_bent : Addr} {fd_bent : FuncData} (D_bent : Def K mg "_law_bent" s_bent p_bent f_bent fd_bent) (G_bent : FnOk P w K mg base CX0 4 f_bent fd_bent p_bent spBent) {f_take : Addr} {fd_take : FuncData} (D_take : Def K mg "_law_take" s_take p_take f_take fd_take) (G_take : FnOk P w K mg base CX0 2 f_take fd_take p_take spTake) {f_movesright : Addr} {fd_movesright : FuncData} (D_movesright : Def K mg "_law_movesright" s_movesright p_movesright f_movesright fd_movesright) (G_movesright : FnOk P w K mg base CX0 8 f_movesright fd_movesright p_movesright spRight) {f_refused : Addr} {fd_refused : FuncData} (D_refused : Def K mg "_law_refused" s_refused p_refused f_refused fd_refused) (G_refused : FnOk P w K mg base CX0 134 f_refused fd_refused p_refused spRefused) : FnOk P w K mg base CX0 135 f fd p_law (spLaw K) := by
  refine F.ok sc_law (fun vs H Q E h => ?_) (fun cdv A outer s H vs Q E hr h => ?_)
  · obtain ⟨a, ns, rfl, _⟩ := h
    rfl
  · obtain ⟨a, ns, rfl, hS, q⟩ := h
    refine ⟨_, (pss_cons (ps_set (i := 1) sc_law.nd rfl (Or.inl rfl) (by exact (pe_call G_store (hr.mono (by first | decide | omega)) rfl D_store.g D_store.fn.kp D_store.b .nil pass0 (pa_cons (pv 0) pa_nil))))
      (pss_cons (ps_set (i := 2) sc_law.nd rfl (Or.inl rfl) (by exact (pe_call G_prime (hr.mono (by first | decide | omega)) rfl D_prime.g D_prime.fn.kp D_prime.b .nil pass0 (pa_cons (pv 1) pa_nil))))
      (pss_cons (ps_set (i := 3) sc_law.nd rfl (Or.inl rfl) (by exact (pe_call G_length (hr.mono (by first | decide | omega)) rfl D_length.g D_length.fn.kp D_length.b .nil pass0 (pa_cons (pv 1) pa_nil))))
      (pss_cons (ps_set (i := 4) sc_law.nd rfl (Or.inl rfl) (by exact (pe_call G_cellcount (hr.mono (by first | decide | omega)) rfl D_cellcount.g D_cellcount.fn.kp D_cellcount.b .nil pass0 (pa_cons (pv 1) pa_nil))))
      (pss_cons (ps_set (i := 5) sc_law.nd rfl (Or.inl rfl) (by exact (pe_call G_table (hr.mono (by first | decide | omega)) rfl D_table.g D_table.fn.kp D_table.b .nil pass0 (pa_cons (pv 1) (pa_cons (pv 2) pa_nil)))))
      (pss_cons (ps_set (i := 6) sc_law.nd rfl (Or.inl rfl) (by exact (pe_call G_table (hr.mono (by first | decide | omega)) rfl D_table.g D_table.fn.kp D_table.b .nil pass0 (pa_cons (pv 1) (pa_cons (pv 2) pa_nil)))))
      (pss_mid (ps_if (pt_val (pe_call G_odds (hr.mono (by first | decide | omega)) rfl D_odds.g D_odds.fn.kp D_odds.b .nil pass0 (pa_cons (pv 1) (pa_cons pe_int pa_nil)))) (pss_cons (ps_set (i := 5) sc_law.nd rfl (Or.inl rfl) (by exact (pe_callTy call_tuple_of (by rfl) T.b_tuple (by first | exact PySem.boot_tuple | decide +kernel) (pa_cons (pv 5) pa_nil))))
          (pss_one (ps_set (i := 6) sc_law.nd rfl (Or.inl rfl) (by exact (pe_callTy call_tuple_of (by rfl) T.b_tuple (by first | exact PySem.boot_tuple | decide +kernel) (pa_cons (pv 6) pa_nil)))))) pss_nil)
      (pss_cons (ps_set (i := 7) sc_law.nd rfl (Or.inl rfl) (by exact (pe_call G_edge (hr.mono (by first | decide | omega)) rfl D_edge.g D_edge.fn.kp D_edge.b .nil pass0 (pa_cons (pv 1) (pa_cons (pv 2) pa_nil)))))
      (pss_cons (ps_set (i := 8) sc_law.nd rfl (Or.inl rfl) (by exact (pe_call G_edge (hr.mono (by first | decide | omega)) rfl D_edge.g D_edge.fn.kp D_edge.b .nil pass0 (pa_cons (pv 1) (pa_cons (pv 2) pa_nil)))))
      (pss_cons (ps_set (i := 9) sc_law.nd rfl (Or.inl rfl) (by exact (pe_op op_modN (pe_callTy call_int1 (by rfl) T.b_int (by first | exact PySem.boot_int | decide +kernel) (pa_cons (pe_op op_add (pv 7) (pv 8)) pa_nil)) (pv 2))))
      (pss_cons (ps_set (i := 10) sc_law.nd rfl (Or.inl rfl) (by exact (pe_call G_movesdue (hr.mono (by first | decide | omega)) rfl D_movesdue.g D_movesdue.fn.kp D_movesdue.b .nil pass0 (pa_cons (pv 3) (pa_cons (pv 4) pa_nil)))))
      (pss_cons (ps_set (i := 11) sc_law.nd rfl (Or.inl rfl) (by exact (pe_call G_move_list (hr.mono (by first | decide | omega)) rfl D_move_list.g D_move_list.fn.kp D_move_list.b .nil passF (pa_cons (pv 3) (pa_cons (pv 4) pa_nil)))))
      (pss_mid (ps_if (PW.pt (pw_or (pt_not (pt_val (pe_call G_same (hr.mono (by first | decide | omega)) rfl D_same.g D_same.fn.kp D_same.b .nil pass0 (pa_cons (pv 11) (pa_cons (pv 10) pa_nil))))) (pw_or1 (pt_not (pt_val (pe_call G_same (hr.mono (by first | decide | omega)) rfl D_same.g D_same.fn.kp D_same.b .nil pass0 (pa_cons (pe_call G_least_steps (hr.mono (by first | decide | omega)) rfl D_least_steps.g D_least_steps.fn.kp D_least_steps.b .nil passF (pa_cons (pv 3) (pa_cons (pv 4) pa_nil))) (pa_cons (pe_call G_leastups (hr.mono (by first | decide | omega)) rfl D_leastups.g D_leastups.fn.kp D_leastups.b .nil pass0 (pa_cons (pv 3) (pa_cons (pv 4) pa_nil))) pa_nil)))))))) (pss_one (ps_ret (by exact pe_bl))) pss_nil)
      (pss_cons (ps_expr (pe_bm PySem.F.plainAttrs_list PySem.F.slot_list_append PySem.F.type_list_append mt_append (pv 11) (pa_cons (pe_tup (pa_cons pe_str (pa_cons pe_int pa_nil))) pa_nil)))
      (pss_mid (ps_if (pt_not (pt_val (pe_call G_same (hr.mono (by first | decide | omega)) rfl D_same.g D_same.fn.kp D_same.b .nil pass0 (pa_cons (pe_call G_move_list (hr.mono (by first | decide | omega)) rfl D_move_list.g D_move_list.fn.kp D_move_list.b .nil passF (pa_cons (pv 3) (pa_cons (pv 4) pa_nil))) (pa_cons (pv 10) pa_nil))))) (pss_one (ps_ret (by exact pe_bl))) pss_nil)
      (pss_cons (ps_set (i := 12) sc_law.nd rfl (Or.inl rfl) (by exact (pe_call G_stretchof (hr.mono (by first | decide | omega)) rfl D_stretchof.g D_stretchof.fn.kp D_stretchof.b .nil pass0 (pa_cons (pv 2) (pa_cons (pv 5) (pa_cons (pv 6) (pa_cons (pv 9) (pa_cons (pv 3) pa_nil))))))))
      (pss_mid (ps_if (pt_not (pt_val (pe_call G_same (hr.mono (by first | decide | omega)) rfl D_same.g D_same.fn.kp D_same.b .nil pass0 (pa_cons (pe_call G_ran (hr.mono (by first | decide | omega)) rfl D_ran.g D_ran.fn.kp D_ran.b .nil pass0 (pa_cons (pv 2) (pa_cons (pv 5) (pa_cons (pv 6) (pa_cons (pv 10) (pa_cons (pv 9) (pa_cons (pv 3) (pa_cons (pv 4) pa_nil)))))))) (pa_cons (pe_tup (pa_cons pe_str (pa_cons (pe_tup (pa_cons (pv 12) (pa_cons (pe_call G_leastups (hr.mono (by first | decide | omega)) rfl D_leastups.g D_leastups.fn.kp D_leastups.b .nil pass0 (pa_cons (pv 3) (pa_cons (pv 4) pa_nil))) pa_nil))) pa_nil))) pa_nil))))) (pss_one (ps_ret (by exact pe_bl))) pss_nil)
      (pss_cons (ps_set (i := 13) sc_law.nd rfl (Or.inl rfl) (by exact (pe_lst (pa_cons (pv 9) pa_nil))))
      (pss_mid (ps_for PassesOwn.never rfl (pi_range1 (by rfl) T.b_range (pa_cons (pv 3) pa_nil)) (pg_name (i := 14) sc_law.nd rfl (Or.inl rfl)) (pss_one (ps_expr (pe_bm PySem.F.plainAttrs_list PySem.F.slot_list_append PySem.F.type_list_append mt_append (pv 13) (pa_cons (pe_ix ix_seq (pv 5) (pe_ix ix_list (pv 13) (pe_un un_neg pe_int) (fun _ _ => rfl)) (fun _ _ => rfl)) pa_nil)))))
      (pss_mid (ps_if (PW.pt (pw_or (pt_not (pt_val (pe_call G_same (hr.mono (by first | decide | omega)) rfl D_same.g D_same.fn.kp D_same.b .nil pass0 (pa_cons (pe_call G_chain (hr.mono (by first | decide | omega)) rfl D_chain.g D_chain.fn.kp D_chain.b .nil passF (pa_cons (pv 2) (pa_cons (pv 5) (pa_cons (pv 9) (pa_cons (pv 3) pa_nil))))) (pa_cons (pv 13) pa_nil))))) (pw_or1 (pt_not (pt_val (pe_call G_same (hr.mono (by first | decide | omega)) rfl D_same.g D_same.fn.kp D_same.b .nil pass0 (pa_cons (pe_call G_chain (hr.mono (by first | decide | omega)) rfl D_chain.g D_chain.fn.kp D_chain.b .nil passF (pa_cons (pv 2) (pa_cons (pv 5) (pa_cons (pv 8) (pa_cons pe_int pa_nil))))) (pa_cons (pe_lst (pa_cons (pv 8) pa_nil)) pa_nil)))))))) (pss_one (ps_ret (by exact pe_bl))) pss_nil)
      (pss_mid (ps_if (pt_not (pt_val (pe_call G_same (hr.mono (by first | decide | omega)) rfl D_same.g D_same.fn.kp D_same.b .nil pass0 (pa_cons (pe_callSK G_stretch (hr.mono (by first | decide | omega)) rfl D_stretch.g D_stretch.fn.kp D_stretch.b (E := fun _ => E0) (fun σ pins H s e s1 I c => passF pins σ H s e s1 I c) (pa_cons (pv 2) (pa_cons (pv 5) (pa_cons (pv 6) pa_nil))) (pk_cons (pv 7) (pk_cons (pv 8) (pk_cons (pv 3) pk_nil)))) (pa_cons (pv 12) pa_nil))))) (pss_one (ps_ret (by exact pe_bl))) pss_nil)
      (pss_cons (ps_set (i := 15) sc_law.nd rfl (Or.inl rfl) (by exact (pe_call G_moves (hr.mono (by first | decide | omega)) rfl D_moves.g D_moves.fn.kp D_moves.b .nil pass0 (pa_cons (pv 1) (pa_cons (pv 3) (pa_cons pe_int (pa_cons pe_int (pa_cons (pv 4) pa_nil))))))))
      (pss_cons (ps_set (i := 16) sc_law.nd rfl (Or.inl rfl) (by exact (pe_lst (pa_cons (pv 15) (pa_cons (pe_call G_bent (hr.mono (by first | decide | omega)) rfl D_bent.g D_bent.fn.kp D_bent.b .nil pass0 (pa_cons (pv 1) (pa_cons (pv 15) (pa_cons (pv 4) pa_nil)))) (pa_cons (pe_call G_bent (hr.mono (by first | decide | omega)) rfl D_bent.g D_bent.fn.kp D_bent.b .nil pass0 (pa_cons (pv 1) (pa_cons (pv 10) (pa_cons (pv 4) pa_nil)))) (pa_cons (pv 10) pa_nil)))))))
      (pss_mid (ps_for PassesOwn.never rfl (pi_list (pe_slice sl_list (pv 16) (po_some (pe_call G_take (hr.mono (by first | decide | omega)) rfl D_take.g D_take.fn.kp D_take.b .nil pass0 (pa_cons (pv 1) (pa_cons pe_int pa_nil)))) po_none)) (pg_name (i := 17) sc_law.nd rfl (Or.inl rfl)) (pss_one (ps_if (pt_not (pt_val (pe_call G_movesright (hr.mono (by first | decide | omega)) rfl D_movesright.g D_movesright.fn.kp D_movesright.b .nil pass0 (pa_cons (pv 2) (pa_cons (pv 5) (pa_cons (pv 6) (pa_cons (pv 17) (pa_cons (pv 8) (pa_cons (pv 3) (pa_cons (pv 4) pa_nil)))))))))) (pss_one (ps_ret (by exact pe_bl))) pss_nil)))
      (pss_mid (ps_for PassesOwn.never rfl (pi_list (pe_lst (pa_cons (pe_lst pa_nil) (pa_cons (pe_lst (pa_cons (pe_tup (pa_cons pe_str (pa_cons pe_int (pa_cons pe_int pa_nil)))) pa_nil)) (pa_cons (pe_lst (pa_cons (pe_tup (pa_cons pe_str (pa_cons pe_int pa_nil))) pa_nil)) (pa_cons (pe_lst (pa_cons pe_non pa_nil)) pa_nil)))))) (pg_name (i := 17) sc_law.nd rfl (Or.inl rfl)) (pss_one (ps_if (PW.pt (pw_or (pt_not (pt_val (pe_call G_movesright (hr.mono (by first | decide | omega)) rfl D_movesright.g D_movesright.fn.kp D_movesright.b .nil pass0 (pa_cons (pv 2) (pa_cons (pv 5) (pa_cons (pv 6) (pa_cons (pv 17) (pa_cons (pv 9) (pa_cons pe_int (pa_cons (pv 4) pa_nil)))))))))) (pw_or1 (pt_not (pt_val (pe_call G_same (hr.mono (by first | decide | omega)) rfl D_same.g D_same.fn.kp D_same.b .nil pass0 (pa_cons (pe_call G_move_list (hr.mono (by first | decide | omega)) rfl D_move_list.g D_move_list.fn.kp D_move_list.b .nil passF (pa_cons pe_int (pa_cons (pv 4) pa_nil))) (pa_cons (pe_lst pa_nil) pa_nil)))))))) (pss_one (ps_ret (by exact pe_bl))) pss_nil)))
      (pss_one (ps_ret (by exact (pe_or (pe_not (pe_call G_odds (hr.mono (by first | decide | omega)) rfl D_odds.g D_odds.fn.kp D_odds.b .nil pass0 (pa_cons (pv 1) (pa_cons pe_int pa_nil)))) (pe_one (pe_call G_refused (hr.mono (by first | decide | omega)) rfl D_refused.g D_refused.fn.kp D_refused.b .nil pass0 (pa_cons (pv 1) (pa_cons (pv 2) (pa_cons (pe_callTy call_list_of (by rfl) T.b_list (by first | exact PySem.boot_list | decide +kernel) (pa_cons (pv 5) pa_nil)) (pa_cons (pe_callTy call_list_of (by rfl) T.b_list (by first | exact PySem.boot_list | decide +kernel) (pa_cons (pv 6) pa_nil)) pa_nil))))))))))))))))))))))))))))))))))), ?_⟩
    walk_at "rd"
    refine ⟨a, ns, rfl, hS, fun st H1 S1 s1 hst => ?_⟩
    clear hS s1 hst
    walk_at "rd"
    refine ⟨S1, fun p H2 hp S2 b2 => ?_⟩
    have hp2 := M02.primes_lo hp
    clear b2 S1
    walk_at "rd"
    refine ⟨S2, fun n0 H3 n01 n02 S3 b3 => ?_⟩
    obtain ⟨n, rfl⟩ : ∃ n : Nat, n0 = n := ⟨n0.toNat, by omega⟩
    clear b3 S2
    walk_at "rd"
    refine ⟨S3, fun m H4 m1 m2 S4 b4 => ?_⟩
    clear b4 S3
    obtain ⟨c, rfl, hc⟩ : ∃ c : Nat, m = ((c + 1 : Nat) : Int) ∧ c < 120 := ⟨(m - 1).toNat, by omega, by omega⟩
    walk_at "rd"
    refine ⟨⟨hp2.1, hp2.2⟩, S4, fun ua tb H5 hu eu ok1 S5 b5 => ?_⟩
    have nu : ua ≠ st := ne_st S4 hu
    clear b5 S4 hu
    walk_at "rd"
    refine ⟨⟨hp2.1, hp2.2⟩, S5, fun da t2 H6 hd ed ok2 S6 b6 => ?_⟩
    have nd : da ≠ st := ne_st S5 hd
    have T6 : Tbs st p ua da tb t2 H6 := ⟨.inl (b6.1 _ _ nu eu), .inl ed, nu, nd, S6⟩
    have eu6 := b6.1 _ _ nu eu
    clear b6 S5 hd eu nu nd S6
    walk_at "rd"
    refine ⟨fun σ' H' => ∃ ua da : Addr, σ' = [some (.ref a), some (.ref st), some (.int p), some (.int n), some (.int ((c + 1 : Nat) : Int)), some (.ref ua), some (.ref da), none, none, none, none, none, none, none, none, none, none, none] ∧ Tbs st p ua da tb t2 H', ?_, ?_⟩
    · walk_at "rd"
      refine ⟨by decide, T6.S, fun b H7 S7 b7 => ?_⟩
      have eu7 := b7.1 _ _ T6.nu eu6
      have ed7 := b7.1 _ _ T6.nd ed
      have T7 := T6.but S7 b7
      clear T6 eu6 ed b7
      cases b with
      | false =>
        walk_at "rd"
        exact T7
      | true =>
        walk_at "rd"
        refine ⟨ua, _, rfl, .inl ⟨SqL.of eu7, fun ut hut => ?_⟩⟩
        have s8 : Same H7 (upd H7 ut (.tup (tb.map V.int))) := same_new hut
        generalize hg : upd H7 ut _ = H8 at s8 ⊢
        have eut : H8 ut = some (.tup (tb.map V.int)) := by rw [← hg]; exact upd_same
        clear hg
        walk_at "rd"
        refine ⟨da, _, rfl, .inl ⟨SqL.of (s8 _ _ ed7), fun dt hdt => ?_⟩⟩
        have s9 : Same H8 (upd H8 dt (.tup (t2.map V.int))) := same_new hdt
        exact ⟨ut, dt, rfl, .inr (s9 _ _ eut), .inr upd_same, ne_st S7 hut, ne_st (S7.keep s8) hdt, (S7.keep s8).keep s9⟩
    clear T6 eu6 ed
    rintro σ' H7 ⟨ua, da, rfl, T7⟩
    walk_at "rd"
    refine ⟨by omega, T7.S, fun one H8 o0 o1 S8 b8 => ?_⟩
    rw [if_pos (by omega)] at o1
    have T8 := T7.but S8 b8
    clear T7 b8 S8
    walk_at "rd"
    refine ⟨by omega, T8.S, fun two H9 w0 w1 S9 b9 => ?_⟩
    rw [if_pos (by omega)] at w1
    have T9 := T8.but S9 b9
    clear T8 b9 S9
    walk_at "rd"
    have em : (one + two).fmod p = (one + two) % p := Int.fmod_eq_emod_of_nonneg _ (by omega)
    have x0 : 0 ≤ (one + two).fmod p := by rw [em]; exact Int.emod_nonneg _ (by omega)
    have x1 : (one + two).fmod p < p := by rw [em]; exact Int.emod_lt_of_pos _ (by omega)
    obtain ⟨ms, hb⟩ := Best.ex n n (Nat.le_refl _) c 0 1
    have hlen := hb.len
    have hT := T_small (c := c) (n := n) (by omega)
    have hml : ms.length ≤ 14640 := by omega
    have hver := hb.verdict
    refine ⟨n, c, ⟨rfl, rfl⟩, by omega, hc, fun ml zs ms1 H10 s10 h10 e10 u10 hb1 => ?_⟩
    obtain rfl := hb.uniq hb1
    have M10 : BL H10 ml ms := ⟨zs, e10, u10⟩
    have T10 := T9.same s10
    have nml : ml ≠ st := ne_st T9.S h10
    clear hb1 u10 e10 T9 s10 h10 zs
    walk_at "rd"
    refine .inl ⟨n, c, ⟨rfl, rfl⟩, by omega, hc, fun al zs ms1 H11 s11 h11 e11 u11 hb1 => ?_⟩
    obtain rfl := hb.uniq hb1
    have hzs : zs.length = ms.length := u11.length
    have A11 : BL H11 al ms := ⟨zs, e11, u11⟩
    clear hb1
    walk_at "rd"
    refine ⟨fun σ' H' => σ' = [some (.ref a), some (.ref st), some (.int p), some (.int n), some (.int ((c + 1 : Nat) : Int)), some (.ref ua), some (.ref da), some (.int one), some (.int two), some (.int ((one + two).fmod p)), some (.ref ml), some (.ref al), none, none, none, none, none, none] ∧ Same H11 H', ?_, ?_⟩
    · walk_at "rd"
      refine ⟨A11.same (M10.keep s11) (by omega), ?_⟩
      walk_at "rd"
      refine .inl ⟨n, c, ⟨rfl, rfl⟩, by omega, hc, ?_⟩
      walk_at "rd"
      refine ⟨n, c, ⟨rfl, rfl⟩, by omega, by omega, ?_⟩
      walk_at "rd"
      refine ⟨.inl ⟨rfl, rfl⟩, ?_⟩
      walk_at "rd"
      exact ⟨rfl, fun _ _ z => z⟩
    rintro σ' H12 ⟨rfl, s12⟩
    walk_at "rd"
    refine ⟨.inl ⟨rfl, _, SqL.of (s12 _ _ e11)⟩, ?_⟩
    walk_at "rd"
    walk_at "nw"
    intro tr htr
    have s13 : Same H12 (upd H12 tr (.tup [.str "read", .int 1])) := same_new htr
    refine ⟨al, _, _, rfl, rfl, s13 _ _ (s12 _ _ e11), sz_lt (by omega), ?_⟩
    have sA := ((s11.trans s12).trans s13).mut (o := .lst (zs ++ [.ref tr])) h11
    generalize upd (upd H12 tr _) al _ = H14 at sA ⊢
    have M14 := M10.keep sA
    have T14 := T10.same sA
    clear A11 e11 u11 s11 h11 s12 s13 htr M10 T10 sA hzs
    walk_at "rd"
    refine ⟨fun σ' H' => σ' = [some (.ref a), some (.ref st), some (.int p), some (.int n), some (.int ((c + 1 : Nat) : Int)), some (.ref ua), some (.ref da), some (.int one), some (.int two), some (.int ((one + two).fmod p)), some (.ref ml), some (.ref al), none, none, none, none, none, none] ∧ Same H14 H', ?_, ?_⟩
    · walk_at "rd"
      refine .inl ⟨n, c, ⟨rfl, rfl⟩, by omega, hc, fun bl ys ms1 H15 s15 h15 e15 u15 hb1 => ?_⟩
      obtain rfl := hb.uniq hb1
      have B15 : BL H15 bl ms := ⟨ys, e15, u15⟩
      walk_at "rd"
      refine ⟨B15.same (M14.keep s15) (by omega), ?_⟩
      walk_at "rd"
      exact ⟨rfl, s15⟩
    rintro σ' H16 ⟨rfl, s16⟩
    have M16 := M14.keep s16
    have T16 := T14.same s16
    clear M14 T14 s16
    walk_at "rd"
    refine ⟨p, ua, da, (one + two).fmod p, n, rfl, ⟨hp2.1, x0, x1, by omega⟩, tb, t2, T16.u, T16.d, ok1, ok2, fun H17 s17 => ?_⟩
    have M17 := M16.keep s17
    have T17 := T16.same s17
    clear M16 T16 s17
    generalize hW : worthN p tb t2 ((one + two).fmod p) n = W
    walk_at "rd"
    refine ⟨fun σ' H' => σ' = [some (.ref a), some (.ref st), some (.int p), some (.int n), some (.int ((c + 1 : Nat) : Int)), some (.ref ua), some (.ref da), some (.int one), some (.int two), some (.int ((one + two).fmod p)), some (.ref ml), some (.ref al), some (.int W), none, none, none, none, none] ∧ Same H17 H', ?_, ?_⟩
    · walk_at "rd"
      obtain ⟨zs, ez, uz⟩ := id M17
      have hzl : zs.length = ms.length := uz.length
      have small := hb.small (Int.le_refl 0) (by decide) (by decide) (by omega)
      refine ⟨p, ua, da, ml, (one + two).fmod p, n, ((c + 1 : Nat) : Int), rfl, ⟨hp, x0, x1, by omega, by omega, by omega⟩, tb, t2, zs, ms, T17.u, T17.d, ok1, ok2, ez, by omega, IsUs.isMs uz, fun x hx => (IsUs.it (st := st) uz small x hx).self, fun t H18 s18 g => ?_⟩
      rw [hW] at g
      have g2 : ∃ u, H18 t = some (.tup [.str "told", .ref u]) ∧ H18 u = some (.tup [.int W, .int (M11.T n (c + 1))]) := by
        rcases g with ⟨k, u, g1, g2, g3⟩ | ⟨j, g1, _⟩
        · rw [hver] at g1
          cases g1
          exact ⟨u, g2, g3⟩
        · rw [hver] at g1
          cases g1
      obtain ⟨u, g2, g3⟩ := g2
      walk_at "rd"
      refine ⟨n, c, ⟨rfl, rfl⟩, by omega, by omega, ?_⟩
      walk_at "rd"
      walk_at "nw"
      intro v hv
      have s19 : Same H18 (upd H18 v (.tup [.int W, .int (M11.T n (c + 1))])) := same_new hv
      generalize hg : upd H18 v _ = H19 at s19 ⊢
      have ev : H19 v = some (.tup [.int W, .int (M11.T n (c + 1))]) := by rw [← hg]; exact upd_same
      clear hg
      walk_at "nw"
      intro y hy
      have s20 := same_new (o := .tup [.str "told", .ref v]) hy
      have s1820 := s19.trans s20
      walk_at "rd"
      refine ⟨SameD.le (sameD_told (s1820 _ _ g2) upd_same (s1820 _ _ g3) (s20 _ _ ev) rfl rfl) (by decide), ?_⟩
      walk_at "rd"
      exact ⟨rfl, s18.trans s1820⟩
    rintro σ' H18 ⟨rfl, s18⟩
    have M18 := M17.keep s18
    have T18 := T17.same s18
    clear M17 T17 s18 hver
    walk_at "rd"
    walk_at "nw"
    intro rl hrl
    have s19 : Same H18 (upd H18 rl (.lst [.int ((one + two).fmod p)])) := same_new hrl
    generalize hg : upd H18 rl _ = H19 at s19 ⊢
    have el : H19 rl = some (.lst (rowV tb ((one + two).fmod p) 1)) := by rw [← hg]; exact upd_same
    clear hg
    walk_at "rd"
    refine ⟨fun σ' H' => ∃ v14 : Option V, σ' = [some (.ref a), some (.ref st), some (.int p), some (.int n), some (.int ((c + 1 : Nat) : Int)), some (.ref ua), some (.ref da), some (.int one), some (.int two), some (.int ((one + two).fmod p)), some (.ref ml), some (.ref al), some (.int W), some (.ref rl), v14, none, none, none] ∧ Same H18 H' ∧ H' rl = some (.lst (rowV tb ((one + two).fmod p) (n + 1))), ?_, ?_⟩
    · walk_at "rd"
      refine ⟨by omega, by omega, ?_⟩
      rw [show ((n : Nat) : Int).toNat = n by omega]
      refine for_range (fun i σ H' => ∃ v14 : Option V, σ = [some (.ref a), some (.ref st), some (.int p), some (.int n), some (.int ((c + 1 : Nat) : Int)), some (.ref ua), some (.ref da), some (.int one), some (.int two), some (.int ((one + two).fmod p)), some (.ref ml), some (.ref al), some (.int W), some (.ref rl), v14, none, none, none] ∧ Same H18 H' ∧ H' rl = some (.lst (rowV tb ((one + two).fmod p) (i + 1)))) ⟨_, rfl, s19, el⟩ ?_ (fun σ H' h => h)
      rintro i σ G hi ⟨v14, rfl, s3, e3⟩
      walk_at "rd"
      refine ⟨.inl ⟨rfl, _, SqL.of e3⟩, ?_⟩
      walk_at "rd"
      refine ⟨rl, _, _, _, rfl, rfl, SqL.of e3, by rw [rowV_succ]; exact atI_last _ _, ?_⟩
      have b := rowN_in ok1 x0 x1 i
      refine (T18.u.keep s3).ix (cellT_at ok1 b.1 b.2) ?_
      refine ⟨rl, _, _, rfl, rfl, e3, sz_lt (by rw [rowV_len]; omega), ?_⟩
      exact ⟨_, rfl, s3.mut hrl, by rw [upd_same, rowV_succ (n := i + 1)]; rfl⟩
    clear s19 el H19
    rintro σ' H19 ⟨v14, rfl, s19, el⟩
    have M19 := M18.keep s19
    have T19 := T18.same s19
    clear M18 T18 s19 hrl
    walk_at "rd"
    refine ⟨fun σ' H' => σ' = [some (.ref a), some (.ref st), some (.int p), some (.int n), some (.int ((c + 1 : Nat) : Int)), some (.ref ua), some (.ref da), some (.int one), some (.int two), some (.int ((one + two).fmod p)), some (.ref ml), some (.ref al), some (.int W), some (.ref rl), v14, none, none, none] ∧ Same H19 H', ?_, ?_⟩
    · walk_at "rd"
      refine ⟨_, _, _, n, rfl, .inl ⟨p, rfl, hp, .inl ⟨tb, ⟨ua, rfl, T19.u, ok1⟩, ⟨x0, x1, by omega⟩, fun l H20 s20 hl e20 => ?_⟩⟩⟩
      walk_at "rd"
      refine ⟨SameD.le (n := 2) (sameD_lists (n := 1) e20 (s20 _ _ el) (by rw [rowV_len]; omega) (fun x hx => by
        obtain ⟨k, _, rfl⟩ := List.mem_map.mp hx
        exact .inl ⟨rfl, rfl⟩)) (by decide), ?_⟩
      walk_at "rd"
      refine ⟨_, _, _, 0, rfl, .inl ⟨p, rfl, hp, .inl ⟨tb, ⟨ua, rfl, T19.u.keep s20, ok1⟩, ⟨w0, w1, by omega⟩, fun l2 H21 s21 hl2 e21 => ?_⟩⟩⟩
      walk_at "rd"
      walk_at "nw"
      intro l3 hl3
      have s22 := same_new (o := .lst [.int two]) hl3
      walk_at "rd"
      refine ⟨SameD.le (n := 2) (sameD_lists (n := 1) (xs := [.int two]) (s22 _ _ e21) upd_same (by show 1 ≤ 100000; decide) fun x hx => by
        rw [List.mem_singleton.mp hx]
        exact .inl ⟨rfl, rfl⟩) (by decide), ?_⟩
      walk_at "rd"
      exact ⟨rfl, (s20.trans s21).trans s22⟩
    rintro σ' H20 ⟨rfl, s20⟩
    have M20 := M19.keep s20
    have T20 := T19.same s20
    clear M19 T19 s20 el
    walk_at "rd"
    refine ⟨fun σ' H' => σ' = [some (.ref a), some (.ref st), some (.int p), some (.int n), some (.int ((c + 1 : Nat) : Int)), some (.ref ua), some (.ref da), some (.int one), some (.int two), some (.int ((one + two).fmod p)), some (.ref ml), some (.ref al), some (.int W), some (.ref rl), v14, none, none, none] ∧ Same H20 H', ?_, ?_⟩
    · walk_at "rd"
      refine ⟨_, _, _, one, two, n, rfl, .inl ⟨p, rfl, hp, .inl ⟨tb, ⟨ua, rfl, T20.u, ok1⟩, .inl ⟨t2, ⟨da, rfl, T20.d, ok2⟩, by omega, fun H21 s21 => ?_⟩⟩⟩⟩
      walk_at "rd"
      refine ⟨.inl ⟨by rw [← hW, em], rfl⟩, ?_⟩
      walk_at "rd"
      exact ⟨rfl, s21⟩
    rintro σ' H21 ⟨rfl, s21⟩
    have M21 := M20.keep s21
    have T21 := T20.same s21
    clear M20 T20 s21 hW
    walk_at "rd"
    refine ⟨st, n, 0, 1, _, rfl, ⟨by omega, by show (n : Int) ≤ ((121 : Nat) : Int); omega, by omega⟩, ⟨by decide, by decide, by decide, by omega, by omega, by omega⟩, T21.S, fun r xr H22 hr0 er ur zr S22 b22 => ?_⟩
    have T22 := T21.but S22 b22
    have zr2 : (xr.length : Int) ≤ 122 * (n : Int) := zr
    have Mr : LM st H22 r 14640 := ⟨xr, er, ne_st T21.S hr0, fun x hx => (ur x hx).it, by omega⟩
    have small := hb.small (Int.le_refl 0) (by decide) (by decide) (by omega)
    have Mm : LM st H22 ml 14640 := by
      obtain ⟨zs, ez, uz⟩ := M21
      have hzl : zs.length = ms.length := uz.length
      exact LM.keep ⟨zs, ez, nml, IsUs.it uz small, by omega⟩ T21.S b22
    clear M21 T21 hr0 er ur zr b22 small hb hlen hT hml
    have c0 : (1 : Int) ≤ ((c + 1 : Nat) : Int) := by omega
    have c1 : ((c + 1 : Nat) : Int) ≤ 120 := by omega
    walk_at "rd"
    try dsimp only [tNil, List.cons_append, List.nil_append]
    refine Mr.bent (by decide) c0 c1 S22 fun bt H23 Mb S23 b23 => ?_
    replace Mr := Mr.keep S22 b23
    replace Mm := Mm.keep S22 b23
    have T23 := T22.but S23 b23
    clear b23 S22 T22
    walk_at "rd"
    try dsimp only [tNil, List.cons_append, List.nil_append]
    refine Mm.bent (by decide) c0 c1 S23 fun b3 H24 M3 S24 b24 => ?_
    replace Mr := Mr.keep S23 b24
    replace Mm := Mm.keep S23 b24
    replace Mb := Mb.keep S23 b24
    have T24 := T23.but S24 b24
    clear b24 S23 T23
    walk_at "rd"
    walk_at "nw"
    intro td htd
    have ntd : td ≠ st := ne_st S24 htd
    have s25 : Same H24 (upd H24 td (.lst [.ref r, .ref bt, .ref b3, .ref ml])) := same_new htd
    generalize hg : upd H24 td _ = H25 at s25 ⊢
    have etd : H25 td = some (.lst [.ref r, .ref bt, .ref b3, .ref ml]) := by rw [← hg]; exact upd_same
    clear hg htd
    have T25 := T24.same s25
    have all : ∀ x ∈ ([.ref r, .ref bt, .ref b3, .ref ml] : List V), ∃ l, x = .ref l ∧ LM st H25 l 14641 := fun x hx => by
      simp only [List.mem_cons, List.mem_nil_iff, or_false] at hx
      rcases hx with rfl | rfl | rfl | rfl
      · exact ⟨_, rfl, (Mr.keep S24 (.of s25)).le (by decide)⟩
      · exact ⟨_, rfl, Mb.keep S24 (.of s25)⟩
      · exact ⟨_, rfl, M3.keep S24 (.of s25)⟩
      · exact ⟨_, rfl, (Mm.keep S24 (.of s25)).le (by decide)⟩
    clear Mr Mb M3 Mm S24 T24 s25
    have right : ∀ {G : Hp} {l : Addr} {x : Int} {m k : Nat} {Q : VK} {E : XK}, LM st G l k → k ≤ 20000 → Tbs st p ua da tb t2 G → 0 ≤ x → x < p → m ≤ 120 → (∀ H', Same G H' → Q (.bl true) H') → spRight [.int p, .ref ua, .ref da, .ref l, .int x, .int m, .int ((c + 1 : Nat) : Int)] G Q E := by
      rintro G l x m k Q E ⟨xs, e, ne, i, z⟩ hk tt h0 h1 hm hq
      obtain ⟨ms, him⟩ := It1s.ism i
      exact ⟨p, ua, da, l, x, m, _, rfl, ⟨hp, h0, h1, hm, c0, c1⟩, tb, t2, xs, ms, tt.u, tt.d, ok1, ok2, e, by omega, him, fun y hy => (i y hy).self, hq⟩
    walk_at "rd"
    refine ⟨fun σ' H' => ∃ v14 v17 : Option V, σ' = [some (.ref a), some (.ref st), some (.int p), some (.int n), some (.int ((c + 1 : Nat) : Int)), some (.ref ua), some (.ref da), some (.int one), some (.int two), some (.int ((one + two).fmod p)), some (.ref ml), some (.ref al), some (.int W), some (.ref rl), v14, some (.ref r), some (.ref td), v17] ∧ Tbs st p ua da tb t2 H', ?_, ?_⟩
    · walk_at "rd"
      refine ⟨by decide, T25.S, fun d H26 d0 d1 S26 b26 => ?_⟩
      have T26 := T25.but S26 b26
      have etd6 := b26.1 _ _ ntd etd
      have all6 : ∀ x ∈ ([.ref r, .ref bt, .ref b3, .ref ml] : List V), ∃ l, x = .ref l ∧ LM st H26 l 14641 := fun x hx => by
        obtain ⟨l, e, h⟩ := all x hx
        exact ⟨l, e, h.keep T25.S b26⟩
      clear all b26 T25 etd
      walk_at "rd"
      refine ⟨td, _, rfl, SqL.of etd6, fun sl hsl => ?_⟩
      have s27 := same_new (o := .lst (cutV [.ref r, .ref bt, .ref b3, .ref ml] (some d) none)) hsl
      generalize hg : upd H26 sl _ = H27 at s27 ⊢
      have esl : H27 sl = some (.lst (cutV [.ref r, .ref bt, .ref b3, .ref ml] (some d) none)) := by rw [← hg]; exact upd_same
      clear hg hsl
      walk_at "rd"
      refine ⟨⟨_, SqL.of esl⟩, for_list (K := K) (a := sl) (xs := cutV [.ref r, .ref bt, .ref b3, .ref ml] (some d) none) (fun _ σ H' => ∃ v17 : Option V, σ = [some (.ref a), some (.ref st), some (.int p), some (.int n), some (.int ((c + 1 : Nat) : Int)), some (.ref ua), some (.ref da), some (.int one), some (.int two), some (.int ((one + two).fmod p)), some (.ref ml), some (.ref al), some (.int W), some (.ref rl), v14, some (.ref r), some (.ref td), v17] ∧ Same H27 H') ⟨_, rfl, fun _ _ z => z⟩ (fun i σ H' _ z => by obtain ⟨_, _, z⟩ := z; exact SqL.of (z _ _ esl)) ?_ ?_⟩
      · rintro i y σ G hi ⟨v17, rfl, sG⟩
        obtain ⟨l, rfl, Ml⟩ := all6 y (List.mem_of_mem_drop (List.mem_of_mem_take (List.mem_of_getElem? hi)))
        have s26 := s27.trans sG
        walk_at "rd"
        dsimp only [tNil, List.cons_append, List.nil_append]
        refine right (Ml.keep S26 (.of s26)) (by decide) (T26.same s26) w0 w1 (by omega) fun H28 s28 => ?_
        walk_at "rd"
        exact sG.trans s28
      · rintro σ G ⟨v17, rfl, sG⟩
        exact ⟨v14, v17, rfl, T26.same (s27.trans sG)⟩
    clear all T25 etd
    rintro σ' H26 ⟨v14, v17, rfl, T26⟩
    walk_at "rd"
    refine ⟨fun σ' H' => ∃ v14 v17 : Option V, σ' = [some (.ref a), some (.ref st), some (.int p), some (.int n), some (.int ((c + 1 : Nat) : Int)), some (.ref ua), some (.ref da), some (.int one), some (.int two), some (.int ((one + two).fmod p)), some (.ref ml), some (.ref al), some (.int W), some (.ref rl), v14, some (.ref r), some (.ref td), v17] ∧ Tbs st p ua da tb t2 H', ?_, ?_⟩
    · walk_at "rd"
      walk_at "nw"
      intro q1 hq1
      walk_at "rd"
      have L0 := LM.new (k := 1) T26.S hq1 (xs := []) (fun x hx => nomatch hx) (Nat.zero_le _)
      have t0 := T26.same (same_new (o := .lst []) hq1)
      generalize hg : upd H26 q1 _ = G1 at L0 t0 ⊢
      clear hg hq1 T26
      walk_at "rd"
      walk_at "nw"
      intro u1 hu1
      have k1 : Same G1 (upd G1 u1 (.tup [.str "up", .int 0, .int 1])) := same_new hu1
      generalize hg : upd G1 u1 _ = G2 at k1 ⊢
      have e1 : G2 u1 = some (.tup [.str "up", .int 0, .int 1]) := by rw [← hg]; exact upd_same
      clear hg hu1
      have t1 := t0.same k1
      have L0' := L0.keep t0.S (.of k1)
      walk_at "nw"
      intro q2 hq2
      have L2' := LM.new (k := 1) t1.S hq2 (xs := [.ref u1]) (fun x hx => by
        rw [List.mem_singleton.mp hx]
        exact (UR.up e1 (by decide) (by decide) (by decide) (by decide)).it) (Nat.le_refl 1)
      have k2 : Same G2 (upd G2 q2 (.lst [.ref u1])) := same_new hq2
      have t2' := t1.same k2
      have L0'' := L0'.keep t1.S (.of k2)
      generalize hg : upd G2 q2 _ = G3 at L2' k2 t2' L0'' ⊢
      clear hg hq2
      walk_at "rd"
      walk_at "nw"
      intro u2 hu2
      have k3 : Same G3 (upd G3 u2 (.tup [.str "read", .int 1])) := same_new hu2
      generalize hg : upd G3 u2 _ = G4 at k3 ⊢
      have e2 : G4 u2 = some (.tup [.str "read", .int 1]) := by rw [← hg]; exact upd_same
      clear hg hu2
      have t3 := t2'.same k3
      have A0 := L0''.keep t2'.S (.of k3)
      have A1 := L2'.keep t2'.S (.of k3)
      walk_at "nw"
      intro q3 hq3
      have A2 := LM.new (k := 1) t3.S hq3 (xs := [.ref u2]) (fun x hx => by
        rw [List.mem_singleton.mp hx]
        exact (UR.read e2 (by decide) (by decide)).it) (Nat.le_refl 1)
      have k4 : Same G4 (upd G4 q3 (.lst [.ref u2])) := same_new hq3
      have t4 := t3.same k4
      have B0 := A0.keep t3.S (.of k4)
      have B1 := A1.keep t3.S (.of k4)
      generalize hg : upd G4 q3 _ = G5 at A2 k4 t4 B0 B1 ⊢
      clear hg hq3
      walk_at "rd"
      walk_at "nw"
      intro q4 hq4
      have A3 := LM.new (k := 1) t4.S hq4 (xs := [.non]) (fun x hx => by
        rw [List.mem_singleton.mp hx]
        exact .flat _ rfl) (Nat.le_refl 1)
      have k5 : Same G5 (upd G5 q4 (.lst [.non])) := same_new hq4
      have t5 := t4.same k5
      have C0 := B0.keep t4.S (.of k5)
      have C1 := B1.keep t4.S (.of k5)
      have C2 := A2.keep t4.S (.of k5)
      generalize hg : upd G5 q4 _ = G6 at A3 k5 t5 C0 C1 C2 ⊢
      clear hg hq4
      walk_at "nw"
      intro ll hll
      have k6 : Same G6 (upd G6 ll (.lst [.ref q1, .ref q2, .ref q3, .ref q4])) := same_new hll
      generalize hg : upd G6 ll _ = G7 at k6 ⊢
      have ell : G7 ll = some (.lst [.ref q1, .ref q2, .ref q3, .ref q4]) := by rw [← hg]; exact upd_same
      clear hg hll
      have t6 := t5.same k6
      have all4 : ∀ x ∈ ([.ref q1, .ref q2, .ref q3, .ref q4] : List V), ∃ l, x = .ref l ∧ LM st G7 l 1 := fun x hx => by
        simp only [List.mem_cons, List.mem_nil_iff, or_false] at hx
        rcases hx with rfl | rfl | rfl | rfl
        · exact ⟨_, rfl, C0.keep t5.S (.of k6)⟩
        · exact ⟨_, rfl, C1.keep t5.S (.of k6)⟩
        · exact ⟨_, rfl, C2.keep t5.S (.of k6)⟩
        · exact ⟨_, rfl, A3.keep t5.S (.of k6)⟩
      clear L0 L0' L0'' L2' A0 A1 A2 A3 B0 B1 C0 C1 C2 k1 k2 k3 k4 k5 k6 t0 t1 t2' t3 t4 t5 e1 e2
      walk_at "rd"
      refine ⟨⟨_, SqL.of ell⟩, for_list (K := K) (a := ll) (xs := [.ref q1, .ref q2, .ref q3, .ref q4]) (fun _ σ H' => ∃ v17 : Option V, σ = [some (.ref a), some (.ref st), some (.int p), some (.int n), some (.int ((c + 1 : Nat) : Int)), some (.ref ua), some (.ref da), some (.int one), some (.int two), some (.int ((one + two).fmod p)), some (.ref ml), some (.ref al), some (.int W), some (.ref rl), v14, some (.ref r), some (.ref td), v17] ∧ Same G7 H') ⟨_, rfl, fun _ _ z => z⟩ (fun i σ H' _ z => by obtain ⟨_, _, z⟩ := z; exact SqL.of (z _ _ ell)) ?_ ?_⟩
      · rintro i y σ G hi ⟨v17, rfl, sG⟩
        obtain ⟨l, rfl, Ml⟩ := all4 y (List.mem_of_getElem? hi)
        walk_at "rd"
        dsimp only [tNil, List.cons_append, List.nil_append]
        refine right (m := 0) (Ml.keep t6.S (.of sG)) (by decide) (t6.same sG) x0 x1 (by decide) fun H28 s28 => ?_
        walk_at "rd"
        refine .inl ⟨0, c, ⟨rfl, rfl⟩, by decide, hc, fun ol zs ms1 H29 s29 h29 e29 u29 hb1 => ?_⟩
        obtain rfl := hb1.zero
        have hz0 : zs = [] := List.eq_nil_of_length_eq_zero u29.length
        subst hz0
        walk_at "rd"
        walk_at "nw"
        intro ne hne
        have s30 := same_new (o := .lst []) hne
        walk_at "rd"
        refine ⟨SameD.le (n := 2) (sameD_lists (n := 1) (xs := []) (s30 _ _ e29) upd_same (by decide) fun x hx => nomatch hx) (by decide), ?_⟩
        walk_at "rd"
        exact ((sG.trans s28).trans s29).trans s30
      · rintro σ G ⟨v17, rfl, sG⟩
        exact ⟨v14, v17, rfl, t6.same sG⟩
    rintro σ' H27 ⟨v14, v17, rfl, T27⟩
    walk_at "rd"
    refine ⟨by decide, T27.S, fun bb H28 S28 b28 => ?_⟩
    have T28 := T27.but S28 b28
    cases bb with
    | false =>
      walk_at "rd"
      exact q _
    | true =>
      walk_at "rd"
      refine ⟨ua, _, rfl, T28.u.elim (fun e => .inl (SqL.of e)) (fun e => .inr (SqT.of e)), fun l1 h1 => ?_⟩
      have k1 := same_new (o := .lst (tb.map V.int)) h1
      have n1 := ne_st T28.S h1
      have T29 := T28.same k1
      walk_at "rd"
      refine ⟨da, _, rfl, T29.d.elim (fun e => .inl (SqL.of e)) (fun e => .inr (SqT.of e)), fun l2 h2 => ?_⟩
      have k2 := same_new (o := .lst (t2.map V.int)) h2
      have n2 := ne_st T29.S h2
      walk_at "rd"
      refine ⟨st, p, l1, l2, rfl, hp, T29.S.keep k2, n1, n2, tb, t2, k2 _ _ upd_same, upd_same, ok1, ok2, fun H30 => ?_⟩
      walk_at "rd"
      exact q _
end
end K47

set_option Elab.async false
set_option linter.all false
set_option maxRecDepth 100000
set_option maxHeartbeats 4000000
namespace K47
open PySem PySem.Spec PyProof.Rows L2
section
open PySem.W PySem.Calls PySem.HandSPX PySem.VX
def pV : Pos := ⟨4, 17, 4, 21⟩
def qV : Nat → Pos
  | 0 => ⟨5, 8, 5, 12⟩
  | 1 => ⟨5, 8, 5, 17⟩
  | 2 => ⟨5, 20, 5, 24⟩
  | 3 => ⟨5, 20, 5, 34⟩
  | 4 => ⟨5, 20, 5, 43⟩
  | 5 => ⟨5, 20, 5, 49⟩
  | 6 => ⟨5, 20, 5, 51⟩
  | _ => ⟨5, 8, 5, 51⟩
def r_BadMove : Nat → Pos
  | 0 => ⟨30, 8, 30, 13⟩
  | 1 => ⟨30, 8, 30, 15⟩
  | 2 => ⟨30, 8, 30, 24⟩
  | 3 => ⟨30, 8, 30, 26⟩
  | _ => ⟨30, 8, 30, 26⟩
def st_BadMove : List Stmt := [.Assign [.Attribute (.Name "self" ⟨31, 8, 31, 12⟩) "at" ⟨31, 8, 31, 15⟩] (.Name "at" ⟨31, 18, 31, 20⟩) ⟨31, 8, 31, 20⟩]
def r_BadCells : Nat → Pos
  | 0 => ⟨21, 8, 21, 13⟩
  | 1 => ⟨21, 8, 21, 15⟩
  | 2 => ⟨21, 8, 21, 24⟩
  | 3 => ⟨21, 8, 21, 26⟩
  | _ => ⟨21, 8, 21, 26⟩
def st_BadCells : List Stmt := [.Assign [.Attribute (.Name "self" ⟨22, 8, 22, 12⟩) "cells" ⟨22, 8, 22, 18⟩] (.Name "cells" ⟨22, 21, 22, 26⟩) ⟨22, 8, 22, 26⟩]
def r_BadPrime : Nat → Pos
  | 0 => ⟨11, 8, 11, 13⟩
  | 1 => ⟨11, 8, 11, 15⟩
  | 2 => ⟨11, 8, 11, 24⟩
  | 3 => ⟨11, 8, 11, 26⟩
  | _ => ⟨11, 8, 11, 26⟩
def st_BadPrime : List Stmt := [.Assign [.Attribute (.Name "self" ⟨12, 8, 12, 12⟩) "value" ⟨12, 8, 12, 18⟩] (.Name "value" ⟨12, 21, 12, 26⟩) ⟨12, 8, 12, 26⟩]
def r_BadTable : Nat → Pos
  | 0 => ⟨16, 8, 16, 13⟩
  | 1 => ⟨16, 8, 16, 15⟩
  | 2 => ⟨16, 8, 16, 24⟩
  | 3 => ⟨16, 8, 16, 26⟩
  | _ => ⟨16, 8, 16, 26⟩
def st_BadTable : List Stmt := [.Assign [.Attribute (.Name "self" ⟨17, 8, 17, 12⟩) "which" ⟨17, 8, 17, 18⟩] (.Name "which" ⟨17, 21, 17, 26⟩) ⟨17, 8, 17, 26⟩]

/-- an error of the class at C is what «except S» names, S above C -/
theorem exm_of2 {K : PySem.W.Frag} {C S : Addr} (h1 : PySem.W.subIn K (.ref S) (.type "BaseException") = some true) (h2 : PySem.W.isClsIn K S = true) (h3 : PySem.W.typeIn K (.ref S) = some (.type "type")) (h4 : PySem.W.subIn K (.ref C) (.ref S) = some true) :
    PySem.W.exmOne K (.ref C) (.ref S) = some true := by
  have e1 : (PySem.W.subIn K (.ref S) (.type "BaseException") == some true) = true := by rw [h1] <;> rfl
  have e2 : ((PySem.W.clsIn K S).isSome && PySem.W.typeIn K (.ref S) == some (.type "type")) = true := by
    have h2b : (PySem.W.clsIn K S).isSome = true := h2
    rw [h2b, h3] <;> rfl
  show (if (PySem.W.subIn K (.ref S) (.type "BaseException") == some true) = true then (if ((PySem.W.clsIn K S).isSome && PySem.W.typeIn K (.ref S) == some (.type "type")) = true then PySem.W.subIn K (.ref C) (.ref S) else none) else none) = some true
  rw [if_pos e1, if_pos e2]
  exact h4
theorem exm_of3 {K : PySem.W.Frag} {C S : Addr} {b : Bool} (h1 : PySem.W.subIn K (.ref S) (.type "BaseException") = some true) (h2 : PySem.W.isClsIn K S = true) (h3 : PySem.W.typeIn K (.ref S) = some (.type "type")) (h4 : PySem.W.subIn K (.ref C) (.ref S) = some b) :
    PySem.W.exmOne K (.ref C) (.ref S) = some b := by
  have e1 : (PySem.W.subIn K (.ref S) (.type "BaseException") == some true) = true := by rw [h1] <;> rfl
  have e2 : ((PySem.W.clsIn K S).isSome && PySem.W.typeIn K (.ref S) == some (.type "type")) = true := by
    have h2b : (PySem.W.clsIn K S).isSome = true := h2
    rw [h2b, h3] <;> rfl
  show (if (PySem.W.subIn K (.ref S) (.type "BaseException") == some true) = true then (if ((PySem.W.clsIn K S).isSome && PySem.W.typeIn K (.ref S) == some (.type "type")) = true then PySem.W.subIn K (.ref C) (.ref S) else none) else none) = some b
  rw [if_pos e1, if_pos e2]
  exact h4
theorem all_mk {P : Program} {w : World} {K : PySem.W.Frag} {h : Heap} {mg : Str → Option Value} {fa : Addr} (X : K.In h) (G : h.Ns mainGlobals mg) (hfa : mg "law" = some (.ref fa))
    {f_is_whole f_lies_within f_is_prime f_need_prime f_choose f_check_table f_chain f_stretch f_fold f_need_cells f_rounds f_least_steps f_best_stop f_move_list f_write_moves f_check_moves f_is_move f_run_moves f_store f_mix f_take f_edge f_odds f_pick f_put f_primes f_prime f_table f_badtable f_length f_cellcount f_badcells f_moves f_play f_moveshape f_leastups f_stretchof f_isint f_same f_copyof f_bent f_stop f_movesdue f_ran f_checked f_movesright f_door f_spoilt f_refused f_law C_VaultError C_NumberError C_BadPrime C_BadTable C_BadCells C_ShapeError C_PaperError C_BadMove fV fI_BadMove cda_BadMove cc_BadMove N_BadMove fI_BadCells cda_BadCells cc_BadCells N_BadCells fI_BadPrime cda_BadPrime cc_BadPrime N_BadPrime fI_BadTable cda_BadTable cc_BadTable N_BadTable : Addr} {od_is_whole an_is_whole od_lies_within an_lies_within od_is_prime an_is_prime od_need_prime an_need_prime od_choose an_choose od_check_table an_check_table od_chain an_chain od_stretch an_stretch od_fold an_fold od_need_cells an_need_cells od_rounds an_rounds od_least_steps an_least_steps od_best_stop an_best_stop od_move_list an_move_list od_write_moves an_write_moves od_check_moves an_check_moves od_is_move an_is_move od_run_moves an_run_moves od_store an_store od_mix an_mix od_take an_take od_edge an_edge od_odds an_odds od_pick an_pick od_put an_put od_primes an_primes od_prime an_prime od_table an_table od_badtable an_badtable od_length an_length od_cellcount an_cellcount od_badcells an_badcells od_moves an_moves od_play an_play od_moveshape an_moveshape od_leastups an_leastups od_stretchof an_stretchof od_isint an_isint od_same an_same od_copyof an_copyof od_bent an_bent od_stop an_stop od_movesdue an_movesdue od_ran an_ran od_checked an_checked od_movesright an_movesright od_door an_door od_spoilt an_spoilt od_refused an_refused od_law an_law dd_BadMove odI_BadMove anI_BadMove cdd_BadMove cld_BadMove dd_BadCells odI_BadCells anI_BadCells cdd_BadCells cld_BadCells dd_BadPrime odI_BadPrime anI_BadPrime cdd_BadPrime cld_BadPrime dd_BadTable odI_BadTable anI_BadTable cdd_BadTable cld_BadTable odV anV : Option Addr} {sl_is_whole sl_lies_within sl_is_prime sl_need_prime sl_choose sl_check_table sl_chain sl_stretch sl_fold sl_need_cells sl_rounds sl_least_steps sl_best_stop sl_move_list sl_write_moves sl_check_moves sl_is_move sl_run_moves sl_store sl_mix sl_take sl_edge sl_odds sl_pick sl_put sl_primes sl_prime sl_table sl_badtable sl_length sl_cellcount sl_badcells sl_moves sl_play sl_moveshape sl_leastups sl_stretchof sl_isint sl_same sl_copyof sl_bent sl_stop sl_movesdue sl_ran sl_checked sl_movesright sl_door sl_spoilt sl_refused sl_law oslI_BadMove ccs_BadMove csl_BadMove oslI_BadCells ccs_BadCells csl_BadCells oslI_BadPrime ccs_BadPrime csl_BadPrime oslI_BadTable ccs_BadTable csl_BadTable oslV : Array (Option Value)} {oc_is_whole kV_is_whole dc_is_whole pm_is_whole cd_is_whole ct_is_whole oc_lies_within kV_lies_within dc_lies_within pm_lies_within cd_lies_within ct_lies_within oc_is_prime kV_is_prime dc_is_prime pm_is_prime cd_is_prime ct_is_prime oc_need_prime kV_need_prime dc_need_prime pm_need_prime cd_need_prime ct_need_prime oc_choose kV_choose dc_choose pm_choose cd_choose ct_choose oc_check_table kV_check_table dc_check_table pm_check_table cd_check_table ct_check_table oc_chain kV_chain dc_chain pm_chain cd_chain ct_chain oc_stretch kV_stretch dc_stretch pm_stretch cd_stretch ct_stretch oc_fold kV_fold dc_fold pm_fold cd_fold ct_fold oc_need_cells kV_need_cells dc_need_cells pm_need_cells cd_need_cells ct_need_cells oc_rounds kV_rounds dc_rounds pm_rounds cd_rounds ct_rounds oc_least_steps kV_least_steps dc_least_steps pm_least_steps cd_least_steps ct_least_steps oc_best_stop kV_best_stop dc_best_stop pm_best_stop cd_best_stop ct_best_stop oc_move_list kV_move_list dc_move_list pm_move_list cd_move_list ct_move_list oc_write_moves kV_write_moves dc_write_moves pm_write_moves cd_write_moves ct_write_moves oc_check_moves kV_check_moves dc_check_moves pm_check_moves cd_check_moves ct_check_moves oc_is_move kV_is_move dc_is_move pm_is_move cd_is_move ct_is_move oc_run_moves kV_run_moves dc_run_moves pm_run_moves cd_run_moves ct_run_moves oc_store kV_store dc_store pm_store cd_store ct_store oc_mix kV_mix dc_mix pm_mix cd_mix ct_mix oc_take kV_take dc_take pm_take cd_take ct_take oc_edge kV_edge dc_edge pm_edge cd_edge ct_edge oc_odds kV_odds dc_odds pm_odds cd_odds ct_odds oc_pick kV_pick dc_pick pm_pick cd_pick ct_pick oc_put kV_put dc_put pm_put cd_put ct_put oc_primes kV_primes dc_primes pm_primes cd_primes ct_primes oc_prime kV_prime dc_prime pm_prime cd_prime ct_prime oc_table kV_table dc_table pm_table cd_table ct_table oc_badtable kV_badtable dc_badtable pm_badtable cd_badtable ct_badtable oc_length kV_length dc_length pm_length cd_length ct_length oc_cellcount kV_cellcount dc_cellcount pm_cellcount cd_cellcount ct_cellcount oc_badcells kV_badcells dc_badcells pm_badcells cd_badcells ct_badcells oc_moves kV_moves dc_moves pm_moves cd_moves ct_moves oc_play kV_play dc_play pm_play cd_play ct_play oc_moveshape kV_moveshape dc_moveshape pm_moveshape cd_moveshape ct_moveshape oc_leastups kV_leastups dc_leastups pm_leastups cd_leastups ct_leastups oc_stretchof kV_stretchof dc_stretchof pm_stretchof cd_stretchof ct_stretchof oc_isint kV_isint dc_isint pm_isint cd_isint ct_isint oc_same kV_same dc_same pm_same cd_same ct_same oc_copyof kV_copyof dc_copyof pm_copyof cd_copyof ct_copyof oc_bent kV_bent dc_bent pm_bent cd_bent ct_bent oc_stop kV_stop dc_stop pm_stop cd_stop ct_stop oc_movesdue kV_movesdue dc_movesdue pm_movesdue cd_movesdue ct_movesdue oc_ran kV_ran dc_ran pm_ran cd_ran ct_ran oc_checked kV_checked dc_checked pm_checked cd_checked ct_checked oc_movesright kV_movesright dc_movesright pm_movesright cd_movesright ct_movesright oc_door kV_door dc_door pm_door cd_door ct_door oc_spoilt kV_spoilt dc_spoilt pm_spoilt cd_spoilt ct_spoilt oc_refused kV_refused dc_refused pm_refused cd_refused ct_refused oc_law kV_law dc_law pm_law cd_law ct_law ocI_BadMove docI_BadMove pmI_BadMove ctI_BadMove ccl_BadMove clc_BadMove ocI_BadCells docI_BadCells pmI_BadCells ctI_BadCells ccl_BadCells clc_BadCells ocI_BadPrime docI_BadPrime pmI_BadPrime ctI_BadPrime ccl_BadPrime clc_BadPrime ocI_BadTable docI_BadTable pmI_BadTable ctI_BadTable ccl_BadTable clc_BadTable ocV docV pmV cdvV ctV : Value} { q_BadMove qI_BadMove q_BadCells qI_BadCells q_BadPrime qI_BadPrime q_BadTable qI_BadTable : Str} { bs_BadMove bm_BadMove sub_BadMove bs_BadCells bm_BadCells sub_BadCells bs_BadPrime bm_BadPrime sub_BadPrime bs_BadTable bm_BadTable sub_BadTable : List Value} { sn_BadMove sn_BadCells sn_BadPrime sn_BadTable : List Str} { ab_BadMove ab_BadCells ab_BadPrime ab_BadTable : Bool} { col_BadMove col_BadCells col_BadPrime col_BadTable : Option Bool} { k0_BadMove k1_BadMove k3_BadMove k5_BadMove k0_BadCells k1_BadCells k3_BadCells k5_BadCells k0_BadPrime k1_BadPrime k3_BadPrime k5_BadPrime k0_BadTable k1_BadTable k3_BadTable k5_BadTable : Option Value} { tk_BadMove tf_BadMove tk_BadCells tf_BadCells tk_BadPrime tf_BadPrime tk_BadTable tf_BadTable : Tok} { vs_BadMove vs_BadCells vs_BadPrime vs_BadTable : Array Value} {tGP : Tok}
    (ptop : (P.main.scope.names.lookup ("super" : Str)).isSome = false)
    (a_is_whole : PySem.W.nsIn K mainGlobals "is_whole" = some (some (.ref f_is_whole)))
    (l_is_whole : K.lookup f_is_whole = some ⟨oc_is_whole, od_is_whole, .func (PySem.W.fnOf "is_whole" "is_whole" (defArgs s_is_whole) (defBody s_is_whole) (defScope s_is_whole) .none kV_is_whole dc_is_whole pm_is_whole an_is_whole cd_is_whole ct_is_whole), sl_is_whole⟩)
    (c_is_whole : PySem.W.codeIn K cd_is_whole "is_whole" = true)
    (k_is_whole : PySem.W.keepIn K (.ref f_is_whole) = true)
    (a_lies_within : PySem.W.nsIn K mainGlobals "lies_within" = some (some (.ref f_lies_within)))
    (l_lies_within : K.lookup f_lies_within = some ⟨oc_lies_within, od_lies_within, .func (PySem.W.fnOf "lies_within" "lies_within" (defArgs s_lies_within) (defBody s_lies_within) (defScope s_lies_within) .none kV_lies_within dc_lies_within pm_lies_within an_lies_within cd_lies_within ct_lies_within), sl_lies_within⟩)
    (c_lies_within : PySem.W.codeIn K cd_lies_within "lies_within" = true)
    (k_lies_within : PySem.W.keepIn K (.ref f_lies_within) = true)
    (a_is_prime : PySem.W.nsIn K mainGlobals "is_prime" = some (some (.ref f_is_prime)))
    (l_is_prime : K.lookup f_is_prime = some ⟨oc_is_prime, od_is_prime, .func (PySem.W.fnOf "is_prime" "is_prime" (defArgs s_is_prime) (defBody s_is_prime) (defScope s_is_prime) .none kV_is_prime dc_is_prime pm_is_prime an_is_prime cd_is_prime ct_is_prime), sl_is_prime⟩)
    (c_is_prime : PySem.W.codeIn K cd_is_prime "is_prime" = true)
    (k_is_prime : PySem.W.keepIn K (.ref f_is_prime) = true)
    (a_need_prime : PySem.W.nsIn K mainGlobals "need_prime" = some (some (.ref f_need_prime)))
    (l_need_prime : K.lookup f_need_prime = some ⟨oc_need_prime, od_need_prime, .func (PySem.W.fnOf "need_prime" "need_prime" (defArgs s_need_prime) (defBody s_need_prime) (defScope s_need_prime) .none kV_need_prime dc_need_prime pm_need_prime an_need_prime cd_need_prime ct_need_prime), sl_need_prime⟩)
    (c_need_prime : PySem.W.codeIn K cd_need_prime "need_prime" = true)
    (k_need_prime : PySem.W.keepIn K (.ref f_need_prime) = true)
    (a_choose : PySem.W.nsIn K mainGlobals "choose" = some (some (.ref f_choose)))
    (l_choose : K.lookup f_choose = some ⟨oc_choose, od_choose, .func (PySem.W.fnOf "choose" "choose" (defArgs s_choose) (defBody s_choose) (defScope s_choose) .none kV_choose dc_choose pm_choose an_choose cd_choose ct_choose), sl_choose⟩)
    (c_choose : PySem.W.codeIn K cd_choose "choose" = true)
    (k_choose : PySem.W.keepIn K (.ref f_choose) = true)
    (a_check_table : PySem.W.nsIn K mainGlobals "check_table" = some (some (.ref f_check_table)))
    (l_check_table : K.lookup f_check_table = some ⟨oc_check_table, od_check_table, .func (PySem.W.fnOf "check_table" "check_table" (defArgs s_check_table) (defBody s_check_table) (defScope s_check_table) .none kV_check_table dc_check_table pm_check_table an_check_table cd_check_table ct_check_table), sl_check_table⟩)
    (c_check_table : PySem.W.codeIn K cd_check_table "check_table" = true)
    (k_check_table : PySem.W.keepIn K (.ref f_check_table) = true)
    (a_chain : PySem.W.nsIn K mainGlobals "chain" = some (some (.ref f_chain)))
    (l_chain : K.lookup f_chain = some ⟨oc_chain, od_chain, .func (PySem.W.fnOf "chain" "chain" (defArgs s_chain) (defBody s_chain) (defScope s_chain) .none kV_chain dc_chain pm_chain an_chain cd_chain ct_chain), sl_chain⟩)
    (c_chain : PySem.W.codeIn K cd_chain "chain" = true)
    (k_chain : PySem.W.keepIn K (.ref f_chain) = true)
    (a_stretch : PySem.W.nsIn K mainGlobals "stretch" = some (some (.ref f_stretch)))
    (l_stretch : K.lookup f_stretch = some ⟨oc_stretch, od_stretch, .func (PySem.W.fnOf "stretch" "stretch" (defArgs s_stretch) (defBody s_stretch) (defScope s_stretch) .none kV_stretch dc_stretch pm_stretch an_stretch cd_stretch ct_stretch), sl_stretch⟩)
    (c_stretch : PySem.W.codeIn K cd_stretch "stretch" = true)
    (k_stretch : PySem.W.keepIn K (.ref f_stretch) = true)
    (a_fold : PySem.W.nsIn K mainGlobals "fold" = some (some (.ref f_fold)))
    (l_fold : K.lookup f_fold = some ⟨oc_fold, od_fold, .func (PySem.W.fnOf "fold" "fold" (defArgs s_fold) (defBody s_fold) (defScope s_fold) .none kV_fold dc_fold pm_fold an_fold cd_fold ct_fold), sl_fold⟩)
    (c_fold : PySem.W.codeIn K cd_fold "fold" = true)
    (k_fold : PySem.W.keepIn K (.ref f_fold) = true)
    (a_need_cells : PySem.W.nsIn K mainGlobals "need_cells" = some (some (.ref f_need_cells)))
    (l_need_cells : K.lookup f_need_cells = some ⟨oc_need_cells, od_need_cells, .func (PySem.W.fnOf "need_cells" "need_cells" (defArgs s_need_cells) (defBody s_need_cells) (defScope s_need_cells) .none kV_need_cells dc_need_cells pm_need_cells an_need_cells cd_need_cells ct_need_cells), sl_need_cells⟩)
    (c_need_cells : PySem.W.codeIn K cd_need_cells "need_cells" = true)
    (k_need_cells : PySem.W.keepIn K (.ref f_need_cells) = true)
    (a_rounds : PySem.W.nsIn K mainGlobals "rounds" = some (some (.ref f_rounds)))
    (l_rounds : K.lookup f_rounds = some ⟨oc_rounds, od_rounds, .func (PySem.W.fnOf "rounds" "rounds" (defArgs s_rounds) (defBody s_rounds) (defScope s_rounds) .none kV_rounds dc_rounds pm_rounds an_rounds cd_rounds ct_rounds), sl_rounds⟩)
    (c_rounds : PySem.W.codeIn K cd_rounds "rounds" = true)
    (k_rounds : PySem.W.keepIn K (.ref f_rounds) = true)
    (a_least_steps : PySem.W.nsIn K mainGlobals "least_steps" = some (some (.ref f_least_steps)))
    (l_least_steps : K.lookup f_least_steps = some ⟨oc_least_steps, od_least_steps, .func (PySem.W.fnOf "least_steps" "least_steps" (defArgs s_least_steps) (defBody s_least_steps) (defScope s_least_steps) .none kV_least_steps dc_least_steps pm_least_steps an_least_steps cd_least_steps ct_least_steps), sl_least_steps⟩)
    (c_least_steps : PySem.W.codeIn K cd_least_steps "least_steps" = true)
    (k_least_steps : PySem.W.keepIn K (.ref f_least_steps) = true)
    (a_best_stop : PySem.W.nsIn K mainGlobals "best_stop" = some (some (.ref f_best_stop)))
    (l_best_stop : K.lookup f_best_stop = some ⟨oc_best_stop, od_best_stop, .func (PySem.W.fnOf "best_stop" "best_stop" (defArgs s_best_stop) (defBody s_best_stop) (defScope s_best_stop) .none kV_best_stop dc_best_stop pm_best_stop an_best_stop cd_best_stop ct_best_stop), sl_best_stop⟩)
    (c_best_stop : PySem.W.codeIn K cd_best_stop "best_stop" = true)
    (k_best_stop : PySem.W.keepIn K (.ref f_best_stop) = true)
    (a_move_list : PySem.W.nsIn K mainGlobals "move_list" = some (some (.ref f_move_list)))
    (l_move_list : K.lookup f_move_list = some ⟨oc_move_list, od_move_list, .func (PySem.W.fnOf "move_list" "move_list" (defArgs s_move_list) (defBody s_move_list) (defScope s_move_list) .none kV_move_list dc_move_list pm_move_list an_move_list cd_move_list ct_move_list), sl_move_list⟩)
    (c_move_list : PySem.W.codeIn K cd_move_list "move_list" = true)
    (k_move_list : PySem.W.keepIn K (.ref f_move_list) = true)
    (a_write_moves : PySem.W.nsIn K mainGlobals "_write_moves" = some (some (.ref f_write_moves)))
    (l_write_moves : K.lookup f_write_moves = some ⟨oc_write_moves, od_write_moves, .func (PySem.W.fnOf "_write_moves" "_write_moves" (defArgs s_write_moves) (defBody s_write_moves) (defScope s_write_moves) .none kV_write_moves dc_write_moves pm_write_moves an_write_moves cd_write_moves ct_write_moves), sl_write_moves⟩)
    (c_write_moves : PySem.W.codeIn K cd_write_moves "_write_moves" = true)
    (k_write_moves : PySem.W.keepIn K (.ref f_write_moves) = true)
    (a_check_moves : PySem.W.nsIn K mainGlobals "check_moves" = some (some (.ref f_check_moves)))
    (l_check_moves : K.lookup f_check_moves = some ⟨oc_check_moves, od_check_moves, .func (PySem.W.fnOf "check_moves" "check_moves" (defArgs s_check_moves) (defBody s_check_moves) (defScope s_check_moves) .none kV_check_moves dc_check_moves pm_check_moves an_check_moves cd_check_moves ct_check_moves), sl_check_moves⟩)
    (c_check_moves : PySem.W.codeIn K cd_check_moves "check_moves" = true)
    (k_check_moves : PySem.W.keepIn K (.ref f_check_moves) = true)
    (a_is_move : PySem.W.nsIn K mainGlobals "_is_move" = some (some (.ref f_is_move)))
    (l_is_move : K.lookup f_is_move = some ⟨oc_is_move, od_is_move, .func (PySem.W.fnOf "_is_move" "_is_move" (defArgs s_is_move) (defBody s_is_move) (defScope s_is_move) .none kV_is_move dc_is_move pm_is_move an_is_move cd_is_move ct_is_move), sl_is_move⟩)
    (c_is_move : PySem.W.codeIn K cd_is_move "_is_move" = true)
    (k_is_move : PySem.W.keepIn K (.ref f_is_move) = true)
    (a_run_moves : PySem.W.nsIn K mainGlobals "run_moves" = some (some (.ref f_run_moves)))
    (l_run_moves : K.lookup f_run_moves = some ⟨oc_run_moves, od_run_moves, .func (PySem.W.fnOf "run_moves" "run_moves" (defArgs s_run_moves) (defBody s_run_moves) (defScope s_run_moves) .none kV_run_moves dc_run_moves pm_run_moves an_run_moves cd_run_moves ct_run_moves), sl_run_moves⟩)
    (c_run_moves : PySem.W.codeIn K cd_run_moves "run_moves" = true)
    (k_run_moves : PySem.W.keepIn K (.ref f_run_moves) = true)
    (a_store : PySem.W.nsIn K mainGlobals "_law_store" = some (some (.ref f_store)))
    (l_store : K.lookup f_store = some ⟨oc_store, od_store, .func (PySem.W.fnOf "_law_store" "_law_store" (defArgs s_store) (defBody s_store) (defScope s_store) .none kV_store dc_store pm_store an_store cd_store ct_store), sl_store⟩)
    (c_store : PySem.W.codeIn K cd_store "_law_store" = true)
    (k_store : PySem.W.keepIn K (.ref f_store) = true)
    (a_mix : PySem.W.nsIn K mainGlobals "_law_mix" = some (some (.ref f_mix)))
    (l_mix : K.lookup f_mix = some ⟨oc_mix, od_mix, .func (PySem.W.fnOf "_law_mix" "_law_mix" (defArgs s_mix) (defBody s_mix) (defScope s_mix) .none kV_mix dc_mix pm_mix an_mix cd_mix ct_mix), sl_mix⟩)
    (c_mix : PySem.W.codeIn K cd_mix "_law_mix" = true)
    (k_mix : PySem.W.keepIn K (.ref f_mix) = true)
    (a_take : PySem.W.nsIn K mainGlobals "_law_take" = some (some (.ref f_take)))
    (l_take : K.lookup f_take = some ⟨oc_take, od_take, .func (PySem.W.fnOf "_law_take" "_law_take" (defArgs s_take) (defBody s_take) (defScope s_take) .none kV_take dc_take pm_take an_take cd_take ct_take), sl_take⟩)
    (c_take : PySem.W.codeIn K cd_take "_law_take" = true)
    (k_take : PySem.W.keepIn K (.ref f_take) = true)
    (a_edge : PySem.W.nsIn K mainGlobals "_law_edge" = some (some (.ref f_edge)))
    (l_edge : K.lookup f_edge = some ⟨oc_edge, od_edge, .func (PySem.W.fnOf "_law_edge" "_law_edge" (defArgs s_edge) (defBody s_edge) (defScope s_edge) .none kV_edge dc_edge pm_edge an_edge cd_edge ct_edge), sl_edge⟩)
    (c_edge : PySem.W.codeIn K cd_edge "_law_edge" = true)
    (k_edge : PySem.W.keepIn K (.ref f_edge) = true)
    (a_odds : PySem.W.nsIn K mainGlobals "_law_odds" = some (some (.ref f_odds)))
    (l_odds : K.lookup f_odds = some ⟨oc_odds, od_odds, .func (PySem.W.fnOf "_law_odds" "_law_odds" (defArgs s_odds) (defBody s_odds) (defScope s_odds) .none kV_odds dc_odds pm_odds an_odds cd_odds ct_odds), sl_odds⟩)
    (c_odds : PySem.W.codeIn K cd_odds "_law_odds" = true)
    (k_odds : PySem.W.keepIn K (.ref f_odds) = true)
    (a_pick : PySem.W.nsIn K mainGlobals "_law_pick" = some (some (.ref f_pick)))
    (l_pick : K.lookup f_pick = some ⟨oc_pick, od_pick, .func (PySem.W.fnOf "_law_pick" "_law_pick" (defArgs s_pick) (defBody s_pick) (defScope s_pick) .none kV_pick dc_pick pm_pick an_pick cd_pick ct_pick), sl_pick⟩)
    (c_pick : PySem.W.codeIn K cd_pick "_law_pick" = true)
    (k_pick : PySem.W.keepIn K (.ref f_pick) = true)
    (a_put : PySem.W.nsIn K mainGlobals "_law_put" = some (some (.ref f_put)))
    (l_put : K.lookup f_put = some ⟨oc_put, od_put, .func (PySem.W.fnOf "_law_put" "_law_put" (defArgs s_put) (defBody s_put) (defScope s_put) .none kV_put dc_put pm_put an_put cd_put ct_put), sl_put⟩)
    (c_put : PySem.W.codeIn K cd_put "_law_put" = true)
    (k_put : PySem.W.keepIn K (.ref f_put) = true)
    (a_primes : PySem.W.nsIn K mainGlobals "_law_primes" = some (some (.ref f_primes)))
    (l_primes : K.lookup f_primes = some ⟨oc_primes, od_primes, .func (PySem.W.fnOf "_law_primes" "_law_primes" (defArgs s_primes) (defBody s_primes) (defScope s_primes) .none kV_primes dc_primes pm_primes an_primes cd_primes ct_primes), sl_primes⟩)
    (c_primes : PySem.W.codeIn K cd_primes "_law_primes" = true)
    (k_primes : PySem.W.keepIn K (.ref f_primes) = true)
    (a_prime : PySem.W.nsIn K mainGlobals "_law_prime" = some (some (.ref f_prime)))
    (l_prime : K.lookup f_prime = some ⟨oc_prime, od_prime, .func (PySem.W.fnOf "_law_prime" "_law_prime" (defArgs s_prime) (defBody s_prime) (defScope s_prime) .none kV_prime dc_prime pm_prime an_prime cd_prime ct_prime), sl_prime⟩)
    (c_prime : PySem.W.codeIn K cd_prime "_law_prime" = true)
    (k_prime : PySem.W.keepIn K (.ref f_prime) = true)
    (a_table : PySem.W.nsIn K mainGlobals "_law_table" = some (some (.ref f_table)))
    (l_table : K.lookup f_table = some ⟨oc_table, od_table, .func (PySem.W.fnOf "_law_table" "_law_table" (defArgs s_table) (defBody s_table) (defScope s_table) .none kV_table dc_table pm_table an_table cd_table ct_table), sl_table⟩)
    (c_table : PySem.W.codeIn K cd_table "_law_table" = true)
    (k_table : PySem.W.keepIn K (.ref f_table) = true)
    (a_badtable : PySem.W.nsIn K mainGlobals "_law_badtable" = some (some (.ref f_badtable)))
    (l_badtable : K.lookup f_badtable = some ⟨oc_badtable, od_badtable, .func (PySem.W.fnOf "_law_badtable" "_law_badtable" (defArgs s_badtable) (defBody s_badtable) (defScope s_badtable) .none kV_badtable dc_badtable pm_badtable an_badtable cd_badtable ct_badtable), sl_badtable⟩)
    (c_badtable : PySem.W.codeIn K cd_badtable "_law_badtable" = true)
    (k_badtable : PySem.W.keepIn K (.ref f_badtable) = true)
    (a_length : PySem.W.nsIn K mainGlobals "_law_length" = some (some (.ref f_length)))
    (l_length : K.lookup f_length = some ⟨oc_length, od_length, .func (PySem.W.fnOf "_law_length" "_law_length" (defArgs s_length) (defBody s_length) (defScope s_length) .none kV_length dc_length pm_length an_length cd_length ct_length), sl_length⟩)
    (c_length : PySem.W.codeIn K cd_length "_law_length" = true)
    (k_length : PySem.W.keepIn K (.ref f_length) = true)
    (a_cellcount : PySem.W.nsIn K mainGlobals "_law_cellcount" = some (some (.ref f_cellcount)))
    (l_cellcount : K.lookup f_cellcount = some ⟨oc_cellcount, od_cellcount, .func (PySem.W.fnOf "_law_cellcount" "_law_cellcount" (defArgs s_cellcount) (defBody s_cellcount) (defScope s_cellcount) .none kV_cellcount dc_cellcount pm_cellcount an_cellcount cd_cellcount ct_cellcount), sl_cellcount⟩)
    (c_cellcount : PySem.W.codeIn K cd_cellcount "_law_cellcount" = true)
    (k_cellcount : PySem.W.keepIn K (.ref f_cellcount) = true)
    (a_badcells : PySem.W.nsIn K mainGlobals "_law_badcells" = some (some (.ref f_badcells)))
    (l_badcells : K.lookup f_badcells = some ⟨oc_badcells, od_badcells, .func (PySem.W.fnOf "_law_badcells" "_law_badcells" (defArgs s_badcells) (defBody s_badcells) (defScope s_badcells) .none kV_badcells dc_badcells pm_badcells an_badcells cd_badcells ct_badcells), sl_badcells⟩)
    (c_badcells : PySem.W.codeIn K cd_badcells "_law_badcells" = true)
    (k_badcells : PySem.W.keepIn K (.ref f_badcells) = true)
    (a_moves : PySem.W.nsIn K mainGlobals "_law_moves" = some (some (.ref f_moves)))
    (l_moves : K.lookup f_moves = some ⟨oc_moves, od_moves, .func (PySem.W.fnOf "_law_moves" "_law_moves" (defArgs s_moves) (defBody s_moves) (defScope s_moves) .none kV_moves dc_moves pm_moves an_moves cd_moves ct_moves), sl_moves⟩)
    (c_moves : PySem.W.codeIn K cd_moves "_law_moves" = true)
    (k_moves : PySem.W.keepIn K (.ref f_moves) = true)
    (a_play : PySem.W.nsIn K mainGlobals "_law_play" = some (some (.ref f_play)))
    (l_play : K.lookup f_play = some ⟨oc_play, od_play, .func (PySem.W.fnOf "_law_play" "_law_play" (defArgs s_play) (defBody s_play) (defScope s_play) .none kV_play dc_play pm_play an_play cd_play ct_play), sl_play⟩)
    (c_play : PySem.W.codeIn K cd_play "_law_play" = true)
    (k_play : PySem.W.keepIn K (.ref f_play) = true)
    (a_moveshape : PySem.W.nsIn K mainGlobals "_law_moveshape" = some (some (.ref f_moveshape)))
    (l_moveshape : K.lookup f_moveshape = some ⟨oc_moveshape, od_moveshape, .func (PySem.W.fnOf "_law_moveshape" "_law_moveshape" (defArgs s_moveshape) (defBody s_moveshape) (defScope s_moveshape) .none kV_moveshape dc_moveshape pm_moveshape an_moveshape cd_moveshape ct_moveshape), sl_moveshape⟩)
    (c_moveshape : PySem.W.codeIn K cd_moveshape "_law_moveshape" = true)
    (k_moveshape : PySem.W.keepIn K (.ref f_moveshape) = true)
    (a_leastups : PySem.W.nsIn K mainGlobals "_law_leastups" = some (some (.ref f_leastups)))
    (l_leastups : K.lookup f_leastups = some ⟨oc_leastups, od_leastups, .func (PySem.W.fnOf "_law_leastups" "_law_leastups" (defArgs s_leastups) (defBody s_leastups) (defScope s_leastups) .none kV_leastups dc_leastups pm_leastups an_leastups cd_leastups ct_leastups), sl_leastups⟩)
    (c_leastups : PySem.W.codeIn K cd_leastups "_law_leastups" = true)
    (k_leastups : PySem.W.keepIn K (.ref f_leastups) = true)
    (a_stretchof : PySem.W.nsIn K mainGlobals "_law_stretchof" = some (some (.ref f_stretchof)))
    (l_stretchof : K.lookup f_stretchof = some ⟨oc_stretchof, od_stretchof, .func (PySem.W.fnOf "_law_stretchof" "_law_stretchof" (defArgs s_stretchof) (defBody s_stretchof) (defScope s_stretchof) .none kV_stretchof dc_stretchof pm_stretchof an_stretchof cd_stretchof ct_stretchof), sl_stretchof⟩)
    (c_stretchof : PySem.W.codeIn K cd_stretchof "_law_stretchof" = true)
    (k_stretchof : PySem.W.keepIn K (.ref f_stretchof) = true)
    (a_isint : PySem.W.nsIn K mainGlobals "_law_isint" = some (some (.ref f_isint)))
    (l_isint : K.lookup f_isint = some ⟨oc_isint, od_isint, .func (PySem.W.fnOf "_law_isint" "_law_isint" (defArgs s_isint) (defBody s_isint) (defScope s_isint) .none kV_isint dc_isint pm_isint an_isint cd_isint ct_isint), sl_isint⟩)
    (c_isint : PySem.W.codeIn K cd_isint "_law_isint" = true)
    (k_isint : PySem.W.keepIn K (.ref f_isint) = true)
    (a_same : PySem.W.nsIn K mainGlobals "_law_same" = some (some (.ref f_same)))
    (l_same : K.lookup f_same = some ⟨oc_same, od_same, .func (PySem.W.fnOf "_law_same" "_law_same" (defArgs s_same) (defBody s_same) (defScope s_same) .none kV_same dc_same pm_same an_same cd_same ct_same), sl_same⟩)
    (c_same : PySem.W.codeIn K cd_same "_law_same" = true)
    (k_same : PySem.W.keepIn K (.ref f_same) = true)
    (a_copyof : PySem.W.nsIn K mainGlobals "_law_copyof" = some (some (.ref f_copyof)))
    (l_copyof : K.lookup f_copyof = some ⟨oc_copyof, od_copyof, .func (PySem.W.fnOf "_law_copyof" "_law_copyof" (defArgs s_copyof) (defBody s_copyof) (defScope s_copyof) .none kV_copyof dc_copyof pm_copyof an_copyof cd_copyof ct_copyof), sl_copyof⟩)
    (c_copyof : PySem.W.codeIn K cd_copyof "_law_copyof" = true)
    (k_copyof : PySem.W.keepIn K (.ref f_copyof) = true)
    (a_bent : PySem.W.nsIn K mainGlobals "_law_bent" = some (some (.ref f_bent)))
    (l_bent : K.lookup f_bent = some ⟨oc_bent, od_bent, .func (PySem.W.fnOf "_law_bent" "_law_bent" (defArgs s_bent) (defBody s_bent) (defScope s_bent) .none kV_bent dc_bent pm_bent an_bent cd_bent ct_bent), sl_bent⟩)
    (c_bent : PySem.W.codeIn K cd_bent "_law_bent" = true)
    (k_bent : PySem.W.keepIn K (.ref f_bent) = true)
    (a_stop : PySem.W.nsIn K mainGlobals "_law_stop" = some (some (.ref f_stop)))
    (l_stop : K.lookup f_stop = some ⟨oc_stop, od_stop, .func (PySem.W.fnOf "_law_stop" "_law_stop" (defArgs s_stop) (defBody s_stop) (defScope s_stop) .none kV_stop dc_stop pm_stop an_stop cd_stop ct_stop), sl_stop⟩)
    (c_stop : PySem.W.codeIn K cd_stop "_law_stop" = true)
    (k_stop : PySem.W.keepIn K (.ref f_stop) = true)
    (a_movesdue : PySem.W.nsIn K mainGlobals "_law_movesdue" = some (some (.ref f_movesdue)))
    (l_movesdue : K.lookup f_movesdue = some ⟨oc_movesdue, od_movesdue, .func (PySem.W.fnOf "_law_movesdue" "_law_movesdue" (defArgs s_movesdue) (defBody s_movesdue) (defScope s_movesdue) .none kV_movesdue dc_movesdue pm_movesdue an_movesdue cd_movesdue ct_movesdue), sl_movesdue⟩)
    (c_movesdue : PySem.W.codeIn K cd_movesdue "_law_movesdue" = true)
    (k_movesdue : PySem.W.keepIn K (.ref f_movesdue) = true)
    (a_ran : PySem.W.nsIn K mainGlobals "_law_ran" = some (some (.ref f_ran)))
    (l_ran : K.lookup f_ran = some ⟨oc_ran, od_ran, .func (PySem.W.fnOf "_law_ran" "_law_ran" (defArgs s_ran) (defBody s_ran) (defScope s_ran) .none kV_ran dc_ran pm_ran an_ran cd_ran ct_ran), sl_ran⟩)
    (c_ran : PySem.W.codeIn K cd_ran "_law_ran" = true)
    (k_ran : PySem.W.keepIn K (.ref f_ran) = true)
    (a_checked : PySem.W.nsIn K mainGlobals "_law_checked" = some (some (.ref f_checked)))
    (l_checked : K.lookup f_checked = some ⟨oc_checked, od_checked, .func (PySem.W.fnOf "_law_checked" "_law_checked" (defArgs s_checked) (defBody s_checked) (defScope s_checked) .none kV_checked dc_checked pm_checked an_checked cd_checked ct_checked), sl_checked⟩)
    (c_checked : PySem.W.codeIn K cd_checked "_law_checked" = true)
    (k_checked : PySem.W.keepIn K (.ref f_checked) = true)
    (a_movesright : PySem.W.nsIn K mainGlobals "_law_movesright" = some (some (.ref f_movesright)))
    (l_movesright : K.lookup f_movesright = some ⟨oc_movesright, od_movesright, .func (PySem.W.fnOf "_law_movesright" "_law_movesright" (defArgs s_movesright) (defBody s_movesright) (defScope s_movesright) .none kV_movesright dc_movesright pm_movesright an_movesright cd_movesright ct_movesright), sl_movesright⟩)
    (c_movesright : PySem.W.codeIn K cd_movesright "_law_movesright" = true)
    (k_movesright : PySem.W.keepIn K (.ref f_movesright) = true)
    (a_door : PySem.W.nsIn K mainGlobals "_law_door" = some (some (.ref f_door)))
    (l_door : K.lookup f_door = some ⟨oc_door, od_door, .func (PySem.W.fnOf "_law_door" "_law_door" (defArgs s_door) (defBody s_door) (defScope s_door) .none kV_door dc_door pm_door an_door cd_door ct_door), sl_door⟩)
    (c_door : PySem.W.codeIn K cd_door "_law_door" = true)
    (k_door : PySem.W.keepIn K (.ref f_door) = true)
    (a_spoilt : PySem.W.nsIn K mainGlobals "_law_spoilt" = some (some (.ref f_spoilt)))
    (l_spoilt : K.lookup f_spoilt = some ⟨oc_spoilt, od_spoilt, .func (PySem.W.fnOf "_law_spoilt" "_law_spoilt" (defArgs s_spoilt) (defBody s_spoilt) (defScope s_spoilt) .none kV_spoilt dc_spoilt pm_spoilt an_spoilt cd_spoilt ct_spoilt), sl_spoilt⟩)
    (c_spoilt : PySem.W.codeIn K cd_spoilt "_law_spoilt" = true)
    (k_spoilt : PySem.W.keepIn K (.ref f_spoilt) = true)
    (a_refused : PySem.W.nsIn K mainGlobals "_law_refused" = some (some (.ref f_refused)))
    (l_refused : K.lookup f_refused = some ⟨oc_refused, od_refused, .func (PySem.W.fnOf "_law_refused" "_law_refused" (defArgs s_refused) (defBody s_refused) (defScope s_refused) .none kV_refused dc_refused pm_refused an_refused cd_refused ct_refused), sl_refused⟩)
    (c_refused : PySem.W.codeIn K cd_refused "_law_refused" = true)
    (k_refused : PySem.W.keepIn K (.ref f_refused) = true)
    (a_law : PySem.W.nsIn K mainGlobals "law" = some (some (.ref f_law)))
    (l_law : K.lookup f_law = some ⟨oc_law, od_law, .func (PySem.W.fnOf "law" "law" (defArgs s_law) (defBody s_law) (defScope s_law) .none kV_law dc_law pm_law an_law cd_law ct_law), sl_law⟩)
    (c_law : PySem.W.codeIn K cd_law "law" = true)
    (k_law : PySem.W.keepIn K (.ref f_law) = true)
    (b_int : PySem.W.nsIn K mainGlobals "int" = some none)
    (b_bool : PySem.W.nsIn K mainGlobals "bool" = some none)
    (b_isinstance : PySem.W.nsIn K mainGlobals "isinstance" = some none)
    (b_range : PySem.W.nsIn K mainGlobals "range" = some none)
    (b_min : PySem.W.nsIn K mainGlobals "min" = some none)
    (b_max : PySem.W.nsIn K mainGlobals "max" = some none)
    (b_abs : PySem.W.nsIn K mainGlobals "abs" = some none)
    (b_len : PySem.W.nsIn K mainGlobals "len" = some none)
    (b_list : PySem.W.nsIn K mainGlobals "list" = some none)
    (b_str : PySem.W.nsIn K mainGlobals "str" = some none)
    (b_dict : PySem.W.nsIn K mainGlobals "dict" = some none)
    (b_tuple : PySem.W.nsIn K mainGlobals "tuple" = some none)
    (b_enumerate : PySem.W.nsIn K mainGlobals "enumerate" = some none)
    (b_all : PySem.W.nsIn K mainGlobals "all" = some none)
    (b_reversed : PySem.W.nsIn K mainGlobals "reversed" = some none)
    (b_super : PySem.W.nsIn K mainGlobals "super" = some none)
    (g_VaultError : PySem.W.nsIn K mainGlobals "VaultError" = some (some (.ref C_VaultError)))
    (g_NumberError : PySem.W.nsIn K mainGlobals "NumberError" = some (some (.ref C_NumberError)))
    (g_BadPrime : PySem.W.nsIn K mainGlobals "BadPrime" = some (some (.ref C_BadPrime)))
    (g_BadTable : PySem.W.nsIn K mainGlobals "BadTable" = some (some (.ref C_BadTable)))
    (g_BadCells : PySem.W.nsIn K mainGlobals "BadCells" = some (some (.ref C_BadCells)))
    (g_ShapeError : PySem.W.nsIn K mainGlobals "ShapeError" = some (some (.ref C_ShapeError)))
    (g_PaperError : PySem.W.nsIn K mainGlobals "PaperError" = some (some (.ref C_PaperError)))
    (g_BadMove : PySem.W.nsIn K mainGlobals "BadMove" = some (some (.ref C_BadMove)))
    (gc_GREATEST_PRIME : PySem.W.nsIn K mainGlobals "GREATEST_PRIME" = some (some (.int 97 tGP)))
    (N_th : nsIn K cStatics "thirdparty.any" = some none)
    (N_sp : specialIn K (.builtin "object.__class__") "__get__" = some (some (.builtin "getset_descriptor.__get__")))
    (N_tk : takesIn K (.builtin "object.__class__") = some true)
    (L_lV : K.lookup fV = some ⟨ocV, odV, .func (fnOf "__init__" "VaultError.__init__" (rootArgs pV) (rootBody qV) rootScope .none .none docV pmV anV cdvV ctV), oslV⟩)
    (L_cV : codeIn K cdvV "VaultError.__init__" = true)
    (L_tV : typeIn K (.ref fV) = some (.type "function"))
    (L_fV : fnIn K fV = true)
    (x_b : PySem.W.subIn K (.ref C_VaultError) (.type "BaseException") = some true)
    (x_i : PySem.W.isClsIn K C_VaultError = true)
    (x_t : PySem.W.typeIn K (.ref C_VaultError) = some (.type "type"))
    (xL_BadMove : K.lookup C_BadMove = some (excClassObj "BadMove" q_BadMove C_BadMove N_BadMove bs_BadMove bm_BadMove true sn_BadMove sub_BadMove ab_BadMove col_BadMove dd_BadMove k0_BadMove k1_BadMove (some (.str "BadMove" tk_BadMove)) k3_BadMove k5_BadMove "ValueError.__new__"))
    (sa_BadMove : findIn K (.ref C_BadMove) "__setattr__" = some (some (.builtin "object.__setattr__")))
    (ga_BadMove : findIn K (.ref C_BadMove) "__getattribute__" = some (some (.builtin "BaseException.__getattribute__")))
    (gg_BadMove : findIn K (.ref C_BadMove) "__getattr__" = some none)
    (cl_BadMove : findIn K (.ref C_BadMove) "__class__" = some (some (.builtin "object.__class__")))
    (mo_BadMove : mroIn K C_BadMove (.type "object") = some true)
    (nw_BadMove : findIn K (.ref C_BadMove) "word" = some none)
    (ex_BadMove : subIn K (.ref C_BadMove) (.type "BaseException") = some true)
    (ty_BadMove : typeIn K (.ref C_BadMove) = some (.type "type"))
    (kp_BadMove : keepIn K (.ref C_BadMove) = true)
    (hd_BadMove : hasDictIn K C_BadMove = true)
    (nn_BadMove : findCls K (.ref C_BadMove) (.type "type") "__name__" = some (.get (.builtin "getset_descriptor.__get__") (.builtin "type.__name__") (.ref C_BadMove) (.type "type")))
    (xb_BadMove : refsVE bm_BadMove = true)
    (iC_BadMove : findIn K (.ref C_BadMove) "__init__" = some (some (.ref fI_BadMove)))
    (tI_BadMove : typeIn K (.ref fI_BadMove) = some (.type "function"))
    (up_BadMove : ks_superIn K C_BadMove C_BadMove "__init__" = some (some (.ref fV)))
    (lI_BadMove : K.lookup fI_BadMove = some ⟨ocI_BadMove, odI_BadMove, .func (ksFn "__init__" qI_BadMove (leafArgs ⟨29, 17, 29, 21⟩ [("at", ⟨29, 23, 29, 25⟩)]) (leafBody r_BadMove st_BadMove) (leafScope ["at"]) .none .none docI_BadMove pmI_BadMove anI_BadMove (.ref cda_BadMove) ctI_BadMove cc_BadMove), oslI_BadMove⟩)
    (cI_BadMove : codeIn K (.ref cda_BadMove) qI_BadMove = true)
    (lcd_BadMove : K.lookup cda_BadMove = some ⟨ccl_BadMove, cdd_BadMove, .fields vs_BadMove, ccs_BadMove⟩)
    (fl_BadMove : vs_BadMove[2]? = some (.str P.main.file tf_BadMove))
    (lcc_BadMove : K.lookup cc_BadMove = some ⟨clc_BadMove, cld_BadMove, .cell (some (.ref C_BadMove)), csl_BadMove⟩)
    (me_BadMove : mroIn K C_BadMove (.ref C_BadMove) = some true)
    (nc_at_BadMove : findIn K (.ref C_BadMove) "at" = some none)
    (xs_BadMove : PySem.W.subIn K (.ref C_BadMove) (.ref C_VaultError) = some true)
    (q_VaultError_BadMove : PySem.W.kitOne K (.ref C_BadMove) (.ref C_VaultError) = some true)
    (q_NumberError_BadMove : PySem.W.kitOne K (.ref C_BadMove) (.ref C_NumberError) = some false)
    (q_BadPrime_BadMove : PySem.W.kitOne K (.ref C_BadMove) (.ref C_BadPrime) = some false)
    (q_BadTable_BadMove : PySem.W.kitOne K (.ref C_BadMove) (.ref C_BadTable) = some false)
    (q_BadCells_BadMove : PySem.W.kitOne K (.ref C_BadMove) (.ref C_BadCells) = some false)
    (q_ShapeError_BadMove : PySem.W.kitOne K (.ref C_BadMove) (.ref C_ShapeError) = some false)
    (q_PaperError_BadMove : PySem.W.kitOne K (.ref C_BadMove) (.ref C_PaperError) = some true)
    (q_BadMove_BadMove : PySem.W.kitOne K (.ref C_BadMove) (.ref C_BadMove) = some true)
    (q_Value_BadMove : PySem.W.kitOne K (.ref C_BadMove) (.type "ValueError") = some true)
    (no_cells_BadMove : findIn K (.ref C_BadMove) "cells" = some none)
    (no_value_BadMove : findIn K (.ref C_BadMove) "value" = some none)
    (no_which_BadMove : findIn K (.ref C_BadMove) "which" = some none)
    (xL_BadCells : K.lookup C_BadCells = some (excClassObj "BadCells" q_BadCells C_BadCells N_BadCells bs_BadCells bm_BadCells true sn_BadCells sub_BadCells ab_BadCells col_BadCells dd_BadCells k0_BadCells k1_BadCells (some (.str "BadCells" tk_BadCells)) k3_BadCells k5_BadCells "ValueError.__new__"))
    (sa_BadCells : findIn K (.ref C_BadCells) "__setattr__" = some (some (.builtin "object.__setattr__")))
    (ga_BadCells : findIn K (.ref C_BadCells) "__getattribute__" = some (some (.builtin "BaseException.__getattribute__")))
    (gg_BadCells : findIn K (.ref C_BadCells) "__getattr__" = some none)
    (cl_BadCells : findIn K (.ref C_BadCells) "__class__" = some (some (.builtin "object.__class__")))
    (mo_BadCells : mroIn K C_BadCells (.type "object") = some true)
    (nw_BadCells : findIn K (.ref C_BadCells) "word" = some none)
    (ex_BadCells : subIn K (.ref C_BadCells) (.type "BaseException") = some true)
    (ty_BadCells : typeIn K (.ref C_BadCells) = some (.type "type"))
    (kp_BadCells : keepIn K (.ref C_BadCells) = true)
    (hd_BadCells : hasDictIn K C_BadCells = true)
    (nn_BadCells : findCls K (.ref C_BadCells) (.type "type") "__name__" = some (.get (.builtin "getset_descriptor.__get__") (.builtin "type.__name__") (.ref C_BadCells) (.type "type")))
    (xb_BadCells : refsVE bm_BadCells = true)
    (iC_BadCells : findIn K (.ref C_BadCells) "__init__" = some (some (.ref fI_BadCells)))
    (tI_BadCells : typeIn K (.ref fI_BadCells) = some (.type "function"))
    (up_BadCells : ks_superIn K C_BadCells C_BadCells "__init__" = some (some (.ref fV)))
    (lI_BadCells : K.lookup fI_BadCells = some ⟨ocI_BadCells, odI_BadCells, .func (ksFn "__init__" qI_BadCells (leafArgs ⟨20, 17, 20, 21⟩ [("cells", ⟨20, 23, 20, 28⟩)]) (leafBody r_BadCells st_BadCells) (leafScope ["cells"]) .none .none docI_BadCells pmI_BadCells anI_BadCells (.ref cda_BadCells) ctI_BadCells cc_BadCells), oslI_BadCells⟩)
    (cI_BadCells : codeIn K (.ref cda_BadCells) qI_BadCells = true)
    (lcd_BadCells : K.lookup cda_BadCells = some ⟨ccl_BadCells, cdd_BadCells, .fields vs_BadCells, ccs_BadCells⟩)
    (fl_BadCells : vs_BadCells[2]? = some (.str P.main.file tf_BadCells))
    (lcc_BadCells : K.lookup cc_BadCells = some ⟨clc_BadCells, cld_BadCells, .cell (some (.ref C_BadCells)), csl_BadCells⟩)
    (me_BadCells : mroIn K C_BadCells (.ref C_BadCells) = some true)
    (nc_cells_BadCells : findIn K (.ref C_BadCells) "cells" = some none)
    (xs_BadCells : PySem.W.subIn K (.ref C_BadCells) (.ref C_VaultError) = some true)
    (q_VaultError_BadCells : PySem.W.kitOne K (.ref C_BadCells) (.ref C_VaultError) = some true)
    (q_NumberError_BadCells : PySem.W.kitOne K (.ref C_BadCells) (.ref C_NumberError) = some true)
    (q_BadPrime_BadCells : PySem.W.kitOne K (.ref C_BadCells) (.ref C_BadPrime) = some false)
    (q_BadTable_BadCells : PySem.W.kitOne K (.ref C_BadCells) (.ref C_BadTable) = some false)
    (q_BadCells_BadCells : PySem.W.kitOne K (.ref C_BadCells) (.ref C_BadCells) = some true)
    (q_ShapeError_BadCells : PySem.W.kitOne K (.ref C_BadCells) (.ref C_ShapeError) = some false)
    (q_PaperError_BadCells : PySem.W.kitOne K (.ref C_BadCells) (.ref C_PaperError) = some false)
    (q_BadMove_BadCells : PySem.W.kitOne K (.ref C_BadCells) (.ref C_BadMove) = some false)
    (q_Value_BadCells : PySem.W.kitOne K (.ref C_BadCells) (.type "ValueError") = some true)
    (no_at_BadCells : findIn K (.ref C_BadCells) "at" = some none)
    (no_value_BadCells : findIn K (.ref C_BadCells) "value" = some none)
    (no_which_BadCells : findIn K (.ref C_BadCells) "which" = some none)
    (xL_BadPrime : K.lookup C_BadPrime = some (excClassObj "BadPrime" q_BadPrime C_BadPrime N_BadPrime bs_BadPrime bm_BadPrime true sn_BadPrime sub_BadPrime ab_BadPrime col_BadPrime dd_BadPrime k0_BadPrime k1_BadPrime (some (.str "BadPrime" tk_BadPrime)) k3_BadPrime k5_BadPrime "ValueError.__new__"))
    (sa_BadPrime : findIn K (.ref C_BadPrime) "__setattr__" = some (some (.builtin "object.__setattr__")))
    (ga_BadPrime : findIn K (.ref C_BadPrime) "__getattribute__" = some (some (.builtin "BaseException.__getattribute__")))
    (gg_BadPrime : findIn K (.ref C_BadPrime) "__getattr__" = some none)
    (cl_BadPrime : findIn K (.ref C_BadPrime) "__class__" = some (some (.builtin "object.__class__")))
    (mo_BadPrime : mroIn K C_BadPrime (.type "object") = some true)
    (nw_BadPrime : findIn K (.ref C_BadPrime) "word" = some none)
    (ex_BadPrime : subIn K (.ref C_BadPrime) (.type "BaseException") = some true)
    (ty_BadPrime : typeIn K (.ref C_BadPrime) = some (.type "type"))
    (kp_BadPrime : keepIn K (.ref C_BadPrime) = true)
    (hd_BadPrime : hasDictIn K C_BadPrime = true)
    (nn_BadPrime : findCls K (.ref C_BadPrime) (.type "type") "__name__" = some (.get (.builtin "getset_descriptor.__get__") (.builtin "type.__name__") (.ref C_BadPrime) (.type "type")))
    (xb_BadPrime : refsVE bm_BadPrime = true)
    (iC_BadPrime : findIn K (.ref C_BadPrime) "__init__" = some (some (.ref fI_BadPrime)))
    (tI_BadPrime : typeIn K (.ref fI_BadPrime) = some (.type "function"))
    (up_BadPrime : ks_superIn K C_BadPrime C_BadPrime "__init__" = some (some (.ref fV)))
    (lI_BadPrime : K.lookup fI_BadPrime = some ⟨ocI_BadPrime, odI_BadPrime, .func (ksFn "__init__" qI_BadPrime (leafArgs ⟨10, 17, 10, 21⟩ [("value", ⟨10, 23, 10, 28⟩)]) (leafBody r_BadPrime st_BadPrime) (leafScope ["value"]) .none .none docI_BadPrime pmI_BadPrime anI_BadPrime (.ref cda_BadPrime) ctI_BadPrime cc_BadPrime), oslI_BadPrime⟩)
    (cI_BadPrime : codeIn K (.ref cda_BadPrime) qI_BadPrime = true)
    (lcd_BadPrime : K.lookup cda_BadPrime = some ⟨ccl_BadPrime, cdd_BadPrime, .fields vs_BadPrime, ccs_BadPrime⟩)
    (fl_BadPrime : vs_BadPrime[2]? = some (.str P.main.file tf_BadPrime))
    (lcc_BadPrime : K.lookup cc_BadPrime = some ⟨clc_BadPrime, cld_BadPrime, .cell (some (.ref C_BadPrime)), csl_BadPrime⟩)
    (me_BadPrime : mroIn K C_BadPrime (.ref C_BadPrime) = some true)
    (nc_value_BadPrime : findIn K (.ref C_BadPrime) "value" = some none)
    (xs_BadPrime : PySem.W.subIn K (.ref C_BadPrime) (.ref C_VaultError) = some true)
    (q_VaultError_BadPrime : PySem.W.kitOne K (.ref C_BadPrime) (.ref C_VaultError) = some true)
    (q_NumberError_BadPrime : PySem.W.kitOne K (.ref C_BadPrime) (.ref C_NumberError) = some true)
    (q_BadPrime_BadPrime : PySem.W.kitOne K (.ref C_BadPrime) (.ref C_BadPrime) = some true)
    (q_BadTable_BadPrime : PySem.W.kitOne K (.ref C_BadPrime) (.ref C_BadTable) = some false)
    (q_BadCells_BadPrime : PySem.W.kitOne K (.ref C_BadPrime) (.ref C_BadCells) = some false)
    (q_ShapeError_BadPrime : PySem.W.kitOne K (.ref C_BadPrime) (.ref C_ShapeError) = some false)
    (q_PaperError_BadPrime : PySem.W.kitOne K (.ref C_BadPrime) (.ref C_PaperError) = some false)
    (q_BadMove_BadPrime : PySem.W.kitOne K (.ref C_BadPrime) (.ref C_BadMove) = some false)
    (q_Value_BadPrime : PySem.W.kitOne K (.ref C_BadPrime) (.type "ValueError") = some true)
    (no_at_BadPrime : findIn K (.ref C_BadPrime) "at" = some none)
    (no_cells_BadPrime : findIn K (.ref C_BadPrime) "cells" = some none)
    (no_which_BadPrime : findIn K (.ref C_BadPrime) "which" = some none)
    (xL_BadTable : K.lookup C_BadTable = some (excClassObj "BadTable" q_BadTable C_BadTable N_BadTable bs_BadTable bm_BadTable true sn_BadTable sub_BadTable ab_BadTable col_BadTable dd_BadTable k0_BadTable k1_BadTable (some (.str "BadTable" tk_BadTable)) k3_BadTable k5_BadTable "ValueError.__new__"))
    (sa_BadTable : findIn K (.ref C_BadTable) "__setattr__" = some (some (.builtin "object.__setattr__")))
    (ga_BadTable : findIn K (.ref C_BadTable) "__getattribute__" = some (some (.builtin "BaseException.__getattribute__")))
    (gg_BadTable : findIn K (.ref C_BadTable) "__getattr__" = some none)
    (cl_BadTable : findIn K (.ref C_BadTable) "__class__" = some (some (.builtin "object.__class__")))
    (mo_BadTable : mroIn K C_BadTable (.type "object") = some true)
    (nw_BadTable : findIn K (.ref C_BadTable) "word" = some none)
    (ex_BadTable : subIn K (.ref C_BadTable) (.type "BaseException") = some true)
    (ty_BadTable : typeIn K (.ref C_BadTable) = some (.type "type"))
    (kp_BadTable : keepIn K (.ref C_BadTable) = true)
    (hd_BadTable : hasDictIn K C_BadTable = true)
    (nn_BadTable : findCls K (.ref C_BadTable) (.type "type") "__name__" = some (.get (.builtin "getset_descriptor.__get__") (.builtin "type.__name__") (.ref C_BadTable) (.type "type")))
    (xb_BadTable : refsVE bm_BadTable = true)
    (iC_BadTable : findIn K (.ref C_BadTable) "__init__" = some (some (.ref fI_BadTable)))
    (tI_BadTable : typeIn K (.ref fI_BadTable) = some (.type "function"))
    (up_BadTable : ks_superIn K C_BadTable C_BadTable "__init__" = some (some (.ref fV)))
    (lI_BadTable : K.lookup fI_BadTable = some ⟨ocI_BadTable, odI_BadTable, .func (ksFn "__init__" qI_BadTable (leafArgs ⟨15, 17, 15, 21⟩ [("which", ⟨15, 23, 15, 28⟩)]) (leafBody r_BadTable st_BadTable) (leafScope ["which"]) .none .none docI_BadTable pmI_BadTable anI_BadTable (.ref cda_BadTable) ctI_BadTable cc_BadTable), oslI_BadTable⟩)
    (cI_BadTable : codeIn K (.ref cda_BadTable) qI_BadTable = true)
    (lcd_BadTable : K.lookup cda_BadTable = some ⟨ccl_BadTable, cdd_BadTable, .fields vs_BadTable, ccs_BadTable⟩)
    (fl_BadTable : vs_BadTable[2]? = some (.str P.main.file tf_BadTable))
    (lcc_BadTable : K.lookup cc_BadTable = some ⟨clc_BadTable, cld_BadTable, .cell (some (.ref C_BadTable)), csl_BadTable⟩)
    (me_BadTable : mroIn K C_BadTable (.ref C_BadTable) = some true)
    (nc_which_BadTable : findIn K (.ref C_BadTable) "which" = some none)
    (xs_BadTable : PySem.W.subIn K (.ref C_BadTable) (.ref C_VaultError) = some true)
    (q_VaultError_BadTable : PySem.W.kitOne K (.ref C_BadTable) (.ref C_VaultError) = some true)
    (q_NumberError_BadTable : PySem.W.kitOne K (.ref C_BadTable) (.ref C_NumberError) = some true)
    (q_BadPrime_BadTable : PySem.W.kitOne K (.ref C_BadTable) (.ref C_BadPrime) = some false)
    (q_BadTable_BadTable : PySem.W.kitOne K (.ref C_BadTable) (.ref C_BadTable) = some true)
    (q_BadCells_BadTable : PySem.W.kitOne K (.ref C_BadTable) (.ref C_BadCells) = some false)
    (q_ShapeError_BadTable : PySem.W.kitOne K (.ref C_BadTable) (.ref C_ShapeError) = some false)
    (q_PaperError_BadTable : PySem.W.kitOne K (.ref C_BadTable) (.ref C_PaperError) = some false)
    (q_BadMove_BadTable : PySem.W.kitOne K (.ref C_BadTable) (.ref C_BadMove) = some false)
    (q_Value_BadTable : PySem.W.kitOne K (.ref C_BadTable) (.type "ValueError") = some true)
    (no_at_BadTable : findIn K (.ref C_BadTable) "at" = some none)
    (no_cells_BadTable : findIn K (.ref C_BadTable) "cells" = some none)
    (no_value_BadTable : findIn K (.ref C_BadTable) "value" = some none)
    (xi_BadCells : PySem.W.isClsIn K C_BadCells = true)
    (xi_BadMove : PySem.W.isClsIn K C_BadMove = true)
    (xi_BadPrime : PySem.W.isClsIn K C_BadPrime = true)
    (xi_BadTable : PySem.W.isClsIn K C_BadTable = true)
    (xs_BadMove_BadMove : PySem.W.subIn K (.ref C_BadMove) (.ref C_BadMove) = some true)
    (xs_BadPrime_BadPrime : PySem.W.subIn K (.ref C_BadPrime) (.ref C_BadPrime) = some true)
    (xs_BadTable_BadPrime : PySem.W.subIn K (.ref C_BadTable) (.ref C_BadPrime) = some false)
    (xs_BadTable_BadTable : PySem.W.subIn K (.ref C_BadTable) (.ref C_BadTable) = some true)
    (xs_BadCells_BadPrime : PySem.W.subIn K (.ref C_BadCells) (.ref C_BadPrime) = some false)
    (xs_BadCells_BadTable : PySem.W.subIn K (.ref C_BadCells) (.ref C_BadTable) = some false)
    (xs_BadCells_BadCells : PySem.W.subIn K (.ref C_BadCells) (.ref C_BadCells) = some true) :
    ∃ fd : FuncData, (∀ (s : Shared) (v : Value), BindsTo s fd ⟨[v], []⟩ [("script", v)]) ∧ ∀ base : Heap, K.In base → base.Ns mainGlobals mg → FnOk P w K mg base CX0 135 fa fd ["script"] (spLaw K) := by
  have e := hfa.symm.trans (PySem.W.mg_of X G a_law)
  cases e
  have root : Root K fV := ⟨⟨_, _, _, _, _, _, _, _, _, qV, L_lV, L_cV, by decide⟩, L_tV⟩
  have kind_BadMove : Kind K C_BadMove "BadMove" := { cls := ⟨_, _, _, _, _, _, _, _, _, _, _, _, _, _, xL_BadMove, xb_BadMove⟩, sa := sa_BadMove, ga := ga_BadMove, gg := gg_BadMove, cl := cl_BadMove, sp := N_sp, tk := N_tk, mo := mo_BadMove, nw := nw_BadMove, ex := ex_BadMove, ty := ty_BadMove, kp := kp_BadMove, hd := hd_BadMove, nn := nn_BadMove, th := N_th, sz := by decide }
  have hb_BadMove : ∀ (s : Shared) (x : Value) (us : List Value), us.length = (["at"] : List Str).length → BindsTo s (ksFn "__init__" qI_BadMove (leafArgs ⟨29, 17, 29, 21⟩ [("at", ⟨29, 23, 29, 25⟩)]) (leafBody r_BadMove st_BadMove) (leafScope ["at"]) .none .none docI_BadMove pmI_BadMove anI_BadMove (.ref cda_BadMove) ctI_BadMove cc_BadMove) ⟨x :: us, []⟩ ((("self" : Str) :: ["at"]).zip (x :: us)) := fun s x us hl => match us, hl with
    | [_], _ => .of_eq rfl
  have nf_BadMove : ∀ f ∈ (["at"] : List Str), findIn K (.ref C_BadMove) f = some none ∧ (f == ("__debug__" : Str)) = false ∧ (leafScope ["at"]).names.lookup f = some .local ∧ ¬ f = "self" := fun f hf => by
    simp only [List.mem_cons, List.mem_nil_iff, or_false] at hf
    rcases hf with rfl
    · exact ⟨nc_at_BadMove, by decide, by decide, by decide⟩
  have leaf_BadMove : Leaf P K mg C_BadMove fV fI_BadMove "BadMove" ["at"] := { kind := kind_BadMove, root := root, top := ptop, ms := PySem.W.mg_none_of X G b_super, iC := iC_BadMove, tI := tI_BadMove, up := up_BadMove, fV := L_fV, fn := ⟨qI_BadMove, _, _, _, _, _, _, _, _, _, _, [("at", ⟨29, 23, 29, 25⟩)], r_BadMove, st_BadMove, _, _, _, _, _, _, _, _, lI_BadMove, cI_BadMove, lcd_BadMove, fl_BadMove, by decide, lcc_BadMove, .cons _ _ _ _ (.nil), hb_BadMove⟩, nf := nf_BadMove, nd := by decide, few := by decide, ks := by decide, kc := by decide, me := me_BadMove }
  have ix_BadMove := exm_of2 x_b x_i x_t xs_BadMove
  have kind_BadCells : Kind K C_BadCells "BadCells" := { cls := ⟨_, _, _, _, _, _, _, _, _, _, _, _, _, _, xL_BadCells, xb_BadCells⟩, sa := sa_BadCells, ga := ga_BadCells, gg := gg_BadCells, cl := cl_BadCells, sp := N_sp, tk := N_tk, mo := mo_BadCells, nw := nw_BadCells, ex := ex_BadCells, ty := ty_BadCells, kp := kp_BadCells, hd := hd_BadCells, nn := nn_BadCells, th := N_th, sz := by decide }
  have hb_BadCells : ∀ (s : Shared) (x : Value) (us : List Value), us.length = (["cells"] : List Str).length → BindsTo s (ksFn "__init__" qI_BadCells (leafArgs ⟨20, 17, 20, 21⟩ [("cells", ⟨20, 23, 20, 28⟩)]) (leafBody r_BadCells st_BadCells) (leafScope ["cells"]) .none .none docI_BadCells pmI_BadCells anI_BadCells (.ref cda_BadCells) ctI_BadCells cc_BadCells) ⟨x :: us, []⟩ ((("self" : Str) :: ["cells"]).zip (x :: us)) := fun s x us hl => match us, hl with
    | [_], _ => .of_eq rfl
  have nf_BadCells : ∀ f ∈ (["cells"] : List Str), findIn K (.ref C_BadCells) f = some none ∧ (f == ("__debug__" : Str)) = false ∧ (leafScope ["cells"]).names.lookup f = some .local ∧ ¬ f = "self" := fun f hf => by
    simp only [List.mem_cons, List.mem_nil_iff, or_false] at hf
    rcases hf with rfl
    · exact ⟨nc_cells_BadCells, by decide, by decide, by decide⟩
  have leaf_BadCells : Leaf P K mg C_BadCells fV fI_BadCells "BadCells" ["cells"] := { kind := kind_BadCells, root := root, top := ptop, ms := PySem.W.mg_none_of X G b_super, iC := iC_BadCells, tI := tI_BadCells, up := up_BadCells, fV := L_fV, fn := ⟨qI_BadCells, _, _, _, _, _, _, _, _, _, _, [("cells", ⟨20, 23, 20, 28⟩)], r_BadCells, st_BadCells, _, _, _, _, _, _, _, _, lI_BadCells, cI_BadCells, lcd_BadCells, fl_BadCells, by decide, lcc_BadCells, .cons _ _ _ _ (.nil), hb_BadCells⟩, nf := nf_BadCells, nd := by decide, few := by decide, ks := by decide, kc := by decide, me := me_BadCells }
  have ix_BadCells := exm_of2 x_b x_i x_t xs_BadCells
  have kind_BadPrime : Kind K C_BadPrime "BadPrime" := { cls := ⟨_, _, _, _, _, _, _, _, _, _, _, _, _, _, xL_BadPrime, xb_BadPrime⟩, sa := sa_BadPrime, ga := ga_BadPrime, gg := gg_BadPrime, cl := cl_BadPrime, sp := N_sp, tk := N_tk, mo := mo_BadPrime, nw := nw_BadPrime, ex := ex_BadPrime, ty := ty_BadPrime, kp := kp_BadPrime, hd := hd_BadPrime, nn := nn_BadPrime, th := N_th, sz := by decide }
  have hb_BadPrime : ∀ (s : Shared) (x : Value) (us : List Value), us.length = (["value"] : List Str).length → BindsTo s (ksFn "__init__" qI_BadPrime (leafArgs ⟨10, 17, 10, 21⟩ [("value", ⟨10, 23, 10, 28⟩)]) (leafBody r_BadPrime st_BadPrime) (leafScope ["value"]) .none .none docI_BadPrime pmI_BadPrime anI_BadPrime (.ref cda_BadPrime) ctI_BadPrime cc_BadPrime) ⟨x :: us, []⟩ ((("self" : Str) :: ["value"]).zip (x :: us)) := fun s x us hl => match us, hl with
    | [_], _ => .of_eq rfl
  have nf_BadPrime : ∀ f ∈ (["value"] : List Str), findIn K (.ref C_BadPrime) f = some none ∧ (f == ("__debug__" : Str)) = false ∧ (leafScope ["value"]).names.lookup f = some .local ∧ ¬ f = "self" := fun f hf => by
    simp only [List.mem_cons, List.mem_nil_iff, or_false] at hf
    rcases hf with rfl
    · exact ⟨nc_value_BadPrime, by decide, by decide, by decide⟩
  have leaf_BadPrime : Leaf P K mg C_BadPrime fV fI_BadPrime "BadPrime" ["value"] := { kind := kind_BadPrime, root := root, top := ptop, ms := PySem.W.mg_none_of X G b_super, iC := iC_BadPrime, tI := tI_BadPrime, up := up_BadPrime, fV := L_fV, fn := ⟨qI_BadPrime, _, _, _, _, _, _, _, _, _, _, [("value", ⟨10, 23, 10, 28⟩)], r_BadPrime, st_BadPrime, _, _, _, _, _, _, _, _, lI_BadPrime, cI_BadPrime, lcd_BadPrime, fl_BadPrime, by decide, lcc_BadPrime, .cons _ _ _ _ (.nil), hb_BadPrime⟩, nf := nf_BadPrime, nd := by decide, few := by decide, ks := by decide, kc := by decide, me := me_BadPrime }
  have ix_BadPrime := exm_of2 x_b x_i x_t xs_BadPrime
  have kind_BadTable : Kind K C_BadTable "BadTable" := { cls := ⟨_, _, _, _, _, _, _, _, _, _, _, _, _, _, xL_BadTable, xb_BadTable⟩, sa := sa_BadTable, ga := ga_BadTable, gg := gg_BadTable, cl := cl_BadTable, sp := N_sp, tk := N_tk, mo := mo_BadTable, nw := nw_BadTable, ex := ex_BadTable, ty := ty_BadTable, kp := kp_BadTable, hd := hd_BadTable, nn := nn_BadTable, th := N_th, sz := by decide }
  have hb_BadTable : ∀ (s : Shared) (x : Value) (us : List Value), us.length = (["which"] : List Str).length → BindsTo s (ksFn "__init__" qI_BadTable (leafArgs ⟨15, 17, 15, 21⟩ [("which", ⟨15, 23, 15, 28⟩)]) (leafBody r_BadTable st_BadTable) (leafScope ["which"]) .none .none docI_BadTable pmI_BadTable anI_BadTable (.ref cda_BadTable) ctI_BadTable cc_BadTable) ⟨x :: us, []⟩ ((("self" : Str) :: ["which"]).zip (x :: us)) := fun s x us hl => match us, hl with
    | [_], _ => .of_eq rfl
  have nf_BadTable : ∀ f ∈ (["which"] : List Str), findIn K (.ref C_BadTable) f = some none ∧ (f == ("__debug__" : Str)) = false ∧ (leafScope ["which"]).names.lookup f = some .local ∧ ¬ f = "self" := fun f hf => by
    simp only [List.mem_cons, List.mem_nil_iff, or_false] at hf
    rcases hf with rfl
    · exact ⟨nc_which_BadTable, by decide, by decide, by decide⟩
  have leaf_BadTable : Leaf P K mg C_BadTable fV fI_BadTable "BadTable" ["which"] := { kind := kind_BadTable, root := root, top := ptop, ms := PySem.W.mg_none_of X G b_super, iC := iC_BadTable, tI := tI_BadTable, up := up_BadTable, fV := L_fV, fn := ⟨qI_BadTable, _, _, _, _, _, _, _, _, _, _, [("which", ⟨15, 23, 15, 28⟩)], r_BadTable, st_BadTable, _, _, _, _, _, _, _, _, lI_BadTable, cI_BadTable, lcd_BadTable, fl_BadTable, by decide, lcc_BadTable, .cons _ _ _ _ (.nil), hb_BadTable⟩, nf := nf_BadTable, nd := by decide, few := by decide, ks := by decide, kc := by decide, me := me_BadTable }
  have ix_BadTable := exm_of2 x_b x_i x_t xs_BadTable
  have T : Txt P K mg C_VaultError C_NumberError C_BadPrime C_BadTable C_BadCells C_ShapeError C_PaperError C_BadMove fV fI_BadMove fI_BadCells fI_BadPrime fI_BadTable := { b_int := PySem.W.mg_none_of X G b_int, b_bool := PySem.W.mg_none_of X G b_bool, b_isinstance := PySem.W.mg_none_of X G b_isinstance, b_range := PySem.W.mg_none_of X G b_range, b_min := PySem.W.mg_none_of X G b_min, b_max := PySem.W.mg_none_of X G b_max, b_abs := PySem.W.mg_none_of X G b_abs, b_len := PySem.W.mg_none_of X G b_len, b_list := PySem.W.mg_none_of X G b_list, b_str := PySem.W.mg_none_of X G b_str, b_dict := PySem.W.mg_none_of X G b_dict, b_tuple := PySem.W.mg_none_of X G b_tuple, b_enumerate := PySem.W.mg_none_of X G b_enumerate, b_all := PySem.W.mg_none_of X G b_all, b_reversed := PySem.W.mg_none_of X G b_reversed, g_VaultError := PySem.W.mg_of X G g_VaultError, g_NumberError := PySem.W.mg_of X G g_NumberError, g_BadPrime := PySem.W.mg_of X G g_BadPrime, g_BadTable := PySem.W.mg_of X G g_BadTable, g_BadCells := PySem.W.mg_of X G g_BadCells, g_ShapeError := PySem.W.mg_of X G g_ShapeError, g_PaperError := PySem.W.mg_of X G g_PaperError, g_BadMove := PySem.W.mg_of X G g_BadMove, lf_BadMove := leaf_BadMove, ix_BadMove := ix_BadMove, k_BadMove_VaultError := q_VaultError_BadMove, k_BadMove_NumberError := q_NumberError_BadMove, k_BadMove_BadPrime := q_BadPrime_BadMove, k_BadMove_BadTable := q_BadTable_BadMove, k_BadMove_BadCells := q_BadCells_BadMove, k_BadMove_ShapeError := q_ShapeError_BadMove, k_BadMove_PaperError := q_PaperError_BadMove, k_BadMove_BadMove := q_BadMove_BadMove, k_BadMove_ValueError := q_Value_BadMove, no_BadMove_cells := no_cells_BadMove, no_BadMove_value := no_value_BadMove, no_BadMove_which := no_which_BadMove, lf_BadCells := leaf_BadCells, ix_BadCells := ix_BadCells, k_BadCells_VaultError := q_VaultError_BadCells, k_BadCells_NumberError := q_NumberError_BadCells, k_BadCells_BadPrime := q_BadPrime_BadCells, k_BadCells_BadTable := q_BadTable_BadCells, k_BadCells_BadCells := q_BadCells_BadCells, k_BadCells_ShapeError := q_ShapeError_BadCells, k_BadCells_PaperError := q_PaperError_BadCells, k_BadCells_BadMove := q_BadMove_BadCells, k_BadCells_ValueError := q_Value_BadCells, no_BadCells_at := no_at_BadCells, no_BadCells_value := no_value_BadCells, no_BadCells_which := no_which_BadCells, lf_BadPrime := leaf_BadPrime, ix_BadPrime := ix_BadPrime, k_BadPrime_VaultError := q_VaultError_BadPrime, k_BadPrime_NumberError := q_NumberError_BadPrime, k_BadPrime_BadPrime := q_BadPrime_BadPrime, k_BadPrime_BadTable := q_BadTable_BadPrime, k_BadPrime_BadCells := q_BadCells_BadPrime, k_BadPrime_ShapeError := q_ShapeError_BadPrime, k_BadPrime_PaperError := q_PaperError_BadPrime, k_BadPrime_BadMove := q_BadMove_BadPrime, k_BadPrime_ValueError := q_Value_BadPrime, no_BadPrime_at := no_at_BadPrime, no_BadPrime_cells := no_cells_BadPrime, no_BadPrime_which := no_which_BadPrime, lf_BadTable := leaf_BadTable, ix_BadTable := ix_BadTable, k_BadTable_VaultError := q_VaultError_BadTable, k_BadTable_NumberError := q_NumberError_BadTable, k_BadTable_BadPrime := q_BadPrime_BadTable, k_BadTable_BadTable := q_BadTable_BadTable, k_BadTable_BadCells := q_BadCells_BadTable, k_BadTable_ShapeError := q_ShapeError_BadTable, k_BadTable_PaperError := q_PaperError_BadTable, k_BadTable_BadMove := q_BadMove_BadTable, k_BadTable_ValueError := q_Value_BadTable, no_BadTable_at := no_at_BadTable, no_BadTable_cells := no_cells_BadTable, no_BadTable_value := no_value_BadTable, g_GREATEST_PRIME := ⟨_, PySem.W.mg_of X G gc_GREATEST_PRIME⟩ }
  have ex_BadMove_BadMove := exm_of3 ex_BadMove xi_BadMove ty_BadMove xs_BadMove_BadMove
  have ex_BadPrime_BadPrime := exm_of3 ex_BadPrime xi_BadPrime ty_BadPrime xs_BadPrime_BadPrime
  have ex_BadTable_BadPrime := exm_of3 ex_BadPrime xi_BadPrime ty_BadPrime xs_BadTable_BadPrime
  have ex_BadTable_BadTable := exm_of3 ex_BadTable xi_BadTable ty_BadTable xs_BadTable_BadTable
  have ex_BadCells_BadPrime := exm_of3 ex_BadPrime xi_BadPrime ty_BadPrime xs_BadCells_BadPrime
  have ex_BadCells_BadTable := exm_of3 ex_BadTable xi_BadTable ty_BadTable xs_BadCells_BadTable
  have ex_BadCells_BadCells := exm_of3 ex_BadCells xi_BadCells ty_BadCells xs_BadCells_BadCells
  have F_is_whole := fun_mk (st := s_is_whole) l_is_whole c_is_whole k_is_whole
  have D_is_whole : Def K mg "is_whole" s_is_whole p_is_whole f_is_whole _ := ⟨F_is_whole, PySem.W.mg_of X G a_is_whole, F_is_whole.binds (ps := p_is_whole) fun _ _ _ _ _ _ us hl => match us, hl with | [_], _ => rfl⟩
  have F_lies_within := fun_mk (st := s_lies_within) l_lies_within c_lies_within k_lies_within
  have D_lies_within : Def K mg "lies_within" s_lies_within p_lies_within f_lies_within _ := ⟨F_lies_within, PySem.W.mg_of X G a_lies_within, F_lies_within.binds (ps := p_lies_within) fun _ _ _ _ _ _ us hl => match us, hl with | [_, _, _], _ => rfl⟩
  have F_is_prime := fun_mk (st := s_is_prime) l_is_prime c_is_prime k_is_prime
  have D_is_prime : Def K mg "is_prime" s_is_prime p_is_prime f_is_prime _ := ⟨F_is_prime, PySem.W.mg_of X G a_is_prime, F_is_prime.binds (ps := p_is_prime) fun _ _ _ _ _ _ us hl => match us, hl with | [_], _ => rfl⟩
  have F_need_prime := fun_mk (st := s_need_prime) l_need_prime c_need_prime k_need_prime
  have D_need_prime : Def K mg "need_prime" s_need_prime p_need_prime f_need_prime _ := ⟨F_need_prime, PySem.W.mg_of X G a_need_prime, F_need_prime.binds (ps := p_need_prime) fun _ _ _ _ _ _ us hl => match us, hl with | [_], _ => rfl⟩
  have F_choose := fun_mk (st := s_choose) l_choose c_choose k_choose
  have D_choose : Def K mg "choose" s_choose p_choose f_choose _ := ⟨F_choose, PySem.W.mg_of X G a_choose, F_choose.binds (ps := p_choose) fun _ _ _ _ _ _ us hl => match us, hl with | [_, _], _ => rfl⟩
  have F_check_table := fun_mk (st := s_check_table) l_check_table c_check_table k_check_table
  have D_check_table : Def K mg "check_table" s_check_table p_check_table f_check_table _ := ⟨F_check_table, PySem.W.mg_of X G a_check_table, F_check_table.binds (ps := p_check_table) fun _ _ _ _ _ _ us hl => match us, hl with | [_, _, _], _ => rfl⟩
  have F_chain := fun_mk (st := s_chain) l_chain c_chain k_chain
  have D_chain : Def K mg "chain" s_chain p_chain f_chain _ := ⟨F_chain, PySem.W.mg_of X G a_chain, F_chain.binds (ps := p_chain) fun _ _ _ _ _ _ us hl => match us, hl with | [_, _, _, _], _ => rfl⟩
  have F_stretch := fun_mk (st := s_stretch) l_stretch c_stretch k_stretch
  have D_stretch : DefK K mg "stretch" s_stretch p_stretch ["password", "salt", "length"] f_stretch _ := ⟨F_stretch, PySem.W.mg_of X G a_stretch, F_stretch.kbinds (ps := p_stretch) (ks := ["password", "salt", "length"]) (by decide) (fun _ _ _ _ _ _ us ws hl hw => match us, ws, hl, hw with | [_, _, _], [_, _, _], _, _ => rfl)⟩
  have F_fold := fun_mk (st := s_fold) l_fold c_fold k_fold
  have D_fold : Def K mg "fold" s_fold p_fold f_fold _ := ⟨F_fold, PySem.W.mg_of X G a_fold, F_fold.binds (ps := p_fold) fun _ _ _ _ _ _ us hl => match us, hl with | [_, _, _, _], _ => rfl⟩
  have F_need_cells := fun_mk (st := s_need_cells) l_need_cells c_need_cells k_need_cells
  have D_need_cells : Def K mg "need_cells" s_need_cells p_need_cells f_need_cells _ := ⟨F_need_cells, PySem.W.mg_of X G a_need_cells, F_need_cells.binds (ps := p_need_cells) fun _ _ _ _ _ _ us hl => match us, hl with | [_], _ => rfl⟩
  have F_rounds := fun_mk (st := s_rounds) l_rounds c_rounds k_rounds
  have D_rounds : Def K mg "rounds" s_rounds p_rounds f_rounds _ := ⟨F_rounds, PySem.W.mg_of X G a_rounds, F_rounds.binds (ps := p_rounds) fun _ _ _ _ _ _ us hl => match us, hl with | [_, _], _ => rfl⟩
  have F_least_steps := fun_mk (st := s_least_steps) l_least_steps c_least_steps k_least_steps
  have D_least_steps : Def K mg "least_steps" s_least_steps p_least_steps f_least_steps _ := ⟨F_least_steps, PySem.W.mg_of X G a_least_steps, F_least_steps.binds (ps := p_least_steps) fun _ _ _ _ _ _ us hl => match us, hl with | [_, _], _ => rfl⟩
  have F_best_stop := fun_mk (st := s_best_stop) l_best_stop c_best_stop k_best_stop
  have D_best_stop : Def K mg "best_stop" s_best_stop p_best_stop f_best_stop _ := ⟨F_best_stop, PySem.W.mg_of X G a_best_stop, F_best_stop.binds (ps := p_best_stop) fun _ _ _ _ _ _ us hl => match us, hl with | [_, _], _ => rfl⟩
  have F_move_list := fun_mk (st := s_move_list) l_move_list c_move_list k_move_list
  have D_move_list : Def K mg "move_list" s_move_list p_move_list f_move_list _ := ⟨F_move_list, PySem.W.mg_of X G a_move_list, F_move_list.binds (ps := p_move_list) fun _ _ _ _ _ _ us hl => match us, hl with | [_, _], _ => rfl⟩
  have F_write_moves := fun_mk (st := s_write_moves) l_write_moves c_write_moves k_write_moves
  have D_write_moves : Def K mg "_write_moves" s_write_moves p_write_moves f_write_moves _ := ⟨F_write_moves, PySem.W.mg_of X G a_write_moves, F_write_moves.binds (ps := p_write_moves) fun _ _ _ _ _ _ us hl => match us, hl with | [_, _, _, _, _], _ => rfl⟩
  have F_check_moves := fun_mk (st := s_check_moves) l_check_moves c_check_moves k_check_moves
  have D_check_moves : Def K mg "check_moves" s_check_moves p_check_moves f_check_moves _ := ⟨F_check_moves, PySem.W.mg_of X G a_check_moves, F_check_moves.binds (ps := p_check_moves) fun _ _ _ _ _ _ us hl => match us, hl with | [_, _, _], _ => rfl⟩
  have F_is_move := fun_mk (st := s_is_move) l_is_move c_is_move k_is_move
  have D_is_move : Def K mg "_is_move" s_is_move p_is_move f_is_move _ := ⟨F_is_move, PySem.W.mg_of X G a_is_move, F_is_move.binds (ps := p_is_move) fun _ _ _ _ _ _ us hl => match us, hl with | [_, _], _ => rfl⟩
  have F_run_moves := fun_mk (st := s_run_moves) l_run_moves c_run_moves k_run_moves
  have D_run_moves : DefK K mg "run_moves" s_run_moves p_run_moves ["start", "length", "cells"] f_run_moves _ := ⟨F_run_moves, PySem.W.mg_of X G a_run_moves, F_run_moves.kbinds (ps := p_run_moves) (ks := ["start", "length", "cells"]) (by decide) (fun _ _ _ _ _ _ us ws hl hw => match us, ws, hl, hw with | [_, _, _, _], [_, _, _], _, _ => rfl)⟩
  have F_store := fun_mk (st := s_store) l_store c_store k_store
  have D_store : Def K mg "_law_store" s_store p_store f_store _ := ⟨F_store, PySem.W.mg_of X G a_store, F_store.binds (ps := p_store) fun _ _ _ _ _ _ us hl => match us, hl with | [_], _ => rfl⟩
  have F_mix := fun_mk (st := s_mix) l_mix c_mix k_mix
  have D_mix : Def K mg "_law_mix" s_mix p_mix f_mix _ := ⟨F_mix, PySem.W.mg_of X G a_mix, F_mix.binds (ps := p_mix) fun _ _ _ _ _ _ us hl => match us, hl with | [_, _], _ => rfl⟩
  have F_take := fun_mk (st := s_take) l_take c_take k_take
  have D_take : Def K mg "_law_take" s_take p_take f_take _ := ⟨F_take, PySem.W.mg_of X G a_take, F_take.binds (ps := p_take) fun _ _ _ _ _ _ us hl => match us, hl with | [_, _], _ => rfl⟩
  have F_edge := fun_mk (st := s_edge) l_edge c_edge k_edge
  have D_edge : Def K mg "_law_edge" s_edge p_edge f_edge _ := ⟨F_edge, PySem.W.mg_of X G a_edge, F_edge.binds (ps := p_edge) fun _ _ _ _ _ _ us hl => match us, hl with | [_, _], _ => rfl⟩
  have F_odds := fun_mk (st := s_odds) l_odds c_odds k_odds
  have D_odds : Def K mg "_law_odds" s_odds p_odds f_odds _ := ⟨F_odds, PySem.W.mg_of X G a_odds, F_odds.binds (ps := p_odds) fun _ _ _ _ _ _ us hl => match us, hl with | [_, _], _ => rfl⟩
  have F_pick := fun_mk (st := s_pick) l_pick c_pick k_pick
  have D_pick : Def K mg "_law_pick" s_pick p_pick f_pick _ := ⟨F_pick, PySem.W.mg_of X G a_pick, F_pick.binds (ps := p_pick) fun _ _ _ _ _ _ us hl => match us, hl with | [_, _], _ => rfl⟩
  have F_put := fun_mk (st := s_put) l_put c_put k_put
  have D_put : Def K mg "_law_put" s_put p_put f_put _ := ⟨F_put, PySem.W.mg_of X G a_put, F_put.binds (ps := p_put) fun _ _ _ _ _ _ us hl => match us, hl with | [_, _, _], _ => rfl⟩
  have F_primes := fun_mk (st := s_primes) l_primes c_primes k_primes
  have D_primes : Def K mg "_law_primes" s_primes p_primes f_primes _ := ⟨F_primes, PySem.W.mg_of X G a_primes, F_primes.binds (ps := p_primes) fun _ _ _ _ _ _ us hl => match us, hl with | [], _ => rfl⟩
  have F_prime := fun_mk (st := s_prime) l_prime c_prime k_prime
  have D_prime : Def K mg "_law_prime" s_prime p_prime f_prime _ := ⟨F_prime, PySem.W.mg_of X G a_prime, F_prime.binds (ps := p_prime) fun _ _ _ _ _ _ us hl => match us, hl with | [_], _ => rfl⟩
  have F_table := fun_mk (st := s_table) l_table c_table k_table
  have D_table : Def K mg "_law_table" s_table p_table f_table _ := ⟨F_table, PySem.W.mg_of X G a_table, F_table.binds (ps := p_table) fun _ _ _ _ _ _ us hl => match us, hl with | [_, _], _ => rfl⟩
  have F_badtable := fun_mk (st := s_badtable) l_badtable c_badtable k_badtable
  have D_badtable : Def K mg "_law_badtable" s_badtable p_badtable f_badtable _ := ⟨F_badtable, PySem.W.mg_of X G a_badtable, F_badtable.binds (ps := p_badtable) fun _ _ _ _ _ _ us hl => match us, hl with | [_, _], _ => rfl⟩
  have F_length := fun_mk (st := s_length) l_length c_length k_length
  have D_length : Def K mg "_law_length" s_length p_length f_length _ := ⟨F_length, PySem.W.mg_of X G a_length, F_length.binds (ps := p_length) fun _ _ _ _ _ _ us hl => match us, hl with | [_], _ => rfl⟩
  have F_cellcount := fun_mk (st := s_cellcount) l_cellcount c_cellcount k_cellcount
  have D_cellcount : Def K mg "_law_cellcount" s_cellcount p_cellcount f_cellcount _ := ⟨F_cellcount, PySem.W.mg_of X G a_cellcount, F_cellcount.binds (ps := p_cellcount) fun _ _ _ _ _ _ us hl => match us, hl with | [_], _ => rfl⟩
  have F_badcells := fun_mk (st := s_badcells) l_badcells c_badcells k_badcells
  have D_badcells : Def K mg "_law_badcells" s_badcells p_badcells f_badcells _ := ⟨F_badcells, PySem.W.mg_of X G a_badcells, F_badcells.binds (ps := p_badcells) fun _ _ _ _ _ _ us hl => match us, hl with | [_], _ => rfl⟩
  have F_moves := fun_mk (st := s_moves) l_moves c_moves k_moves
  have D_moves : Def K mg "_law_moves" s_moves p_moves f_moves _ := ⟨F_moves, PySem.W.mg_of X G a_moves, F_moves.binds (ps := p_moves) fun _ _ _ _ _ _ us hl => match us, hl with | [_, _, _, _, _], _ => rfl⟩
  have F_play := fun_mk (st := s_play) l_play c_play k_play
  have D_play : Def K mg "_law_play" s_play p_play f_play _ := ⟨F_play, PySem.W.mg_of X G a_play, F_play.binds (ps := p_play) fun _ _ _ _ _ _ us hl => match us, hl with | [_, _, _], _ => rfl⟩
  have F_moveshape := fun_mk (st := s_moveshape) l_moveshape c_moveshape k_moveshape
  have D_moveshape : Def K mg "_law_moveshape" s_moveshape p_moveshape f_moveshape _ := ⟨F_moveshape, PySem.W.mg_of X G a_moveshape, F_moveshape.binds (ps := p_moveshape) fun _ _ _ _ _ _ us hl => match us, hl with | [_, _], _ => rfl⟩
  have F_leastups := fun_mk (st := s_leastups) l_leastups c_leastups k_leastups
  have D_leastups : Def K mg "_law_leastups" s_leastups p_leastups f_leastups _ := ⟨F_leastups, PySem.W.mg_of X G a_leastups, F_leastups.binds (ps := p_leastups) fun _ _ _ _ _ _ us hl => match us, hl with | [_, _], _ => rfl⟩
  have F_stretchof := fun_mk (st := s_stretchof) l_stretchof c_stretchof k_stretchof
  have D_stretchof : Def K mg "_law_stretchof" s_stretchof p_stretchof f_stretchof _ := ⟨F_stretchof, PySem.W.mg_of X G a_stretchof, F_stretchof.binds (ps := p_stretchof) fun _ _ _ _ _ _ us hl => match us, hl with | [_, _, _, _, _], _ => rfl⟩
  have F_isint := fun_mk (st := s_isint) l_isint c_isint k_isint
  have D_isint : Def K mg "_law_isint" s_isint p_isint f_isint _ := ⟨F_isint, PySem.W.mg_of X G a_isint, F_isint.binds (ps := p_isint) fun _ _ _ _ _ _ us hl => match us, hl with | [_], _ => rfl⟩
  have F_same := fun_mk (st := s_same) l_same c_same k_same
  have D_same : Def K mg "_law_same" s_same p_same f_same _ := ⟨F_same, PySem.W.mg_of X G a_same, F_same.binds (ps := p_same) fun _ _ _ _ _ _ us hl => match us, hl with | [_, _], _ => rfl⟩
  have F_copyof := fun_mk (st := s_copyof) l_copyof c_copyof k_copyof
  have D_copyof : Def K mg "_law_copyof" s_copyof p_copyof f_copyof _ := ⟨F_copyof, PySem.W.mg_of X G a_copyof, F_copyof.binds (ps := p_copyof) fun _ _ _ _ _ _ us hl => match us, hl with | [_], _ => rfl⟩
  have F_bent := fun_mk (st := s_bent) l_bent c_bent k_bent
  have D_bent : Def K mg "_law_bent" s_bent p_bent f_bent _ := ⟨F_bent, PySem.W.mg_of X G a_bent, F_bent.binds (ps := p_bent) fun _ _ _ _ _ _ us hl => match us, hl with | [_, _, _], _ => rfl⟩
  have F_stop := fun_mk (st := s_stop) l_stop c_stop k_stop
  have D_stop : Def K mg "_law_stop" s_stop p_stop f_stop _ := ⟨F_stop, PySem.W.mg_of X G a_stop, F_stop.binds (ps := p_stop) fun _ _ _ _ _ _ us hl => match us, hl with | [_, _, _], _ => rfl⟩
  have F_movesdue := fun_mk (st := s_movesdue) l_movesdue c_movesdue k_movesdue
  have D_movesdue : Def K mg "_law_movesdue" s_movesdue p_movesdue f_movesdue _ := ⟨F_movesdue, PySem.W.mg_of X G a_movesdue, F_movesdue.binds (ps := p_movesdue) fun _ _ _ _ _ _ us hl => match us, hl with | [_, _], _ => rfl⟩
  have F_ran := fun_mk (st := s_ran) l_ran c_ran k_ran
  have D_ran : Def K mg "_law_ran" s_ran p_ran f_ran _ := ⟨F_ran, PySem.W.mg_of X G a_ran, F_ran.binds (ps := p_ran) fun _ _ _ _ _ _ us hl => match us, hl with | [_, _, _, _, _, _, _], _ => rfl⟩
  have F_checked := fun_mk (st := s_checked) l_checked c_checked k_checked
  have D_checked : Def K mg "_law_checked" s_checked p_checked f_checked _ := ⟨F_checked, PySem.W.mg_of X G a_checked, F_checked.binds (ps := p_checked) fun _ _ _ _ _ _ us hl => match us, hl with | [_, _, _], _ => rfl⟩
  have F_movesright := fun_mk (st := s_movesright) l_movesright c_movesright k_movesright
  have D_movesright : Def K mg "_law_movesright" s_movesright p_movesright f_movesright _ := ⟨F_movesright, PySem.W.mg_of X G a_movesright, F_movesright.binds (ps := p_movesright) fun _ _ _ _ _ _ us hl => match us, hl with | [_, _, _, _, _, _, _], _ => rfl⟩
  have F_door := fun_mk (st := s_door) l_door c_door k_door
  have D_door : Def K mg "_law_door" s_door p_door f_door _ := ⟨F_door, PySem.W.mg_of X G a_door, F_door.binds (ps := p_door) fun _ _ _ _ _ _ us hl => match us, hl with | [_, _, _, _, _], _ => rfl⟩
  have F_spoilt := fun_mk (st := s_spoilt) l_spoilt c_spoilt k_spoilt
  have D_spoilt : Def K mg "_law_spoilt" s_spoilt p_spoilt f_spoilt _ := ⟨F_spoilt, PySem.W.mg_of X G a_spoilt, F_spoilt.binds (ps := p_spoilt) fun _ _ _ _ _ _ us hl => match us, hl with | [_, _, _, _, _], _ => rfl⟩
  have F_refused := fun_mk (st := s_refused) l_refused c_refused k_refused
  have D_refused : Def K mg "_law_refused" s_refused p_refused f_refused _ := ⟨F_refused, PySem.W.mg_of X G a_refused, F_refused.binds (ps := p_refused) fun _ _ _ _ _ _ us hl => match us, hl with | [_, _, _, _], _ => rfl⟩
  have F_law := fun_mk (st := s_law) l_law c_law k_law
  refine ⟨PySem.W.fnOf "law" "law" (defArgs s_law) (defBody s_law) (defScope s_law) .none kV_law dc_law pm_law an_law cd_law ct_law, fun s v => .of_eq rfl, fun base _ _ => ?_⟩
  have G_store := ok_store (w := w) (base := base) T F_store 
  have G_mix := ok_mix (w := w) (base := base) T F_mix 
  have G_take := ok_take (w := w) (base := base) T F_take D_mix G_mix
  have G_pick := ok_pick (w := w) (base := base) T F_pick D_take G_take
  have G_primes := ok_primes (w := w) (base := base) T F_primes 
  have G_prime := ok_prime (w := w) (base := base) T F_prime D_take G_take D_pick G_pick D_primes G_primes
  have G_edge := ok_edge (w := w) (base := base) T F_edge D_take G_take
  have G_length := ok_length (w := w) (base := base) T F_length D_take G_take D_edge G_edge
  have G_odds := ok_odds (w := w) (base := base) T F_odds D_take G_take
  have G_cellcount := ok_cellcount (w := w) (base := base) T F_cellcount D_take G_take D_edge G_edge D_odds G_odds
  have G_put := ok_put (w := w) (base := base) T F_put 
  have G_table := ok_table (w := w) (base := base) T F_table D_take G_take D_put G_put
  have G_leastups := ok_leastups (w := w) (base := base) T F_leastups 
  have G_stop := ok_stop (w := w) (base := base) T F_stop D_leastups G_leastups
  have G_movesdue := ok_movesdue (w := w) (base := base) T F_movesdue D_stop G_stop
  have G_is_whole := ok_is_whole (w := w) (base := base) T F_is_whole 
  have G_need_cells := ok_need_cells (w := w) (base := base) T F_need_cells D_is_whole G_is_whole
  have G_choose := ok_choose (w := w) (base := base) T F_choose 
  have G_rounds := ok_rounds (w := w) (base := base) T F_rounds D_need_cells G_need_cells D_choose G_choose
  have G_least_steps := ok_least_steps (w := w) (base := base) T F_least_steps D_rounds G_rounds D_choose G_choose
  have G_best_stop := ok_best_stop (w := w) (base := base) T F_best_stop D_need_cells G_need_cells D_least_steps G_least_steps
  have G_write_moves := ok_write (w := w) (base := base) T F_write_moves D_write_moves D_best_stop G_best_stop 124
  have G_move_list := ok_move_list (w := w) (base := base) T F_move_list D_need_cells G_need_cells D_write_moves G_write_moves
  have G_same := ok_same (w := w) (base := base) T F_same D_same 6
  have G_stretchof := ok_stretchof (w := w) (base := base) T F_stretchof 
  have G_copyof := ok_copy (w := w) (base := base) T F_copyof D_copyof
  have G_lies_within := ok_lies_within (w := w) (base := base) T F_lies_within D_is_whole G_is_whole
  have G_is_prime := ok_is_prime (w := w) (base := base) T F_is_prime 
  have G_need_prime := ok_need_prime (w := w) (base := base) T F_need_prime D_lies_within G_lies_within D_is_prime G_is_prime
  have G_check_table := ok_check_table (w := w) (base := base) T F_check_table D_need_prime G_need_prime D_lies_within G_lies_within
  have G_is_move := ok_is_move (w := w) (base := base) T F_is_move D_lies_within G_lies_within
  have G_check_moves := ok_check_moves (w := w) (base := base) T F_check_moves D_need_cells G_need_cells D_is_move G_is_move
  have G_fold := ok_fold (w := w) (base := base) T F_fold 
  have G_run_moves := ok_run_moves (w := w) (base := base) T F_run_moves D_check_table G_check_table D_check_moves G_check_moves D_fold G_fold
  have G_ran := ok_ran (w := w) (base := base) T F_ran D_copyof G_copyof D_run_moves G_run_moves D_same G_same ex_BadMove_BadMove
  have G_chain := ok_chain (w := w) (base := base) T F_chain D_check_table G_check_table
  have G_stretch := ok_stretch (w := w) (base := base) T F_stretch D_check_table G_check_table D_chain G_chain D_fold G_fold
  have G_moves := ok_moves (w := w) (base := base) T F_moves D_moves D_edge G_edge 122
  have G_bent := ok_bent (w := w) (base := base) T F_bent D_take G_take D_pick G_pick
  have G_isint := ok_isint (w := w) (base := base) T F_isint 
  have G_moveshape := ok_moveshape (w := w) (base := base) T F_moveshape D_isint G_isint
  have G_play := ok_play (w := w) (base := base) T F_play D_moveshape G_moveshape
  have G_checked := ok_checked (w := w) (base := base) T F_checked D_check_moves G_check_moves D_same G_same ex_BadMove_BadMove
  have G_movesright := ok_movesright (w := w) (base := base) T F_movesright D_play G_play D_stretchof G_stretchof D_same G_same D_checked G_checked D_ran G_ran
  have G_badtable := ok_badtable (w := w) (base := base) T F_badtable D_table G_table D_take G_take D_pick G_pick D_put G_put
  have G_badcells := ok_badcells (w := w) (base := base) T F_badcells D_pick G_pick
  have G_door := ok_door (w := w) (base := base) T F_door D_run_moves G_run_moves D_stretch G_stretch D_chain G_chain D_move_list G_move_list D_check_moves G_check_moves
  have G_spoilt := ok_spoilt (w := w) (base := base) T F_spoilt D_door G_door ex_BadPrime_BadPrime ex_BadTable_BadPrime ex_BadTable_BadTable ex_BadCells_BadPrime ex_BadCells_BadTable ex_BadCells_BadCells
  have G_refused := ok_refused (w := w) (base := base) T F_refused D_pick G_pick D_badtable G_badtable D_badcells G_badcells D_same G_same D_spoilt G_spoilt
  exact ok_law T F_law D_store G_store D_prime G_prime D_length G_length D_cellcount G_cellcount D_table G_table D_odds G_odds D_edge G_edge D_movesdue G_movesdue D_move_list G_move_list D_same G_same D_least_steps G_least_steps D_leastups G_leastups D_stretchof G_stretchof D_ran G_ran D_chain G_chain D_stretch G_stretch D_moves G_moves D_bent G_bent D_take G_take D_movesright G_movesright D_refused G_refused
end
theorem walk {l : PySem.W.OpenLaw} {q : Program} {loose : List Str} {XP : (Str → Option Value) → Heap → Prop} {YP : World → Heap → Prop} {d : DefRec} {K : Params → PySem.W.Frag} (hn : l.most = some 63) (hdf : d.params.defaults = [])
    (hY : ∀ (w : World) (h : Heap), YP w h → (K w.params).In h)
    (F : ∀ (w : World) (mg : Str → Option Value) (fa : Addr) (h : Heap), (K w.params).In h → h.Ns mainGlobals mg → mg d.name = some (.ref fa) →
      ∃ fd : FuncData, (∀ (s : Shared) (u : Value), BindsTo s fd ⟨[u], []⟩ [("script", u)]) ∧ ∀ base : Heap, (K w.params).In base → base.Ns mainGlobals mg → FnOk l.prog w (K w.params) mg base CX0 135 fa fd ["script"] (spLaw (K w.params))) :
    PySem.W.WalkO q loose XP YP l.row.toRowW d [] (fun f vs => PySem.call f vs) :=
  L2.walk_of (n := 63) (k := 135) (x := "script") (CX := fun _ => CX0) (sp := fun w => spLaw (K w.params)) hn (by decide) hdf ⟨rfl, by decide, by decide⟩ hY F (fun _ _ a ns hl _ hS => ⟨a, ns, rfl, hS, fun _ => rfl⟩) fun _ _ _ _ _ z => z
end K47

open PySem PySem.W PyProof.Rows
set_option maxRecDepth 100000 in
set_option maxHeartbeats 0 in
theorem PySem.Challenge.cw_holdingsshut_k47_moves_give_the_stretch_holds : PySem.Challenge.rw_holdingsshut_k47_moves_give_the_stretch.Holds := by
  w_on; o_law; k_head; (case hw => w_witness2)
  k_fill
  refine K47.walk (l := PySem.Challenge.rw_holdingsshut_k47_moves_give_the_stretch) rfl rfl (fun w h Y => PySem.W.kIn_of Y) ?F
  case F =>
    intro w mg fa h KX G hmg
    refine' K47.all_mk KX G hmg ?ptop ?a_is_whole ?l_is_whole ?c_is_whole ?k_is_whole ?a_lies_within ?l_lies_within ?c_lies_within ?k_lies_within ?a_is_prime ?l_is_prime ?c_is_prime ?k_is_prime ?a_need_prime ?l_need_prime ?c_need_prime ?k_need_prime ?a_choose ?l_choose ?c_choose ?k_choose ?a_check_table ?l_check_table ?c_check_table ?k_check_table ?a_chain ?l_chain ?c_chain ?k_chain ?a_stretch ?l_stretch ?c_stretch ?k_stretch ?a_fold ?l_fold ?c_fold ?k_fold ?a_need_cells ?l_need_cells ?c_need_cells ?k_need_cells ?a_rounds ?l_rounds ?c_rounds ?k_rounds ?a_least_steps ?l_least_steps ?c_least_steps ?k_least_steps ?a_best_stop ?l_best_stop ?c_best_stop ?k_best_stop ?a_move_list ?l_move_list ?c_move_list ?k_move_list ?a_write_moves ?l_write_moves ?c_write_moves ?k_write_moves ?a_check_moves ?l_check_moves ?c_check_moves ?k_check_moves ?a_is_move ?l_is_move ?c_is_move ?k_is_move ?a_run_moves ?l_run_moves ?c_run_moves ?k_run_moves ?a_store ?l_store ?c_store ?k_store ?a_mix ?l_mix ?c_mix ?k_mix ?a_take ?l_take ?c_take ?k_take ?a_edge ?l_edge ?c_edge ?k_edge ?a_odds ?l_odds ?c_odds ?k_odds ?a_pick ?l_pick ?c_pick ?k_pick ?a_put ?l_put ?c_put ?k_put ?a_primes ?l_primes ?c_primes ?k_primes ?a_prime ?l_prime ?c_prime ?k_prime ?a_table ?l_table ?c_table ?k_table ?a_badtable ?l_badtable ?c_badtable ?k_badtable ?a_length ?l_length ?c_length ?k_length ?a_cellcount ?l_cellcount ?c_cellcount ?k_cellcount ?a_badcells ?l_badcells ?c_badcells ?k_badcells ?a_moves ?l_moves ?c_moves ?k_moves ?a_play ?l_play ?c_play ?k_play ?a_moveshape ?l_moveshape ?c_moveshape ?k_moveshape ?a_leastups ?l_leastups ?c_leastups ?k_leastups ?a_stretchof ?l_stretchof ?c_stretchof ?k_stretchof ?a_isint ?l_isint ?c_isint ?k_isint ?a_same ?l_same ?c_same ?k_same ?a_copyof ?l_copyof ?c_copyof ?k_copyof ?a_bent ?l_bent ?c_bent ?k_bent ?a_stop ?l_stop ?c_stop ?k_stop ?a_movesdue ?l_movesdue ?c_movesdue ?k_movesdue ?a_ran ?l_ran ?c_ran ?k_ran ?a_checked ?l_checked ?c_checked ?k_checked ?a_movesright ?l_movesright ?c_movesright ?k_movesright ?a_door ?l_door ?c_door ?k_door ?a_spoilt ?l_spoilt ?c_spoilt ?k_spoilt ?a_refused ?l_refused ?c_refused ?k_refused ?a_law ?l_law ?c_law ?k_law ?b_int ?b_bool ?b_isinstance ?b_range ?b_min ?b_max ?b_abs ?b_len ?b_list ?b_str ?b_dict ?b_tuple ?b_enumerate ?b_all ?b_reversed ?b_super ?g_VaultError ?g_NumberError ?g_BadPrime ?g_BadTable ?g_BadCells ?g_ShapeError ?g_PaperError ?g_BadMove ?gc_GREATEST_PRIME ?N_th ?N_sp ?N_tk ?L_lV ?L_cV ?L_tV ?L_fV ?x_b ?x_i ?x_t ?xL_BadMove ?sa_BadMove ?ga_BadMove ?gg_BadMove ?cl_BadMove ?mo_BadMove ?nw_BadMove ?ex_BadMove ?ty_BadMove ?kp_BadMove ?hd_BadMove ?nn_BadMove ?xb_BadMove ?iC_BadMove ?tI_BadMove ?up_BadMove ?lI_BadMove ?cI_BadMove ?lcd_BadMove ?fl_BadMove ?lcc_BadMove ?me_BadMove ?nc_at_BadMove ?xs_BadMove ?q_VaultError_BadMove ?q_NumberError_BadMove ?q_BadPrime_BadMove ?q_BadTable_BadMove ?q_BadCells_BadMove ?q_ShapeError_BadMove ?q_PaperError_BadMove ?q_BadMove_BadMove ?q_Value_BadMove ?no_cells_BadMove ?no_value_BadMove ?no_which_BadMove ?xL_BadCells ?sa_BadCells ?ga_BadCells ?gg_BadCells ?cl_BadCells ?mo_BadCells ?nw_BadCells ?ex_BadCells ?ty_BadCells ?kp_BadCells ?hd_BadCells ?nn_BadCells ?xb_BadCells ?iC_BadCells ?tI_BadCells ?up_BadCells ?lI_BadCells ?cI_BadCells ?lcd_BadCells ?fl_BadCells ?lcc_BadCells ?me_BadCells ?nc_cells_BadCells ?xs_BadCells ?q_VaultError_BadCells ?q_NumberError_BadCells ?q_BadPrime_BadCells ?q_BadTable_BadCells ?q_BadCells_BadCells ?q_ShapeError_BadCells ?q_PaperError_BadCells ?q_BadMove_BadCells ?q_Value_BadCells ?no_at_BadCells ?no_value_BadCells ?no_which_BadCells ?xL_BadPrime ?sa_BadPrime ?ga_BadPrime ?gg_BadPrime ?cl_BadPrime ?mo_BadPrime ?nw_BadPrime ?ex_BadPrime ?ty_BadPrime ?kp_BadPrime ?hd_BadPrime ?nn_BadPrime ?xb_BadPrime ?iC_BadPrime ?tI_BadPrime ?up_BadPrime ?lI_BadPrime ?cI_BadPrime ?lcd_BadPrime ?fl_BadPrime ?lcc_BadPrime ?me_BadPrime ?nc_value_BadPrime ?xs_BadPrime ?q_VaultError_BadPrime ?q_NumberError_BadPrime ?q_BadPrime_BadPrime ?q_BadTable_BadPrime ?q_BadCells_BadPrime ?q_ShapeError_BadPrime ?q_PaperError_BadPrime ?q_BadMove_BadPrime ?q_Value_BadPrime ?no_at_BadPrime ?no_cells_BadPrime ?no_which_BadPrime ?xL_BadTable ?sa_BadTable ?ga_BadTable ?gg_BadTable ?cl_BadTable ?mo_BadTable ?nw_BadTable ?ex_BadTable ?ty_BadTable ?kp_BadTable ?hd_BadTable ?nn_BadTable ?xb_BadTable ?iC_BadTable ?tI_BadTable ?up_BadTable ?lI_BadTable ?cI_BadTable ?lcd_BadTable ?fl_BadTable ?lcc_BadTable ?me_BadTable ?nc_which_BadTable ?xs_BadTable ?q_VaultError_BadTable ?q_NumberError_BadTable ?q_BadPrime_BadTable ?q_BadTable_BadTable ?q_BadCells_BadTable ?q_ShapeError_BadTable ?q_PaperError_BadTable ?q_BadMove_BadTable ?q_Value_BadTable ?no_at_BadTable ?no_cells_BadTable ?no_value_BadTable ?xi_BadCells ?xi_BadMove ?xi_BadPrime ?xi_BadTable ?xs_BadMove_BadMove ?xs_BadPrime_BadPrime ?xs_BadTable_BadPrime ?xs_BadTable_BadTable ?xs_BadCells_BadPrime ?xs_BadCells_BadTable ?xs_BadCells_BadCells
    (case ptop => first | rfl | decide +kernel)
    (case a_is_whole => k_is)
    (case l_is_whole => k_is)
    (case c_is_whole => k_is)
    (case k_is_whole => k_is)
    (case a_lies_within => k_is)
    (case l_lies_within => k_is)
    (case c_lies_within => k_is)
    (case k_lies_within => k_is)
    (case a_is_prime => k_is)
    (case l_is_prime => k_is)
    (case c_is_prime => k_is)
    (case k_is_prime => k_is)
    (case a_need_prime => k_is)
    (case l_need_prime => k_is)
    (case c_need_prime => k_is)
    (case k_need_prime => k_is)
    (case a_choose => k_is)
    (case l_choose => k_is)
    (case c_choose => k_is)
    (case k_choose => k_is)
    (case a_check_table => k_is)
    (case l_check_table => k_is)
    (case c_check_table => k_is)
    (case k_check_table => k_is)
    (case a_chain => k_is)
    (case l_chain => k_is)
    (case c_chain => k_is)
    (case k_chain => k_is)
    (case a_stretch => k_is)
    (case l_stretch => k_is)
    (case c_stretch => k_is)
    (case k_stretch => k_is)
    (case a_fold => k_is)
    (case l_fold => k_is)
    (case c_fold => k_is)
    (case k_fold => k_is)
    (case a_need_cells => k_is)
    (case l_need_cells => k_is)
    (case c_need_cells => k_is)
    (case k_need_cells => k_is)
    (case a_rounds => k_is)
    (case l_rounds => k_is)
    (case c_rounds => k_is)
    (case k_rounds => k_is)
    (case a_least_steps => k_is)
    (case l_least_steps => k_is)
    (case c_least_steps => k_is)
    (case k_least_steps => k_is)
    (case a_best_stop => k_is)
    (case l_best_stop => k_is)
    (case c_best_stop => k_is)
    (case k_best_stop => k_is)
    (case a_move_list => k_is)
    (case l_move_list => k_is)
    (case c_move_list => k_is)
    (case k_move_list => k_is)
    (case a_write_moves => k_is)
    (case l_write_moves => k_is)
    (case c_write_moves => k_is)
    (case k_write_moves => k_is)
    (case a_check_moves => k_is)
    (case l_check_moves => k_is)
    (case c_check_moves => k_is)
    (case k_check_moves => k_is)
    (case a_is_move => k_is)
    (case l_is_move => k_is)
    (case c_is_move => k_is)
    (case k_is_move => k_is)
    (case a_run_moves => k_is)
    (case l_run_moves => k_is)
    (case c_run_moves => k_is)
    (case k_run_moves => k_is)
    (case a_store => k_is)
    (case l_store => k_is)
    (case c_store => k_is)
    (case k_store => k_is)
    (case a_mix => k_is)
    (case l_mix => k_is)
    (case c_mix => k_is)
    (case k_mix => k_is)
    (case a_take => k_is)
    (case l_take => k_is)
    (case c_take => k_is)
    (case k_take => k_is)
    (case a_edge => k_is)
    (case l_edge => k_is)
    (case c_edge => k_is)
    (case k_edge => k_is)
    (case a_odds => k_is)
    (case l_odds => k_is)
    (case c_odds => k_is)
    (case k_odds => k_is)
    (case a_pick => k_is)
    (case l_pick => k_is)
    (case c_pick => k_is)
    (case k_pick => k_is)
    (case a_put => k_is)
    (case l_put => k_is)
    (case c_put => k_is)
    (case k_put => k_is)
    (case a_primes => k_is)
    (case l_primes => k_is)
    (case c_primes => k_is)
    (case k_primes => k_is)
    (case a_prime => k_is)
    (case l_prime => k_is)
    (case c_prime => k_is)
    (case k_prime => k_is)
    (case a_table => k_is)
    (case l_table => k_is)
    (case c_table => k_is)
    (case k_table => k_is)
    (case a_badtable => k_is)
    (case l_badtable => k_is)
    (case c_badtable => k_is)
    (case k_badtable => k_is)
    (case a_length => k_is)
    (case l_length => k_is)
    (case c_length => k_is)
    (case k_length => k_is)
    (case a_cellcount => k_is)
    (case l_cellcount => k_is)
    (case c_cellcount => k_is)
    (case k_cellcount => k_is)
    (case a_badcells => k_is)
    (case l_badcells => k_is)
    (case c_badcells => k_is)
    (case k_badcells => k_is)
    (case a_moves => k_is)
    (case l_moves => k_is)
    (case c_moves => k_is)
    (case k_moves => k_is)
    (case a_play => k_is)
    (case l_play => k_is)
    (case c_play => k_is)
    (case k_play => k_is)
    (case a_moveshape => k_is)
    (case l_moveshape => k_is)
    (case c_moveshape => k_is)
    (case k_moveshape => k_is)
    (case a_leastups => k_is)
    (case l_leastups => k_is)
    (case c_leastups => k_is)
    (case k_leastups => k_is)
    (case a_stretchof => k_is)
    (case l_stretchof => k_is)
    (case c_stretchof => k_is)
    (case k_stretchof => k_is)
    (case a_isint => k_is)
    (case l_isint => k_is)
    (case c_isint => k_is)
    (case k_isint => k_is)
    (case a_same => k_is)
    (case l_same => k_is)
    (case c_same => k_is)
    (case k_same => k_is)
    (case a_copyof => k_is)
    (case l_copyof => k_is)
    (case c_copyof => k_is)
    (case k_copyof => k_is)
    (case a_bent => k_is)
    (case l_bent => k_is)
    (case c_bent => k_is)
    (case k_bent => k_is)
    (case a_stop => k_is)
    (case l_stop => k_is)
    (case c_stop => k_is)
    (case k_stop => k_is)
    (case a_movesdue => k_is)
    (case l_movesdue => k_is)
    (case c_movesdue => k_is)
    (case k_movesdue => k_is)
    (case a_ran => k_is)
    (case l_ran => k_is)
    (case c_ran => k_is)
    (case k_ran => k_is)
    (case a_checked => k_is)
    (case l_checked => k_is)
    (case c_checked => k_is)
    (case k_checked => k_is)
    (case a_movesright => k_is)
    (case l_movesright => k_is)
    (case c_movesright => k_is)
    (case k_movesright => k_is)
    (case a_door => k_is)
    (case l_door => k_is)
    (case c_door => k_is)
    (case k_door => k_is)
    (case a_spoilt => k_is)
    (case l_spoilt => k_is)
    (case c_spoilt => k_is)
    (case k_spoilt => k_is)
    (case a_refused => k_is)
    (case l_refused => k_is)
    (case c_refused => k_is)
    (case k_refused => k_is)
    (case a_law => k_is)
    (case l_law => k_is)
    (case c_law => k_is)
    (case k_law => k_is)
    (case b_int => k_is)
    (case b_bool => k_is)
    (case b_isinstance => k_is)
    (case b_range => k_is)
    (case b_min => k_is)
    (case b_max => k_is)
    (case b_abs => k_is)
    (case b_len => k_is)
    (case b_list => k_is)
    (case b_str => k_is)
    (case b_dict => k_is)
    (case b_tuple => k_is)
    (case b_enumerate => k_is)
    (case b_all => k_is)
    (case b_reversed => k_is)
    (case b_super => k_is)
    (case g_VaultError => k_is)
    (case g_NumberError => k_is)
    (case g_BadPrime => k_is)
    (case g_BadTable => k_is)
    (case g_BadCells => k_is)
    (case g_ShapeError => k_is)
    (case g_PaperError => k_is)
    (case g_BadMove => k_is)
    (case gc_GREATEST_PRIME => k_is)
    (case N_th => k_is)
    (case N_sp => k_is)
    (case N_tk => k_is)
    (case x_b => k_is)
    (case x_i => k_is)
    (case x_t => k_is)
    (case xL_BadMove => k_is)
    (case sa_BadMove => k_is)
    (case ga_BadMove => k_is)
    (case gg_BadMove => k_is)
    (case cl_BadMove => k_is)
    (case mo_BadMove => k_is)
    (case nw_BadMove => k_is)
    (case ex_BadMove => k_is)
    (case ty_BadMove => k_is)
    (case kp_BadMove => k_is)
    (case hd_BadMove => k_is)
    (case nn_BadMove => k_is)
    (case xb_BadMove => first | rfl | decide +kernel)
    (case iC_BadMove => k_is)
    (case tI_BadMove => k_is)
    (case up_BadMove => ks_is)
    (case lI_BadMove => k_is)
    (case cI_BadMove => k_is)
    (case lcd_BadMove => k_is)
    (case fl_BadMove => rfl)
    (case lcc_BadMove => k_is)
    (case me_BadMove => k_is)
    (case nc_at_BadMove => k_is)
    (case xs_BadMove => k_is)
    (case q_VaultError_BadMove => first | k_is | kit_is)
    (case q_NumberError_BadMove => first | k_is | kit_is)
    (case q_BadPrime_BadMove => first | k_is | kit_is)
    (case q_BadTable_BadMove => first | k_is | kit_is)
    (case q_BadCells_BadMove => first | k_is | kit_is)
    (case q_ShapeError_BadMove => first | k_is | kit_is)
    (case q_PaperError_BadMove => first | k_is | kit_is)
    (case q_BadMove_BadMove => first | k_is | kit_is)
    (case q_Value_BadMove => first | k_is | kit_is)
    (case no_cells_BadMove => k_is)
    (case no_value_BadMove => k_is)
    (case no_which_BadMove => k_is)
    (case xL_BadCells => k_is)
    (case sa_BadCells => k_is)
    (case ga_BadCells => k_is)
    (case gg_BadCells => k_is)
    (case cl_BadCells => k_is)
    (case mo_BadCells => k_is)
    (case nw_BadCells => k_is)
    (case ex_BadCells => k_is)
    (case ty_BadCells => k_is)
    (case kp_BadCells => k_is)
    (case hd_BadCells => k_is)
    (case nn_BadCells => k_is)
    (case xb_BadCells => first | rfl | decide +kernel)
    (case iC_BadCells => k_is)
    (case tI_BadCells => k_is)
    (case up_BadCells => ks_is)
    (case lI_BadCells => k_is)
    (case cI_BadCells => k_is)
    (case lcd_BadCells => k_is)
    (case fl_BadCells => rfl)
    (case lcc_BadCells => k_is)
    (case me_BadCells => k_is)
    (case nc_cells_BadCells => k_is)
    (case xs_BadCells => k_is)
    (case q_VaultError_BadCells => first | k_is | kit_is)
    (case q_NumberError_BadCells => first | k_is | kit_is)
    (case q_BadPrime_BadCells => first | k_is | kit_is)
    (case q_BadTable_BadCells => first | k_is | kit_is)
    (case q_BadCells_BadCells => first | k_is | kit_is)
    (case q_ShapeError_BadCells => first | k_is | kit_is)
    (case q_PaperError_BadCells => first | k_is | kit_is)
    (case q_BadMove_BadCells => first | k_is | kit_is)
    (case q_Value_BadCells => first | k_is | kit_is)
    (case no_at_BadCells => k_is)
    (case no_value_BadCells => k_is)
    (case no_which_BadCells => k_is)
    (case xL_BadPrime => k_is)
    (case sa_BadPrime => k_is)
    (case ga_BadPrime => k_is)
    (case gg_BadPrime => k_is)
    (case cl_BadPrime => k_is)
    (case mo_BadPrime => k_is)
    (case nw_BadPrime => k_is)
    (case ex_BadPrime => k_is)
    (case ty_BadPrime => k_is)
    (case kp_BadPrime => k_is)
    (case hd_BadPrime => k_is)
    (case nn_BadPrime => k_is)
    (case xb_BadPrime => first | rfl | decide +kernel)
    (case iC_BadPrime => k_is)
    (case tI_BadPrime => k_is)
    (case up_BadPrime => ks_is)
    (case lI_BadPrime => k_is)
    (case cI_BadPrime => k_is)
    (case lcd_BadPrime => k_is)
    (case fl_BadPrime => rfl)
    (case lcc_BadPrime => k_is)
    (case me_BadPrime => k_is)
    (case nc_value_BadPrime => k_is)
    (case xs_BadPrime => k_is)
    (case q_VaultError_BadPrime => first | k_is | kit_is)
    (case q_NumberError_BadPrime => first | k_is | kit_is)
    (case q_BadPrime_BadPrime => first | k_is | kit_is)
    (case q_BadTable_BadPrime => first | k_is | kit_is)
    (case q_BadCells_BadPrime => first | k_is | kit_is)
    (case q_ShapeError_BadPrime => first | k_is | kit_is)
    (case q_PaperError_BadPrime => first | k_is | kit_is)
    (case q_BadMove_BadPrime => first | k_is | kit_is)
    (case q_Value_BadPrime => first | k_is | kit_is)
    (case no_at_BadPrime => k_is)
    (case no_cells_BadPrime => k_is)
    (case no_which_BadPrime => k_is)
    (case xL_BadTable => k_is)
    (case sa_BadTable => k_is)
    (case ga_BadTable => k_is)
    (case gg_BadTable => k_is)
    (case cl_BadTable => k_is)
    (case mo_BadTable => k_is)
    (case nw_BadTable => k_is)
    (case ex_BadTable => k_is)
    (case ty_BadTable => k_is)
    (case kp_BadTable => k_is)
    (case hd_BadTable => k_is)
    (case nn_BadTable => k_is)
    (case xb_BadTable => first | rfl | decide +kernel)
    (case iC_BadTable => k_is)
    (case tI_BadTable => k_is)
    (case up_BadTable => ks_is)
    (case lI_BadTable => k_is)
    (case cI_BadTable => k_is)
    (case lcd_BadTable => k_is)
    (case fl_BadTable => rfl)
    (case lcc_BadTable => k_is)
    (case me_BadTable => k_is)
    (case nc_which_BadTable => k_is)
    (case xs_BadTable => k_is)
    (case q_VaultError_BadTable => first | k_is | kit_is)
    (case q_NumberError_BadTable => first | k_is | kit_is)
    (case q_BadPrime_BadTable => first | k_is | kit_is)
    (case q_BadTable_BadTable => first | k_is | kit_is)
    (case q_BadCells_BadTable => first | k_is | kit_is)
    (case q_ShapeError_BadTable => first | k_is | kit_is)
    (case q_PaperError_BadTable => first | k_is | kit_is)
    (case q_BadMove_BadTable => first | k_is | kit_is)
    (case q_Value_BadTable => first | k_is | kit_is)
    (case no_at_BadTable => k_is)
    (case no_cells_BadTable => k_is)
    (case no_value_BadTable => k_is)
    (case xi_BadCells => k_is)
    (case xi_BadMove => k_is)
    (case xi_BadPrime => k_is)
    (case xi_BadTable => k_is)
    (case xs_BadMove_BadMove => k_is)
    (case xs_BadPrime_BadPrime => k_is)
    (case xs_BadTable_BadPrime => k_is)
    (case xs_BadTable_BadTable => k_is)
    (case xs_BadCells_BadPrime => k_is)
    (case xs_BadCells_BadTable => k_is)
    (case xs_BadCells_BadCells => k_is)
    (case L_lV => k_is)
    (case L_cV => k_is)
    (case L_tV => k_is)
    (case L_fV => k_is)
