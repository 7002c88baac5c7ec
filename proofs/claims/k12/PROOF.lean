import PyProof.Rows.All
import Wide.All
import OpenK.AllK
import Wide.FinOn
import KE.KTypeName
import KE.KSuper
import KE.KExcIs
import HandS.Base
import HandS.Call
import HandS.Exc
import HandS.ExcOwn
import HandS.ForExc
import HandS.Text
import HandS.ExcInit
import HandS.ForMost
import HandS.HotCalls
import HandS.ExcCtx
import HandS.IsInst
import HandS.ExcIs
import HandS.ExcField
import HandS.Comp
import HandS.Rev
import HandS.RevTup
import PyProof.ListRange
import HandS.DeepEq
import HandS.Iter
import KE.GoesEnum
import HandS.Ends
import PyProof.ReprRoads
import HandS.Wide
import PySem.Challenge.RW_holdingsshut_k12_move_lists_played
set_option Elab.async false
set_option maxRecDepth 100000
set_option Elab.async false
set_option linter.all false
set_option maxRecDepth 100000
set_option maxHeartbeats 2000000
namespace PySem
namespace VX
open PySem.W PySem.Calls PyProof.Rows PySem.HandSPX Builtin Builtin.ObjectAttr Builtin.Getset_descriptor
section
variable {prog : Program} {w : World} {A : Around} {E : Value → Shared → Prop} {R : Result → Shared → Prop} {s : Shared} {K : Frag} {C : Addr} {oC : Obj} {nm : Value}
theorem name_got (X : K.In s.heap) (hC : K.lookup C = some oC) (hs : oC.slots[2]? = some (some nm)) (ht : typeIn K (.ref C) = some (.type "type")) (h : R (.ok (.ret nm)) s) :
    codeAny (model prog w) A (.call (.builtin "getset_descriptor.__get__") ⟨[.builtin "type.__name__", .ref C, .type "type"], []⟩) R s := by
  obtain ⟨hh, g, dr, t, os⟩ := s
  have L0 : Looks (model prog w) hh (typeOf (.ref C)) (.type "type") := looks_typeIn X ht
  have L1 : Looks (model prog w) hh (isSubtype (.type "type") (.type "type")) true := Looks.of_pure (by rw [isSubtype_type]; kernel_rfl)
  have hg : hh.get? C = some oC := X _ _ hC
  refine codeAny_call_builtin KF.slot_gs.plain KF.entry_gs (KF.slot_gs.check _ _ _ _ _ _ _ _ ktyn_type (KF.args_gs _ _ _) ?_)
  unfold Builtin.«getset_descriptor.__get__» descrGet
  rw [show descrGetArgs ⟨[.builtin "type.__name__", .ref C, .type "type"], []⟩ = pure (.builtin "type.__name__", some (.ref C), given (.type "type")) from by kernel_rfl]
  refine wpAny_bind (wpAny_pure ?_)
  unfold descrGetter descrCheckInstance descrNameAndClass isInstance
  simp only [ktyn_owner]
  repeat lk
  refine ⟨Code.quiet_builtin _ (by decide +kernel), codeAny_builtin ktyn_entry ?_⟩
  unfold Builtin.«type.__name__» Builtin.keptObject slotAt
  dsimp only
  refine wpAny_bind (wpAny_bind (wpAny_loadPart_at hg ?_))
  refine wpAny_pure ?_
  rw [hs]
  first | exact wpAny_pure h | exact wpAny_pure (wpAny_pure h)
/-- self.__class__.__name__'s second step -/
theorem name_attr {expr : Bool} {Q : Value → Shared → Prop} (X : K.In s.heap) (hC : K.lookup C = some oC) (hs : oC.slots[2]? = some (some nm)) (ht : typeIn K (.ref C) = some (.type "type"))
    (ho : nsIn K cStatics "thirdparty.any" = some none) (hnm : handedIn nm = true)
    (e : findCls K (.ref C) (.type "type") "__name__" = some (.get (.builtin "getset_descriptor.__get__") (.builtin "type.__name__") (.ref C) (.type "type")))
    (h : Q nm { s with toks := s.toks + 1 }) : wpAny (model prog w) A (getAttr (.ref C) "__name__" expr) Q E s := by
  have hg : findIn K (.type "type") "__getattribute__" = some (some (.builtin "type.__getattribute__")) := type_tga
  refine cls_open X (looks_opaque X ho) (looks_typeIn X ht) hg (looks_hook X (r := none) (by rfl)) (by show subIn K _ _ = _; rfl) e ?_
  show wpAny _ _ (do ret (← holding [Value.builtin "type.__name__"] (call (.builtin "getset_descriptor.__get__") [.builtin "type.__name__", .ref C, .type "type"]))) _ _ _
  refine wpAny_bind (wpAny_holding (wpAny_call (name_got (s := { s with toks := s.toks + 1 }) X hC hs ht ?_)))
  exact wpAny_pure (handed_on hnm h)
/-- x.__class__, x an exception of the own class at C -/
theorem cls_attr {x : Addr} {ox : Obj} {od : Option Obj} {expr : Bool} {gt : Option Value} {Q : Value → Shared → Prop} (X : K.In s.heap) (I : InstAt s.heap x ox C od)
    (g1 : findIn K (.ref C) "__getattribute__" = some (some (.builtin "BaseException.__getattribute__"))) (g2 : findIn K (.ref C) "__getattr__" = some gt) (sb : subIn K (.ref C) (.type "BaseException") = some true)
    (fd : findObj K C od "__class__" = some (.bind (.builtin "getset_descriptor.__get__") (.builtin "object.__class__"))) (mo : mroIn K C (.type "object") = some true)
    (h : Q (.ref C) { s with toks := s.toks + 1 }) : wpAny (model prog w) A (getAttr (.ref x) "__class__" expr) Q E s := by
  obtain ⟨hp, gs, dn, tk, os⟩ := s
  have T := I.type (M := model prog w)
  have A1 := looks_findIn (M := model prog w) X g1
  have A2 := looks_findIn (M := model prog w) X g2
  have A3 := looks_find (M := model prog w) X I fd
  have S : Looks (model prog w) hp (isInstance (.ref x) (.type "BaseException")) true := T.andThen (looks_subIn X sb)
  have e0 : (expr && onTheHeap (Value.builtin "BaseException.__getattribute__")) = false := by
    cases expr <;> rfl
  have e1 : (onTheHeap (Value.ref C) && Value.builtin "BaseException.__getattribute__" == Value.builtin "object.__getattribute__") = false := by
    rw [show (Value.builtin "BaseException.__getattribute__" == Value.builtin "object.__getattribute__") = false from by decide +kernel]
    rfl
  unfold getAttr getAttrBy
  refine wpAny_bind (wpAny_mkText (wpAny_holding (wpAny_bind (T.at (wpAny_bind (A1.at ?_))))))
  dsimp only
  rw [e1]
  rw [if_neg Bool.false_ne_true]
  unfold getAttrByItsOwn hookBefore
  refine wpAny_bind ?_
  have eo : onTheHeap (Value.ref C) = true := rfl
  rw [if_pos eo]
  refine A2.at (wpAny_bind (wpAny_attempt (wpAny_holding ?_)))
  unfold callGetattribute
  rw [e0]
  rw [if_neg Bool.false_ne_true]
  unfold boundAndCalled
  rw [PySem.F.excAttr_ValueError.ga.bind (.ref x)]
  refine wpAny_bind (wpAny_pure ?_)
  refine wpAny_call (codeAny_call_builtin (args := ⟨[.ref x, .str "__class__" tk], []⟩) PySem.F.excAttr_ValueError.ga.plain PySem.F.entry_bexc_ga ?_)
  refine @check_slot (model prog w) _ _ ⟨hp, gs, dn, tk + 1, os⟩ "BaseException.__getattribute__" "BaseException" "__getattribute__" (.ref x) [.str "__class__" tk] [] _
    (by decide +kernel) (by decide +kernel) S (PySem.F.args_bexc_ga (.ref x) (.str "__class__" tk)) ?_
  unfold Builtin.«object.__getattribute__»
  refine wpAny_bind (wpAny_of_eq (a := ((Value.ref x : Value), [Value.str "__class__" tk])) (by first | rfl | (simp only [slotArgs]; rfl)) ?_)
  refine wpAny_bind (wpAny_pure (wpAny_bind (T.at (wpAny_bind (A3.at ?_)))))
  refine wpAny_bind (wpAny_holding (wpAny_call (class_get (s := ⟨hp, gs, dn, tk + 1, os⟩) (ox := ox) (od := od) X I mo ?_)))
  refine wpAny_pure ?_
  show wpAny _ _ (handedOut (.ref C)) _ _ _
  exact handed_on rfl h
end
end VX
end PySem

set_option Elab.async false
set_option linter.all false
set_option maxRecDepth 100000
set_option maxHeartbeats 2000000
namespace PySem
namespace VX
open PySem.W PySem.Calls PyProof.Rows PySem.HandSPX
/-! ### the texts of the two kinds of __init__ -/
def rootArgs (p : Pos) : Arguments := { posonlyargs := [], args := [{ arg := "self", annotation := none, pos := p }], vararg := none, kwonlyargs := [], kw_defaults := [], kwarg := none, defaults := [] }
def rootBody (q : Nat → Pos) : List Stmt :=
  [.Assign [.Attribute (.Name "self" (q 0)) "word" (q 1)] (.Call (.Attribute (.Attribute (.Attribute (.Name "self" (q 2)) "__class__" (q 3)) "__name__" (q 4)) "lower" (q 5)) [] [] (q 6)) (q 7)]
def rootScope : Scope := { kind := .function, names := [(PySem.Str.ofString "self", .local)], isGenerator := false, isCoroutine := false, more := [] }
/-- the root's __init__ at fV -/
structure Root (K : Frag) (fV : Addr) : Prop where
  fn : ∃ (oc : Value) (od : Option Addr) (doc pm : Value) (an : Option Addr) (cdv ct : Value) (osl : Array (Option Value)) (p : Pos) (q : Nat → Pos),
    K.lookup fV = some ⟨oc, od, .func (fnOf "__init__" "VaultError.__init__" (rootArgs p) (rootBody q) rootScope .none .none doc pm an cdv ct), osl⟩ ∧ codeIn K cdv "VaultError.__init__" = true ∧ ((q 5).endLine == (q 6).line) = true
  ty : typeIn K (.ref fV) = some (.type "function")
/-- an exception class below the root, its name nm -/
structure Kind (K : Frag) (C : Addr) (nm : Str) : Prop where
  cls : ∃ q N bs bm sn sub ab col dd k0 k1 k3 k5 tk, K.lookup C = some (excClassObj nm q C N bs bm true sn sub ab col dd k0 k1 (some (.str nm tk)) k3 k5 "ValueError.__new__") ∧ refsVE bm = true
  sa : findIn K (.ref C) "__setattr__" = some (some (.builtin "object.__setattr__"))
  ga : findIn K (.ref C) "__getattribute__" = some (some (.builtin "BaseException.__getattribute__"))
  gg : findIn K (.ref C) "__getattr__" = some none
  cl : findIn K (.ref C) "__class__" = some (some (.builtin "object.__class__"))
  sp : specialIn K (.builtin "object.__class__") "__get__" = some (some (.builtin "getset_descriptor.__get__"))
  tk : takesIn K (.builtin "object.__class__") = some true
  mo : mroIn K C (.type "object") = some true
  nw : findIn K (.ref C) "word" = some none
  ex : subIn K (.ref C) (.type "BaseException") = some true
  ty : typeIn K (.ref C) = some (.type "type")
  kp : keepIn K (.ref C) = true
  hd : hasDictIn K C = true
  nn : findCls K (.ref C) (.type "type") "__name__" = some (.get (.builtin "getset_descriptor.__get__") (.builtin "type.__name__") (.ref C) (.type "type"))
  th : nsIn K cStatics "thirdparty.any" = some none
  sz : nm.length ≤ 1000
theorem Kind.cd {K : Frag} {C : Addr} {nm : Str} (T : Kind K C nm) : ∃ cd, clsIn K C = some cd ∧ refsVE cd.mro = true ∧ cd.hasDict = true := by
  obtain ⟨q, N, bs, bm, sn, sub, ab, col, dd, k0, k1, k3, k5, tk, hC, hb⟩ := T.cls
  refine ⟨{ name := nm, bases := bs, mro := .ref C :: bm, ns := N, qualname := q, hasDict := true, slotNames := sn, subclasses := sub, abstract := ab, collection := col, hasDel := false }, ?_, hb, rfl⟩
  unfold clsIn
  rw [hC] <;> rfl
theorem Kind.some {K : Frag} {C : Addr} {nm : Str} (T : Kind K C nm) : (clsIn K C).isSome = true := by
  obtain ⟨cd, e, _⟩ := T.cd
  rw [e]
  rfl
section
variable {prog : Program} {w : World} {A : Around} {E : Value → Shared → Prop} {R : Result → Shared → Prop} {s : Shared} {K : Frag} {C fV : Addr} {nm : Str}
theorem ld {M : Model} {s : Shared} {env : Env} {m : Str → Option Value} {x : Str} {pos : Pos} {v : Value} {Q : Value → Shared → Prop} {A : Around} {E : Value → Shared → Prop} (hn : s.heap.Ns env.locals m) (hv : m x = Option.some v) (h : Q v s)
    (hk : env.scope.kind = .function := by rfl) (hl : env.kindOf x = Option.some .local := by rfl) (hd : (x == ("__debug__" : Str)) = false := by decide) : wpAny M A (eval (.Name x pos) env) Q E s :=
  wpAny_Name (wpAny_loadName_local hk hl hn hv h) hd
/-- what the root's __init__ leaves of the fresh exception at x -/
structure Begun (h h' : Heap) (x C dx t0 : Addr) (nm : Str) : Prop where
  keep : ∀ b o, b ≠ x → h.get? b = some o → h'.get? b = some o
  obj : h'.get? x = some { cls := .ref C, dict := some dx, data := .fields #[.ref t0, .none, .none, .none, .bool false, .none] }
  big : h.objs.size ≤ dx
  ne : dx ≠ x
  ns : ∃ tk, h'.Ns1 dx (fun y => if y = "word" then some (.str (Txt.lower nm) tk) else none)
theorem init_root (V : Root K fV) (T : Kind K C nm) {x t0 : Addr} (X : K.In s.heap) (hlim : s.heap.NoLimit) (hx : s.heap.get? x = some (excO C t0)) (hroom : A.depth < recursionLimit)
    (hq : ∀ h' tk dx, Begun s.heap h' x C dx t0 nm → R (.ok (.ret .none)) { s with heap := h', toks := tk }) :
    codeAny (model prog w) A (.call (.ref fV) ⟨[.ref x], []⟩) R s := by
  obtain ⟨oc, od, doc, pm, an, cdv, ct, osl, p, q, ho, hcd, hln⟩ := V.fn
  obtain ⟨cd, hcl, hre, hdi⟩ := T.cd
  obtain ⟨qq, N, bs, bm, sn, sub, ab, col, dd, k0, k1, k3, k5, tk0, hC, hb⟩ := T.cls
  refine Att.call_fn (binds := [("self", .ref x)]) X hlim ho hcd hroom (BindsTo.of_eq (by first | rfl | with_unfolding_all rfl)) (by first | rfl | decide | with_unfolding_all rfl) (fun s₁ IC => ?_) rfl rfl rfl
  obtain ⟨h₁, tk₁, rfl⟩ := IC.toInCall.same
  have k : ∀ b o, s.heap.get? b = some o → h₁.get? b = some o := IC.toInCall.keep
  have hn := IC.toInCall.ns
  have X₁ : K.In h₁ := X.keeps k
  have hx₁ := k _ _ hx
  have I : W.InstAt h₁ x (excO C t0) C none := ⟨hx₁, rfl, rfl, trivial⟩
  have fd : findObj K C none "__class__" = some (.bind (.builtin "getset_descriptor.__get__") (.builtin "object.__class__")) := findObj_dataE T.some T.cl T.sp T.tk
  show wpAny _ _ (execs _ _) _ _ _
  refine wpAny_execs_cons (plainObj_wpAny_Assign_Attribute ?_)
  refine wpAny_Call_method0_late (by first | rfl | with_unfolding_all rfl) hln ?_
  refine L2.attr_of (by first | rfl | with_unfolding_all rfl) (L2.attr_of (by first | rfl | with_unfolding_all rfl) (ld (v := .ref x) hn (by first | rfl | with_unfolding_all rfl | kernel_rfl) ?_))
  refine cls_attr X₁ I T.ga T.gg T.ex fd T.mo ?_
  refine name_attr X₁ hC (by rfl) T.ty T.th (by rfl) T.nn ?_
  refine ⟨"str", "str.lower", F.plainAttrs_str, F.slot_str_lower, F.type_str_lower, typeIs_str _ _ _, (fun _ e => nomatch e), ?_⟩
  refine Calls.callWith_builtin rfl (PySem.evalArgs_none ?_)
  refine PySem.SC.lower (PyProof.Rows.short24 (by have h1 := T.sz; have h2 := PyProof.Rows.len_lower nm; omega)) ?_
  refine ld (v := .ref x) hn (by first | rfl | with_unfolding_all rfl | kernel_rfl) ?_
  refine set_plain X₁ (ox := excO C t0) (od := none) ⟨hx₁, rfl, rfl, trivial⟩ T.sa ?_
  refine exc_osa X₁ hx₁ hcl hre hdi T.nw (fun h₃ tk₃ dx k₃ dn dne hx₃ hn₃ => ?_)
  show wpAny _ _ (execs _ _) _ _ _
  have z : s.heap.objs.size < h₁.objs.size := hn.lt
  refine wpAny_execs_nil (hq h₃ tk₃ dx ⟨fun b o hb e => k₃ b o hb (k b o e), hx₃, ?_, dne, _, hn₃⟩)
  exact Nat.le_of_lt (Nat.lt_of_lt_of_le z dn)
end
end VX
end PySem

set_option Elab.async false
set_option linter.all false
set_option maxRecDepth 100000
set_option maxHeartbeats 2000000
namespace PySem
namespace VX
open PySem.W PySem.Calls PyProof.Rows PySem.HandSPX
inductive Stores : List Str → List Stmt → Prop
  | nil : Stores [] []
  | cons {f : Str} {fs : List Str} {st : List Stmt} (p1 p2 p3 p4 : Pos) : Stores fs st → Stores (f :: fs) (.Assign [.Attribute (.Name "self" p1) f p2] (.Name f p3) p4 :: st)
def putNs : List (Str × Value) → (Str → Option Value) → Str → Option Value
  | [], m => m
  | (f, v) :: r, m => putNs r (fun y => if y = f then some v else m y)
theorem In_but {K : Frag} {h h' : Heap} {x : Addr} (X : K.In h) (hx : K.lookup x = none) (k : ∀ b o, b ≠ x → h.get? b = some o → h'.get? b = some o) : K.In h' := fun a o e =>
  k a o (fun z => by
    rw [z] at e
    rw [show List.lookup x K = none from hx] at e
    cases e) (X a o e)
theorem notIn_of {K : Frag} {h : Heap} {x : Addr} (X : K.In h) (hx : h.objs.size ≤ x) : K.lookup x = none := by
  cases e : K.lookup x with
  | none => rfl
  | some o => exact absurd (Nat.lt_of_lt_of_le (Heap.lt_size (X _ _ e)) hx) (Nat.lt_irrefl _)
section
variable {prog : Program} {w : World} {A : Around} {E : Value → Shared → Prop} {K : Frag} {C : Addr} {nm : Str}
theorem stores_ok (T : Kind K C nm) {x dx : Addr} {fv : Array Value} {env : Env} {m : Str → Option Value} {Q : Flow → Shared → Prop} (hk : env.scope.kind = .function) (hself : m "self" = some (.ref x)) (ls : env.kindOf "self" = some .local) (hKd : K.lookup dx = none) (hxd : x ≠ dx) (hLd : env.locals ≠ dx) :
    ∀ (kvs : List (Str × Value)) (body : List Stmt) (m0 : Str → Option Value) (nl : List Str) (s : Shared), Stores (kvs.map (·.1)) body →
      (∀ p ∈ kvs, m p.1 = some p.2 ∧ findIn K (.ref C) p.1 = some none ∧ env.kindOf p.1 = some .local ∧ (p.1 == ("__debug__" : Str)) = false) →
      K.In s.heap → s.heap.Ns env.locals m → s.heap.get? x = some { cls := .ref C, dict := some dx, data := .fields fv } → s.heap.Ns1 dx m0 → Within m0 nl → nl.length + kvs.length ≤ 1000 →
      (∀ h' tk, (∀ b o, b ≠ dx → s.heap.get? b = some o → h'.get? b = some o) → h'.Ns1 dx (putNs kvs m0) → Q .next { s with heap := h', toks := tk }) → wpAny (model prog w) A (execs body env) Q E s := by
  intro kvs
  induction kvs with
  | nil =>
    intro body m0 nl s hb _ X hn hx hd hw hl hq
    cases hb
    exact wpAny_execs_nil (hq s.heap s.toks (fun _ _ _ e => e) hd)
  | cons p kvs ih =>
    intro body m0 nl s hb hp X hn hx hd hw hl hq
    obtain ⟨f, v⟩ := p
    cases hb with
    | cons p1 p2 p3 p4 hb =>
      obtain ⟨e1, e2, e3, e4⟩ := hp _ List.mem_cons_self
      obtain ⟨cd, hcl, hre, hdi⟩ := T.cd
      obtain ⟨oD, _, _, hoD, _, _⟩ := hd.count hw
      obtain ⟨hp0, g, d, t, os⟩ := s
      refine wpAny_execs_cons (plainObj_wpAny_Assign_Attribute ?_)
      refine ld (v := v) hn e1 ?_ hk e3 e4
      refine ld (v := .ref x) hn hself ?_ hk ls (by decide)
      refine set_plain X (ox := { cls := .ref C, dict := some dx, data := .fields fv }) (od := some oD) ⟨hx, rfl, rfl, hoD⟩ T.sa ?_
      refine OEX.osa_old X hx hd hw (by have := hl; rw [List.length_cons] at this; omega) hcl hre hdi e2 (fun h₃ tk₃ k₃ hn₃ => ?_)
      have keepL : h₃.Ns env.locals m := hn.at fun o q => k₃ _ _ hLd q
      refine ih _ _ (f :: nl) ⟨h₃, g, d, tk₃, os⟩ hb (fun q hq' => hp q (List.mem_cons_of_mem _ hq')) (In_but X hKd k₃) keepL (k₃ _ _ hxd hx) hn₃ (Within.cons f v hw) (by rw [List.length_cons] at hl ⊢; omega) fun h' tk k' n' => ?_
      exact hq h' tk (fun b o hb' e => k' b o hb' (k₃ b o hb' e)) n'
end
end VX
end PySem

set_option Elab.async false
set_option linter.all false
set_option maxRecDepth 100000
set_option maxHeartbeats 2000000
namespace PySem
namespace VX
open PySem.W PySem.Calls PyProof.Rows PySem.HandSPX
def leafArgs (p : Pos) (fs : List (Str × Pos)) : Arguments := { posonlyargs := [], args := { arg := "self", annotation := none, pos := p } :: fs.map (fun y => { arg := y.1, annotation := none, pos := y.2 }), vararg := none, kwonlyargs := [], kw_defaults := [], kwarg := none, defaults := [] }
def leafBody (r : Nat → Pos) (st : List Stmt) : List Stmt := .Expr (.Call (.Attribute (.Call (.Name "super" (r 0)) [] [] (r 1)) "__init__" (r 2)) [] [] (r 3)) (r 4) :: st
def leafScope (fs : List Str) : Scope := { kind := .function, names := (PySem.Str.ofString "self", .local) :: (fs.map (fun f => (f, NameKind.local)) ++ [(PySem.Str.ofString "__class__", .free), (PySem.Str.ofString "super", .globalImplicit)]), isGenerator := false, isCoroutine := false, more := [] }
/-- a class that is raised: its own __init__ at fI, the cell of its __class__ at cc -/
structure Leaf (P : Program) (K : Frag) (mg : Str → Option Value) (C fV fI : Addr) (nm : Str) (fs : List Str) : Prop where
  kind : Kind K C nm
  root : Root K fV
  top : (P.main.scope.names.lookup ("super" : Str)).isSome = false
  ms : mg "super" = none
  iC : findIn K (.ref C) "__init__" = some (some (.ref fI))
  tI : typeIn K (.ref fI) = some (.type "function")
  up : ks_superIn K C C "__init__" = some (some (.ref fV))
  fV : fnIn K fV = true
  fn : ∃ (qual : Str) (oc : Value) (od : Option Addr) (doc pm : Value) (an : Option Addr) (ct : Value) (osl : Array (Option Value)) (cda cc : Addr) (p : Pos) (ps : List (Str × Pos)) (r : Nat → Pos) (st : List Stmt) (ccl : Value) (cdd : Option Addr) (ccs : Array (Option Value)) (vs : Array Value) (tf : Tok) (cl : Value) (cld : Option Addr) (csl : Array (Option Value)),
    K.lookup fI = some ⟨oc, od, .func (ksFn "__init__" qual (leafArgs p ps) (leafBody r st) (leafScope fs) .none .none doc pm an (.ref cda) ct cc), osl⟩ ∧ codeIn K (.ref cda) qual = true ∧
    K.lookup cda = some ⟨ccl, cdd, .fields vs, ccs⟩ ∧ vs[2]? = some (.str P.main.file tf) ∧ ((r 2).endLine == (r 3).line) = true ∧ K.lookup cc = some ⟨cl, cld, .cell (some (.ref C)), csl⟩ ∧ Stores fs st ∧
    (∀ (s : Shared) (x : Value) (us : List Value), us.length = fs.length → BindsTo s (ksFn "__init__" qual (leafArgs p ps) (leafBody r st) (leafScope fs) .none .none doc pm an (.ref cda) ct cc) ⟨x :: us, []⟩ ((("self" : Str) :: fs).zip (x :: us)))
  nf : ∀ f ∈ fs, findIn K (.ref C) f = some none ∧ (f == ("__debug__" : Str)) = false ∧ (leafScope fs).names.lookup f = some .local ∧ ¬ f = "self"
  nd : (("self" : Str) :: fs).Nodup
  few : fs.length ≤ 10
  ks : (leafScope fs).names.lookup ("super" : Str) = some .globalImplicit
  kc : (leafScope fs).names.lookup ("__class__" : Str) = some .free
  me : mroIn K C (.ref C) = some true
theorem look_mem {k : Str} {v : Value} : ∀ {l : List (Str × Value)}, (l.map (·.1)).Nodup → (k, v) ∈ l → l.lookup k = some v
  | [], _, h => by cases h
  | (a, b) :: l, nd, h => by
    rw [List.map_cons, List.nodup_cons] at nd
    rcases List.mem_cons.mp h with e | h
    · cases e
      simp [List.lookup]
    · have ne : ¬ k = a := fun z => nd.1 (by rw [← z]; exact List.mem_map_of_mem (f := (·.1)) h)
      have e : (k == a) = false := by simpa using ne
      show (match k == a with | true => some b | false => l.lookup k) = some v
      rw [e]
      exact look_mem nd.2 h
theorem look_rev {k : Str} {v : Value} {l : List (Str × Value)} (nd : (l.map (·.1)).Nodup) (h : (k, v) ∈ l) : l.reverse.lookup k = some v :=
  look_mem (by rw [List.map_reverse]; exact List.pairwise_reverse.mpr (nd.imp fun z => Ne.symm z)) (List.mem_reverse.mpr h)
theorem keys_zip {fs : List Str} {us : List Value} (h : us.length = fs.length) : (fs.zip us).map (·.1) = fs := by
  rw [List.map_fst_zip (by omega)]
section
variable {prog : Program} {w : World} {A : Around} {E : Value → Shared → Prop} {R : Result → Shared → Prop} {s : Shared} {K : Frag} {mg mb : Str → Option Value} {C fV fI : Addr} {nm : Str} {fs : List Str}
/-- what __init__ leaves of the fresh exception at x -/
structure Inited (h h' : Heap) (x C dx t0 : Addr) (nm : Str) (kvs : List (Str × Value)) : Prop where
  keep : ∀ b o, b ≠ x → h.get? b = some o → h'.get? b = some o
  obj : h'.get? x = some { cls := .ref C, dict := some dx, data := .fields #[.ref t0, .none, .none, .none, .bool false, .none] }
  big : h.objs.size ≤ dx
  ne : dx ≠ x
  ns : ∃ tk, h'.Ns1 dx (putNs kvs (fun y => if y = "word" then some (.str (Txt.lower nm) tk) else none))
theorem init_leaf (T : Leaf prog K mg C fV fI nm fs) (G : s.heap.Ns mainGlobals mg) (B : s.heap.Ns builtinsNs mb) (hb : mb "super" = bootBuiltins "super") {x t0 : Addr} {us : List Value} (hus : us.length = fs.length)
    (X : K.In s.heap) (hlim : s.heap.NoLimit) (hx : s.heap.get? x = some (excO C t0)) (hKx : K.lookup x = none) (hgx : mainGlobals ≠ x) (hroom : A.depth + 1 < recursionLimit)
    (hq : ∀ h' tk dx, Inited s.heap h' x C dx t0 nm (fs.zip us) → R (.ok (.ret .none)) { s with heap := h', toks := tk }) :
    codeAny (model prog w) A (.call (.ref fI) ⟨.ref x :: us, []⟩) R s := by
  obtain ⟨qual, oc, od, doc, pm, an, ct, osl, cda, cc, p, ps, r, st, ccl, cdd, ccs, vs, tf, cl, cld, csl, ho, hcd, hca, hfile, hln, hcc, hst, hbd⟩ := T.fn
  obtain ⟨cd, hcl, hre, hdi⟩ := T.kind.cd
  obtain ⟨qq, N, bs, bm, sn, sub, ab, col, dd, k0, k1, k3, k5, tk0, hC, hbm⟩ := T.kind.cls
  have hcd' : cd = { name := nm, bases := bs, mro := .ref C :: bm, ns := N, qualname := qq, hasDict := true, slotNames := sn, subclasses := sub, abstract := ab, collection := col, hasDel := false } := by
    have e := hcl
    unfold clsIn at e
    rw [hC] at e
    exact (Option.some.inj e).symm
  refine ks_codeAny_call_defAt (binds := (("self" : Str) :: fs).zip (.ref x :: us)) (by omega) (X _ _ ho) rfl hlim (codeRec_of X hcd) rfl (hbd s _ us hus) ?c1 ?c2 (fun h₁ hns hk₁ => ?_) rfl rfl rfl
  case c1 =>
    intro y hy
    have hy' : y ∈ (PySem.Str.ofString "self", NameKind.local) :: (fs.map (fun f => (f, NameKind.local)) ++ [(PySem.Str.ofString "__class__", .free), (PySem.Str.ofString "super", .globalImplicit)]) := hy
    rcases List.mem_cons.mp hy' with e | h
    · rw [e]
      exact fun z => NameKind.noConfusion z
    · rcases List.mem_append.mp h with h | h
      · obtain ⟨f, _, e⟩ := List.mem_map.mp h
        rw [← e]
        exact fun z => NameKind.noConfusion z
      · rcases List.mem_cons.mp h with e | h
        · rw [e]
          exact fun z => NameKind.noConfusion z
        · rcases List.mem_cons.mp h with e | h
          · rw [e]
            exact fun z => NameKind.noConfusion z
          · cases h
  case c2 =>
    rintro ⟨y, u⟩ hy
    rcases List.mem_cons.mp (List.of_mem_zip hy).1 with e | h
    · rw [show y = "self" from e]
      rfl
    · exact (T.nf y h).2.2.1
  have X₁ : K.In h₁ := X.keeps hk₁
  have ndz : ((((("self" : Str) :: fs).zip (.ref x :: us)).map (·.1))).Nodup := by
    rw [keys_zip (by rw [List.length_cons, List.length_cons, hus])]
    exact T.nd
  have hx₁ := hk₁ _ _ hx
  refine ks_wpAt_execs_cons (ks_wpAt_Expr_any (ks_wpAt_MethodCall (pl := ?pl) (h := ?_) (he := ?he)))
  case he =>
    rw [arm_eval_Call]
    unfold methodCall
    have hp : ∀ env : Env, methodCallPos true (.Call (.Name "super" (r 0)) [] [] (r 1)) env (r 2) (r 3) = pure (r 3) := fun env => by
      unfold methodCallPos
      simp [hln]
    have hf : ∀ (env : Env), methodCallForm 0 (backTo (r 3) (starEach [] env)) (backToKw (r 3) (keywordEach [] env)) = true := fun _ => rfl
    show (do
      let ov ← attributeBase _ _ _ _
      standAt (r 2).atName
      let (f, first) ← holding [ov] (getMethod ov "__init__" _)
      let cp ← methodCallPos true _ _ (r 2) (r 3)
      callWith cp f first _ _) = _
    simp only [hp, pure_bind]
    rfl
  refine ks_wpAt_super_base (f := fI) (cc := cda) (ar := { arg := "self", annotation := none, pos := p }) ?s1 ?s2 (by decide) rfl (X₁ _ _ ho) rfl rfl rfl (X₁ _ _ hca) rfl hfile (by simp) T.top ?_
  case s1 => exact T.ks
  case s2 => exact T.kc
  refine ks_loadName_global rfl ?s3 (loadGlobal_builtin (mb := mb) ?g1 T.ms ?g2 ?g3 ⟨rfl, ?_⟩)
  case s3 => exact T.ks
  case g1 => exact G.keeps hk₁
  case g2 => exact B.keeps hk₁
  case g3 => exact hb.trans (by first | boot_by_name | rfl | kernel_rfl)
  refine wpAny_loadName_free rfl ?s4 rfl ⟨_, X₁ _ _ hcc, rfl⟩ ?_
  case s4 => exact T.kc
  refine wpAny_loadName_local (v := .ref x) rfl ?s5 hns (look_rev ndz (by rw [List.zip_cons_cons]; exact List.mem_cons_self)) ?_
  case s5 => rfl
  have hD : h₁.get? C = _ := X₁ _ _ hC
  refine ks_wpAny_isType_cls hD rfl ⟨rfl, ?_⟩
  have hsub : Looks (model prog w) h₁ (isSubtype (.ref C) (.ref C)) true := looks_mroIn X₁ T.me
  refine ks_wpAny_call_super hD rfl hx₁ rfl (fun c e => by cases e) hsub (fun h₂ hso k₂ => ?_)
  have X₂ : K.In h₂ := X₁.keeps k₂
  have hx₂ := k₂ _ _ hx₁
  have I₂ : W.InstAt h₂ x (excO C t0) C none := ⟨hx₂, rfl, rfl, trivial⟩
  have hal : alongIn K "__init__" ((cd.mro.dropWhile (· != .ref C)).drop 1) = some (some (.ref fV)) := by
    have e := T.up
    unfold ks_superIn at e
    rw [hcl] at e
    exact e
  obtain ⟨of, hof, hofc⟩ : ∃ of, h₂.get? fV = some of ∧ of.cls = .type "function" := by
    have ht' : (K.lookup fV).map (·.cls) = some (.type "function") := T.root.ty
    cases z : K.lookup fV with
    | none => rw [z] at ht'; cases ht'
    | some of => rw [z] at ht'; exact ⟨of, X₂ _ _ z, Option.some.inj ht'⟩
  refine ks_wpAny_getMethod_super hso (looks_opaque X₂ T.kind.th) (l₀ := cd.mro) (fun A Q E s k q => wpAny_bind ((looks_clsIn X₂ hcl) A _ E s k (wpAny_pure q))) rfl X₂ hal hof hofc (ks_ne X₂ I₂ hcl) (by decide) ?_
  have k₃ : ∀ b o, h₂.get? b = some o → (h₂.push { cls := .type "method", data := .fields #[.ref fV, .ref x] }).get? b = some o := fun b o e => Heap.get?_push_of_some _ e
  have hbm' : (h₂.push { cls := .type "method", data := .fields #[.ref fV, .ref x] }).get? h₂.objs.size = some (methodObj (.ref fV) (.ref x)) := Heap.get?_push_at rfl rfl
  have X₃ := X₂.keeps k₃
  have hx₃ := k₃ _ _ hx₂
  have k13 : ∀ b o, h₁.get? b = some o → (h₂.push { cls := .type "method", data := .fields #[.ref fV, .ref x] }).get? b = some o := fun b o e => k₃ b o (k₂ b o e)
  refine callWith_of (P := MethP K h₂.objs.size fV (.ref x)) rfl (fun h X => keeps_M T.fV h X) (evalArgs_nil3 ⟨⟨hbm', X₃⟩, ?_⟩)
  refine wpAny_call (ks_codeAny_call_bound hbm' ?_)
  refine init_root T.root T.kind X₃ (hlim.keeps fun b o e => k13 b o (hk₁ b o e)) hx₃ (by exact hroom) (fun h₄ tk₄ dx BG => ?_)
  have hLx : s.heap.objs.size ≠ x := fun z => absurd (Heap.lt_size hx) (by rw [← z]; exact Nat.lt_irrefl _)
  have X₄ : K.In h₄ := In_but X₃ hKx BG.keep
  have hn₄ := (hns.keeps k13).at fun o e => BG.keep _ _ hLx e
  have hKd : K.lookup dx = none := notIn_of X₃ BG.big
  have hLd : s.heap.objs.size ≠ dx := fun z => by
    have h1 := (hns.keeps k13).lt
    have h2 := BG.big
    rw [z] at h1
    exact absurd (Nat.lt_of_lt_of_le h1 h2) (Nat.lt_irrefl _)
  obtain ⟨tw, hw⟩ := BG.ns
  have hin : ∀ p ∈ fs.zip us, p.1 ∈ fs := fun p hp => (List.of_mem_zip hp).1
  refine wpAt_of_wpAny ?_
  refine stores_ok T.kind (m := fun y => (((("self" : Str) :: fs).zip (Value.ref x :: us)).reverse.lookup y)) rfl (look_rev ndz (by rw [List.zip_cons_cons]; exact List.mem_cons_self)) rfl hKd BG.ne.symm hLd (fs.zip us) st _ ["word"] _ (by rw [keys_zip hus]; exact hst) (fun p hp => ?_) X₄ hn₄ BG.obj hw (Within.cons ("word" : Str) _ Within.nil) ?_ fun h₅ tk₅ k₅ n₅ => ?_
  · obtain ⟨a1, a2, a3, _⟩ := T.nf p.1 (hin p hp)
    exact ⟨look_rev ndz (by rw [List.zip_cons_cons]; exact List.mem_cons_of_mem _ hp), a1, a3, a2⟩
  · have h1 : (fs.zip us).length ≤ fs.length := by
      rw [List.length_zip]
      exact Nat.min_le_left _ _
    have h2 := T.few
    rw [List.length_cons, List.length_nil]
    omega
  · refine hq h₅ tk₅ dx ⟨fun b o hb e => ?_, ?_, ?_, BG.ne, tw, n₅⟩
    · have e1 := k13 b o (hk₁ b o e)
      exact k₅ b o (fun z => absurd (Heap.lt_size e1) (by rw [z]; exact Nat.not_lt.mpr BG.big)) (BG.keep b o hb e1)
    · exact k₅ _ _ BG.ne.symm BG.obj
    · have h1 := (hns.keeps k13).lt
      exact Nat.le_of_lt (Nat.lt_of_lt_of_le h1 BG.big)
end
end VX
end PySem

set_option Elab.async false
set_option linter.all false
set_option maxRecDepth 100000
set_option maxHeartbeats 2000000
namespace PySem
namespace VX
open PySem.W PySem.Calls PyProof.Rows PySem.HandSPX
section
variable {prog : Program} {w : World} {A : Around} {E : Value → Shared → Prop} {R : Result → Shared → Prop} {s : Shared} {K : Frag} {mg mb : Str → Option Value} {C fV fI : Addr} {nm : Str} {fs : List Str}
/-- a made exception -/
structure Thrown (h h' : Heap) (e C d : Addr) (nm : Str) (kvs : List (Str × Value)) : Prop where
  keep : ∀ b o, h.get? b = some o → h'.get? b = some o
  new : h.objs.size ≤ e
  obj : ∃ oe vs, h'.get? e = some oe ∧ oe.cls = .ref C ∧ oe.dict = some d ∧ oe.data = .fields vs ∧ vs[1]? = some .none ∧ vs[2]? = some .none
  big : h.objs.size ≤ d
  ne : d ≠ e
  ns : ∃ tk, h'.Ns1 d (putNs kvs (fun y => if y = "word" then some (.str (Txt.lower nm) tk) else none))
theorem leaf_made (T : Leaf prog K mg C fV fI nm fs) (G : s.heap.Ns mainGlobals mg) (B : s.heap.Ns builtinsNs mb) (hb : mb "super" = bootBuiltins "super") {us : List Value} (hus : us.length = fs.length)
    (X : K.In s.heap) (hlim : s.heap.NoLimit) (hroom : A.depth + 2 < recursionLimit)
    (hq : ∀ h' tk e d, Thrown s.heap h' e C d nm (fs.zip us) → R (.ok (.ret (.ref e))) { s with heap := h', toks := tk }) :
    codeAny (model prog w) A (.call (.ref C) ⟨us, []⟩) R s := by
  obtain ⟨qq, N, bs, bm, sn, sub, ab, col, dd, k0, k1, k3, k5, tk0, hC, hbm⟩ := T.kind.cls
  obtain ⟨hp, g, dr, tk, os⟩ := s
  have k : ∀ b o, hp.get? b = some o → ((hp.push (kdv_tup us)).push (excO C hp.objs.size)).get? b = some o := fun b o e => Heap.get?_push_of_some _ (Heap.get?_push_of_some _ e)
  have hget : ((hp.push (kdv_tup us)).push (excO C hp.objs.size)).get? (hp.objs.size + 1) = some (excO C hp.objs.size) := by heap_get
  have hnx : K.lookup (hp.objs.size + 1) = none := notIn_of X (Nat.le_succ _)
  have hsz : us.length ≤ sizeLine := by
    rw [hus, sizeLine_eq]
    have := T.few
    omega
  refine call_own F.excBase_ValueError (fun Y => refsVE_contains Y bm hbm) (X _ _ hC) (looks_findIn X T.iC) (fun self => bind_fn X self T.tI) hsz ?_
  refine init_leaf (s := ⟨(hp.push (kdv_tup us)).push (excO C hp.objs.size), g, dr, tk, os⟩) T (G.keeps k) (B.keeps k) hb hus (X.keeps k) (hlim.keeps k) hget hnx (fun z => ?_) ?_ fun h' tk' dx M => ?_
  · have h1 := G.lt
    rw [z] at h1
    exact absurd (Nat.lt_of_succ_lt h1) (Nat.lt_irrefl _)
  · rw [L2.make_depth]
    omega
  · have old : ∀ b o, hp.get? b = some o → h'.get? b = some o := fun b o e => M.keep b o (Nat.ne_of_lt (Nat.lt_succ_of_lt (Heap.lt_size e))) (k b o e)
    have z : hp.objs.size + 1 + 1 ≤ dx := by
      have q := M.big
      rw [Heap.size_push, Heap.size_push] at q
      exact q
    exact ⟨rfl, hq h' tk' (hp.objs.size + 1) dx ⟨old, Nat.le_succ _, ⟨_, _, M.obj, rfl, rfl, rfl, rfl, rfl⟩, Nat.le_trans (Nat.le_trans (Nat.le_succ _) (Nat.le_succ _)) z, M.ne, M.ns⟩⟩
end
end VX
end PySem
namespace L2
open PySem PySem.Spec PyProof.Rows
/-- the exception's own dict: the fields laid one by one -/
def putV : List (Str × V) → List (Str × V) → List (Str × V)
  | [], l => l
  | (f, v) :: r, l => putV r ((f, v) :: l)
theorem relO_putV : ∀ {fs : List Str} {vs : List V} {us : List Value} {l : List (Str × V)} {m : Str → Option Value}, Vals vs us → (∀ g, RelO (l.lookup g) (m g)) → ∀ g, RelO ((putV (fs.zip vs) l).lookup g) (PySem.VX.putNs (fs.zip us) m g)
  | [], vs, us, l, m, _, h, g => by
    rw [List.zip_nil_left, List.zip_nil_left]
    exact h g
  | f :: fs, _, _, l, m, .nil, h, g => by
    rw [List.zip_nil_right, List.zip_nil_right]
    exact h g
  | f :: fs, _, _, l, m, .cons r t, h, g => by
    rw [List.zip_cons_cons, List.zip_cons_cons]
    exact relO_putV t (relO_put r h) g
section
variable {X : Cx} {C fV fI : Addr} {nm : Str} {fs : List Str}
def excD (fs : List Str) (nm : Str) (vs : List V) : List (Str × V) := putV (fs.zip vs) [(("word" : Str), V.str (Txt.lower nm))]
/-- C(e, ..) -/
def tMkL (C : Addr) (fs : List Str) (nm : Str) (ta : TA) : St → Hp → XK → Prop := fun σ H Q => ta σ H fun vs H1 => vs.length = fs.length ∧ ∀ d, H1 d = none → Q (.ref C) (some d) (upd H1 d (.xd (excD fs nm vs)))
theorem pmk_leaf {x : Str} {a : Expr} {es : List Expr} {ta : TA} {p pos : Pos} {k : Nat} (T : PySem.VX.Leaf X.prog X.K X.mg C fV fI nm fs) (hr : Room k X.A) (ha : PA X (a :: es) ta) (hg : Gl X x) (hm : X.mg x = some (.ref C)) (hdb : (x == ("__debug__" : Str)) = false := by decide)
    (he : starEach (a :: es) X.env = (false, eval a X.env) :: starEach es X.env := by rfl) (hpl : (backTo pos (starEach es X.env)).any (·.1) = false := by rfl) :
    PMk X (.Call (.Name x p) (a :: es) [] pos) (tMkL C fs nm ta) := by
  intro pins s σ H Q I h
  refine wpAny_Call_Name_kw (ld_glob I hg hm ?_ hdb)
  refine PySem.W.callWith_K (h₀ := X.base) I.ok.mod.kin T.kind.kp (thn (ha.run pos pins s σ H _ I h) fun us s1 hh => ?_) he hpl
  obtain ⟨vs, H1, I1, r1, hl, q1⟩ := hh
  refine ⟨I1.kIn, ?_⟩
  show wpAny _ _ (call (.ref C) us) _ _ _
  have hlim := I1.nolimit
  obtain ⟨mb, hmb, hbb⟩ := I1.ok.mod.blt
  have hus : us.length = fs.length := by rw [← r1.length, hl]
  have KI := I1.kIn
  have Gs := I1.ok.mod.glob.keeps I1.bk
  have Bs := hmb.keeps I1.bk
  obtain ⟨hp, g, dr, tk, os⟩ := s1
  refine wpAny_call (PySem.VX.leaf_made T Gs Bs (hbb _ (by decide)) hus KI hlim (by have := hr.dp; omega) fun h' tk' e d M => ?_)
  show MkP X pins σ Q (.ref e) ⟨h', g, dr, tk', os⟩
  obtain ⟨oe, fv, hoe, hc, hd, hdat, h1, _⟩ := M.obj
  obtain ⟨tw, hns⟩ := M.ns
  obtain ⟨G', g1, g2⟩ := restrict h' fun b => decide (b ≠ e)
  have gk : ∀ b, b ≠ e → G'.get? b = h'.get? b := fun b hb => g1 b (decide_eq_true hb)
  have ge : G'.get? e = none := g2 e (by simp)
  have old : ∀ b o, hp.get? b = some o → G'.get? b = some o := fun b o q => (gk b (Nat.ne_of_lt (Nat.lt_of_lt_of_le (Heap.lt_size q) M.new))).trans (M.keep b o q)
  have ob : ObjOk X.prog X.w (upd H1 d (.xd (excD fs nm vs))) G' d (.xd (excD fs nm vs)) :=
    ⟨_, hns.at (fun o q => (gk d M.ne).trans q), relO_putV r1 (relO_put (fs := []) ⟨tw, rfl⟩ fun g => True.intro)⟩
  have J : Inv X pins σ (upd H1 d (.xd (excD fs nm vs))) ⟨G', g, dr, tk', os⟩ := I1.laid (t' := tk') old M.big ob
  refine ⟨e, oe, fv, ⟨G', g, dr, tk', os⟩, _, .ref C, some d, rfl, J, fun b o q => ?_, ge, hoe, ⟨hc, hd⟩, hdat, h1, ?_, rfl, I1.bare, raises_own T.kind.ex T.kind.ty, q1 d (I1.hok.fresh M.big)⟩
  · by_cases hb : b = e
    · have q' : G'.get? b = some o := q
      rw [hb, ge] at q'
      cases q'
    · exact (gk b hb).symm.trans q
  · rw [upd_ne (Ne.symm M.ne)]
    exact I1.hok.fresh M.new
/-- raise C(e, ..) -/
def tRaiseL (C : Addr) (fs : List Str) (nm : Str) (W : WX) (ta : TA) : TS := fun _ σ H => tMkL C fs nm ta σ H fun cls d H' => W cls d σ H'
theorem ps_raiseL {x : Str} {a : Expr} {es : List Expr} {ta : TA} {W : WX} {p pos pos2 : Pos} {k : Nat} (hc : X.calm = true) (T : PySem.VX.Leaf X.prog X.K X.mg C fV fI nm fs) (hr : Room k X.A) (tk : Takes X W) (hm : X.mg x = some (.ref C)) (ha : PA X (a :: es) ta) (hg : Gl X x := by rfl)
    (hdb : (x == ("__debug__" : Str)) = false := by decide) (he : starEach (a :: es) X.env = (false, eval a X.env) :: starEach es X.env := by rfl) (hpl : (backTo pos (starEach es X.env)).any (·.1) = false := by rfl) :
    PS X (.Raise (some (.Call (.Name x p) (a :: es) [] pos)) none pos2) (tRaiseL C fs nm W ta) := ps_raise hc tk (pmk_leaf T hr ha hg hm hdb he hpl)
end
end L2

set_option Elab.async false
set_option linter.all false
set_option maxRecDepth 100000
set_option maxHeartbeats 2000000
/-! ### raise, with the context told -/
namespace L2
open PySem PySem.Spec PyProof.Rows
section
variable {X : Cx} {C fV fI : Addr} {nm : Str} {fs : List Str}
theorem pmk_leafN {x : Str} {a : Expr} {es : List Expr} {ta : TA} {p pos : Pos} {k : Nat} (T : PySem.VX.Leaf X.prog X.K X.mg C fV fI nm fs) (hr : Room k X.A) (ha : PA X (a :: es) ta) (hg : Gl X x) (hm : X.mg x = some (.ref C)) (hdb : (x == ("__debug__" : Str)) = false := by decide)
    (he : starEach (a :: es) X.env = (false, eval a X.env) :: starEach es X.env := by rfl) (hpl : (backTo pos (starEach es X.env)).any (·.1) = false := by rfl) :
    L2N.PMk X (.Call (.Name x p) (a :: es) [] pos) (tMkL C fs nm ta) := by
  intro pins s σ H Q I h
  refine wpAny_Call_Name_kw (ld_glob I hg hm ?_ hdb)
  refine PySem.W.callWith_K (h₀ := X.base) I.ok.mod.kin T.kind.kp (thn (ha.run pos pins s σ H _ I h) fun us s1 hh => ?_) he hpl
  obtain ⟨vs, H1, I1, r1, hl, q1⟩ := hh
  refine ⟨I1.kIn, ?_⟩
  show wpAny _ _ (call (.ref C) us) _ _ _
  have hlim := I1.nolimit
  obtain ⟨mb, hmb, hbb⟩ := I1.ok.mod.blt
  have hus : us.length = fs.length := by rw [← r1.length, hl]
  have KI := I1.kIn
  have Gs := I1.ok.mod.glob.keeps I1.bk
  have Bs := hmb.keeps I1.bk
  obtain ⟨hp, g, dr, tk, os⟩ := s1
  refine wpAny_call (PySem.VX.leaf_made T Gs Bs (hbb _ (by decide)) hus KI hlim (by have := hr.dp; omega) fun h' tk' e d M => ?_)
  show L2N.MkP X pins σ Q (.ref e) ⟨h', g, dr, tk', os⟩
  obtain ⟨oe, fv, hoe, hc, hd, hdat, h1, h2⟩ := M.obj
  obtain ⟨tw, hns⟩ := M.ns
  obtain ⟨G', g1, g2⟩ := restrict h' fun b => decide (b ≠ e)
  have gk : ∀ b, b ≠ e → G'.get? b = h'.get? b := fun b hb => g1 b (decide_eq_true hb)
  have ge : G'.get? e = none := g2 e (by simp)
  have old : ∀ b o, hp.get? b = some o → G'.get? b = some o := fun b o q => (gk b (Nat.ne_of_lt (Nat.lt_of_lt_of_le (Heap.lt_size q) M.new))).trans (M.keep b o q)
  have ob : ObjOk X.prog X.w (upd H1 d (.xd (excD fs nm vs))) G' d (.xd (excD fs nm vs)) :=
    ⟨_, hns.at (fun o q => (gk d M.ne).trans q), relO_putV r1 (relO_put (fs := []) ⟨tw, rfl⟩ fun g => True.intro)⟩
  have J : Inv X pins σ (upd H1 d (.xd (excD fs nm vs))) ⟨G', g, dr, tk', os⟩ := I1.laid (t' := tk') old M.big ob
  refine ⟨e, oe, fv, ⟨G', g, dr, tk', os⟩, _, .ref C, some d, rfl, J, fun b o q => ?_, ge, hoe, ⟨hc, hd, fun vs e => ?_⟩, hdat, h1, ?_, rfl, I1.bare, raises_own T.kind.ex T.kind.ty, q1 d (I1.hok.fresh M.big)⟩
  · by_cases hb : b = e
    · have q' : G'.get? b = some o := q
      rw [hb, ge] at q'
      cases q'
    · exact (gk b hb).symm.trans q
  · rw [hdat] at e
    cases e
    exact h2
  · rw [upd_ne (Ne.symm M.ne)]
    exact I1.hok.fresh M.new
theorem ps_raiseN {x : Str} {a : Expr} {es : List Expr} {ta : TA} {W : WX} {p pos pos2 : Pos} {k : Nat} (hc : X.calm = true) (T : PySem.VX.Leaf X.prog X.K X.mg C fV fI nm fs) (hr : Room k X.A) (tk : L2N.Takes X W) (hm : X.mg x = some (.ref C)) (ha : PA X (a :: es) ta) (hg : Gl X x := by rfl)
    (hdb : (x == ("__debug__" : Str)) = false := by decide) (he : starEach (a :: es) X.env = (false, eval a X.env) :: starEach es X.env := by rfl) (hpl : (backTo pos (starEach es X.env)).any (·.1) = false := by rfl) :
    PS X (.Raise (some (.Call (.Name x p) (a :: es) [] pos)) none pos2) (tRaiseL C fs nm W ta) := L2N.ps_raise hc tk (pmk_leafN T hr ha hg hm hdb he hpl)
end
/-! ### defs that are handed the handled exception, within its suite -/
open L2H
/-- as FnOk, the handled exception p told to the promise -/
structure FnE (P : Program) (w : World) (K : PySem.W.Frag) (mg : Str → Option Value) (base : Heap) (k : Nat) (f : Addr) (fd : FuncData) (ps : List Str) (sp : Addr × Obj → Sp) : Prop where
  len : ∀ p vs H Q E, sp p vs H Q E → vs.length = ps.length
  run : ∀ (A : Around) (outer : List Env) (s : Shared) (H : Hp) (args : Args) (us : List Value) (vs : List V) (Q : VK) (E : XK) (p : Addr × Obj), RoomH k A → Hot1 A p → PinOk outer H s p → Env0 P w K mg base A outer s H → BindsTo s fd args (ps.zip us) → Vals vs us → sp p vs H Q E →
    codeAny (model P w) A (.call (.ref f) args) (CR CX0 outer P w H s Q E) s
theorem Fun.okE {P : Program} {w : World} {K : PySem.W.Frag} {mg : Str → Option Value} {base : Heap} {x qual : Str} {st : Stmt} {f : Addr} {fd : FuncData} {N ps : List Str} {k : Nat} {sp : Addr × Obj → Sp} (F : Fun K x qual st f fd) (S : FnScope N ps (defScope st)) (len : ∀ p vs H Q E, sp p vs H Q E → vs.length = ps.length)
    (hbody : ∀ (cdv : Value) (A : Around) (outer : List Env) (s : Shared) (H : Hp) (vs : List V) (Q : VK) (E : XK) (p : Addr × Obj), Hot1 A p → RoomH k (A.deeper (envOfC qual (defScope st) s.heap.objs.size f cdv)) → sp p vs H Q E →
      ∃ t, PSs (cxH CX0 P w K mg base N qual (defScope st) f cdv A outer s H E p).nox (defBody st) t ∧ t { nx := fun _ H' => Q .non H', rt := Q } (start N vs) H) : FnE P w K mg base (k + 1) f fd ps sp := by
  obtain ⟨oc, od, kV, doc, pm, an, cdv, ct, osl, rfl, lk, hcd⟩ := F.ex
  refine ⟨len, fun A outer s H args us vs Q E p hr hot hpin e0 hb r hsp => ?_⟩
  have hl := len _ _ _ _ _ hsp
  have KX : K.In s.heap := e0.mod.kin.keeps fun b o e => (e0.bs b o e).1
  have lim : s.heap.NoLimit := e0.mod.nolimit.keeps fun b o e => (e0.bs b o e).1
  have hkind : ∀ y ∈ ps.zip us, (defScope st).names.lookup y.1 = some .local ∨ ((defScope st).names.lookup y.1 = some .cell ∧ ((cellsFrom (s.heap.objs.size + 1) (defScope st).names []).lookup y.1).isSome = true) := fun ⟨n, v⟩ hy =>
    (S.par n (List.of_mem_zip hy).1).elim .inl fun q => .inr ⟨q, PySem.W.cellsFrom_some _ _ _ (.inl q)⟩
  refine codeAny_call_function hr.depth (KX _ _ lk) rfl S.co S.gen rfl (PySem.W.codeRec_of KX hcd) (hb _ _ _ _ ?_)
  refine wpAny_newFunctionEnv_cells S.kind hkind fun env he s1 y => ?_
  subst he
  refine ⟨lim.keeps y.toInCall.keep, codeAny_func ?_⟩
  obtain ⟨t, ht, hq⟩ := hbody cdv A outer s H vs Q E p hot (hr.deeper _) hsp
  have I := inv_startH (CX := CX0) (E := E) S hpin e0 hl r y
  refine wpAny_mono (ht.nox.run [] s1 (start N vs) H _ I hq) (fun fl s' hs => ?_) fun e s' hs => hs
  cases fl with
  | ret u =>
    obtain ⟨v, σ', H', J, rv, q⟩ := hs
    exact ⟨v, H', J.os, J.bare, J.base, J.hok, rv, q⟩
  | next =>
    obtain ⟨σ', H', J, q⟩ := hs
    exact ⟨V.non, H', J.os, J.bare, J.base, J.hok, rfl, q⟩
  | brk =>
    obtain ⟨_, _, _, q⟩ := hs
    exact False.elim q
  | cont =>
    obtain ⟨_, _, _, q⟩ := hs
    exact False.elim q
section
variable {X : Cx} {k : Nat} {f : Addr} {fd : FuncData} {ps : List Str} {sp : Addr × Obj → Sp} {x : Str} {q pos : Pos} {e : Expr} {es : List Expr} {t : TA}
/-- f(e, ..) within the suite (or within a def called there); p the handled exception -/
def tCallE (sp : Addr × Obj → Sp) (p : Addr × Obj) (t : TA) : TE := fun σ H Q => t σ H fun vs H1 => sp p vs H1 Q E0
theorem pe_callE {p : Addr × Obj} (F : FnE X.prog X.w X.K X.mg X.base k f fd ps sp) (hr : RoomH k X.A) (hot : Hot1 X.A p) (hp : p ∈ X.pn) (hg : Gl X x) (hm : X.mg x = some (.ref f)) (hk : PySem.W.keepIn X.K (.ref f) = true) (hb : Binds X.K fd ps [])
    (ha : PA X (e :: es) t) (hdb : (x == ("__debug__" : Str)) = false := by decide) (he : starEach (e :: es) X.env = (false, eval e X.env) :: starEach es X.env := by rfl) (hpl : (backTo pos (starEach es X.env)).any (·.1) = false := by rfl) :
    PE X (.Call (.Name x q) (e :: es) [] pos) (tCallE sp p t) := by
  refine ⟨fun pins s σ H Q I h => ?_⟩
  refine wpAny_Call_Name_kw (ld_glob I hg hm ?_ hdb)
  refine PySem.W.callWith_K (h₀ := X.base) I.ok.mod.kin hk (thn (ha.run pos pins s σ H _ I h) fun us s1 ⟨vs, H1, J, r, hsp⟩ => ⟨J.kIn, ?_⟩) he hpl
  have hl : us.length = ps.length := by rw [← r.length]; exact F.len _ _ _ _ _ hsp
  have b := hb s1 us J.kIn (by rw [List.append_nil]; exact hl)
  rw [List.append_nil] at b
  have P1 := J.pin p (List.mem_append_left _ hp)
  have hpin : PinOk X.stack H1 s1 p := ⟨P1.1, P1.2.1, fun hm => (List.mem_cons.mp (J.stkSub p.1 hm)).elim P1.2.2.1 P1.2.2.2.1, P1.2.2.2.2⟩
  refine wpAny_call (codeAny_mono (F.run X.A X.stack s1 H1 ⟨us, []⟩ us vs Q E0 p hr hot hpin J.env0 b r hsp) fun r s' hq => ?_)
  cases r with
  | error e => exact False.elim hq
  | ok fl =>
    cases fl with
    | ret u => exact J.after hq
    | next => exact False.elim hq
    | brk => exact False.elim hq
    | cont => exact False.elim hq
/-! ### the handled exception's class and fields -/
/-- p is an exception of the class at C, its dict at d -/
def ExP (C d : Addr) (p : Addr × Obj) : Prop := Zc (.ref C) (some d) p.2 ∧ ∃ vs, p.2.data = .fields vs
theorem ExP.inst {C d : Addr} {p : Addr × Obj} {fs : List (Str × V)} {pins : List (Addr × Obj)} {σ : St} {H : Hp} {s : Shared} (z : ExP C d p) (hp : p ∈ X.pn) (I : Inv X pins σ H s) (hd : H d = some (.xd fs)) :
    ∃ od, PySem.W.InstAt s.heap p.1 p.2 C (some od) ∧ ∀ f v, fs.lookup f = some v → ∃ u, PySem.W.lookIn f od = some (some u) ∧ RelV v u := by
  obtain ⟨⟨h1, h2⟩, vs, h3⟩ := z
  have e := (I.pin p (List.mem_append_left _ hp)).1
  have hx : ObjOk X.prog X.w H s.heap d (.xd fs) := I.hok d _ hd
  obtain ⟨mA, hns, hr⟩ := hx
  obtain ⟨od, ho, hl⟩ := lookIn_ns hns
  refine ⟨od, ⟨e, h1, by unfold PySem.W.notCls; rw [h3] <;> rfl, by rw [h2]; exact ho⟩, fun f v hv => ?_⟩
  obtain ⟨u, hu, ru⟩ := RelO.some_of (v := v) (o := mA f) (by rw [← hv]; exact hr f)
  exact ⟨u, by rw [hl, hu], ru⟩
/-- isinstance(e, c), e the pinned exception -/
def rIsP (K : PySem.W.Frag) (C d : Addr) (p : Addr × Obj) : List V → Hp → VK → Prop := fun xs H Q => ∃ (c : V) (cv : Value) (b : Bool) (fs : List (Str × V)), xs = [.ref p.1, c] ∧ (∀ u, RelV c u → u = cv) ∧ PySem.W.kitOne K (.ref C) cv = some b ∧ H d = some (.xd fs) ∧ Q (.bl b) H
theorem call_isP {p : Addr × Obj} {C d : Addr} {nm : Str} (hp : p ∈ X.pn) (T : PySem.VX.Kind X.K C nm) (z : ExP C d p) : CallR X (.builtin "isinstance") (rIsP X.K C d p) := by
  intro pins s σ H xs us Q I r h
  obtain ⟨c, cv, b, fs, rfl, hcv, e, hd, q⟩ := h
  cases r with
  | cons rx rr =>
    cases rr with
    | cons rt rr =>
      cases rr
      cases rx
      have ec := hcv _ rt
      subst ec
      obtain ⟨od, J, _⟩ := z.inst hp I hd
      exact PySem.W.kia_one (PySem.W.kitx_exc T.some T.ga T.gg T.ex T.cl T.sp T.tk T.mo) I.kIn J e (fun z => nomatch z) fun tk => ⟨.bl b, H, I.kept (t' := tk) fun _ _ z => z, rfl, q⟩
/-- e.f, e the pinned exception -/
def tXp (C d : Addr) (p : Addr × Obj) (f : Str) (te : TE) : TE := fun σ H Q => te σ H fun x H1 => x = .ref p.1 ∧ ∃ (fs : List (Str × V)) (v : V), H1 d = some (.xd fs) ∧ fs.lookup f = some v ∧ Q v H1
theorem pe_xp {p : Addr × Obj} {C d : Addr} {nm : Str} {e : Expr} {te : TE} {pos : Pos} {n : Str} (hp : p ∈ X.pn) (T : PySem.VX.Kind X.K C nm) (z : ExP C d p) (hno : PySem.W.findIn X.K (.ref C) n = some none) (he : PE X e te) (hb : attributeBase e n X.env (eval e X.env) = eval e X.env := by rfl) :
    PE X (.Attribute e n pos) (tXp C d p n te) := by
  refine ⟨fun pins s σ H Q I h => ?_⟩
  refine attr_of hb (thn (he.run pins s σ H _ I h) fun u s1 hh => ?_)
  obtain ⟨x, H1, J, rx, ex, fs, v, hd, l, q⟩ := hh
  subst ex
  obtain rfl : u = Value.ref p.1 := rx
  obtain ⟨od, ia, look⟩ := z.inst hp J hd
  obtain ⟨w', hw, rw'⟩ := look n v l
  exact PySem.HandSPX.exc_get J.kIn ia T.ga T.gg T.ex (PySem.W.findObj_own T.hd hno rfl hw) (handed_of rw') ⟨v, H1, J.tok _, rw', q⟩
end
end L2

set_option Elab.async false
set_option linter.all false
set_option maxRecDepth 100000
set_option maxHeartbeats 2000000
namespace HotL
open PySem PySem.Spec PyProof.Rows HotX
section
variable {prog : Program} {w : World} {A : Around} {E : Value → Shared → Prop} {s : Shared}
/-- the end of a list's iterator, an exception being handled -/
theorem list_end_hot {it l x1 : Addr} {i : Nat} {items : Array Value} {Q : Option Value → Shared → Prop} (hot : HotAt A x1 s.heap) (h1i : x1 ≠ it) (hit : s.heap.IsListIter it l i) (hl : s.heap.IsList l items) (hx : items[i]? = none)
    (hQ : ∀ h', (∀ b o, b ≠ it → s.heap.get? b = some o → h'.get? b = some o) → Q none { s with heap := h' }) : wpAny (model prog w) A (pyNext (.ref it)) Q E s := by
  obtain ⟨o, ho, hc, hd⟩ := id hit
  obtain ⟨ol, hol, _, nl, hdl⟩ := hl
  obtain ⟨hh, o1, vs1, h1, d1, c1⟩ := hot
  unfold pyNext
  refine wpAny_bind (wpAny_attempt (wpAny_callSpecial?_slot (name := Str.ofString "__next__") hit.typeIs slot_listiter_next
    (wpAny_call_entry slot_listiter_next hit.typeIs entry_listiter_next ?_ (args_listiter_next _))))
  show wpAny _ _ (field (.ref it) 0 >>= _) _ _ s
  refine wpAny_bind (wpAny_field ho hd (x := .ref l) rfl ?_)
  show wpAny _ _ (if (Value.ref l == Value.none) = true then _ else _) _ _ s
  rw [if_neg (show ¬ ((Value.ref l == Value.none) = true) from Bool.false_ne_true)]
  show wpAny _ _ (field (.ref it) 1 >>= _) _ _ s
  refine wpAny_bind (wpAny_field ho hd (x := .int i 0) rfl ?_)
  show wpAny _ _ (seqItems? (.ref l) >>= _) _ _ s
  refine wpAny_bind (wpAny_seqItems hol hdl ?_)
  simp only [Int.toNat_natCast, hx]
  refine wpAny_bind (wpAny_rule (wpAny_bind (wpAny_setField ho hd (by simp) ?_)))
  show wpAny _ _ (newExc (.type "StopIteration") [] >>= _) _ _ _
  refine wpAny_bind ?_
  simp only [newExc, newTuple]
  refine wpAny_bind (wpAny_newObj_type ?_ (by size_fits))
  refine wpAny_bind (m := firstArgMember _ _) (wpAny_of_eq (a := Value.none) (by first | rfl | (simp only [firstArgMember]; rfl)) ?_)
  refine wpAny_newObj_type ?_ (by size_fits)
  have keep0 : ∀ b u, b ≠ it → s.heap.get? b = some u → (s.heap.update it (Obj.mapFields (·.setIfInBounds 0 .none))).get? b = some u := fun b u hb e => (Heap.get?_update_other _ _ (Ne.symm hb)).trans e
  have h1' := keep0 _ _ h1i h1
  refine raiseNew_hot ⟨hh, o1, vs1, Heap.get?_push_of_some _ (Heap.get?_push_of_some _ h1'), d1, c1⟩ (Nat.ne_of_lt (Heap.lt_size (Heap.get?_push_of_some _ h1'))) (Heap.get?_push_size _ rfl) rfl (by first | (simp; done) | (simp; omega) | (simp only [Array.size_append]; simp; omega)) ?_
  refine wpAny_bind (wpAny_isInstance (T := "StopIteration") (b := true) ⟨_, Heap.get?_update_self _ (Heap.get?_push_size _ rfl) rfl, rfl⟩ isSubtype_stop ?_)
  refine wpAny_pure (hQ _ fun b u hb e => ?_)
  rw [Heap.get?_update_other _ _ (Nat.ne_of_gt (Heap.lt_size (Heap.get?_push_of_some _ (keep0 _ _ hb e))))]
  exact Heap.get?_push_of_some _ (Heap.get?_push_of_some _ (keep0 _ _ hb e))
end
end HotL
namespace L2
open PySem PySem.Spec PyProof.Rows L2H HotX
section
variable {X : Cx}
/-- [elt for tg in iter if ..] over a list, while the exception of p is handled -/
theorem pe_lcE {p : Addr × Obj} {elt tg iter : Expr} {ifs : List Expr} {scope : Scope} {own : List (Str × Nat)} {pos : Pos} {tl : TE} {g : TG} {tt : TT} {te : TE} (hot : Hot1 X.A p) (hp : p ∈ X.pn) (hN : X.N.Nodup) (hl : PE X iter tl) (ok : BlkOk X.N X.env.scope scope own)
    (hg : ∀ (s : Shared) (H : Hp) (C : Addr) (cl : List (Str × Addr)) (fp : List Addr), PG (X.blk s H scope (compEnvC scope cl C X.env) fp) tg g) (ht : ∀ (s : Shared) (H : Hp) (C : Addr) (cl : List (Str × Addr)) (fp : List Addr), PTs (X.blk s H scope (compEnvC scope cl C X.env) fp) ifs tt)
    (he : ∀ (s : Shared) (H : Hp) (C : Addr) (cl : List (Str × Addr)) (fp : List Addr), PE (X.blk s H scope (compEnvC scope cl C X.env) fp) elt te) (hs : ∀ x, foldedSetIterable iter X.env x = pure x := by intro _; rfl) :
    PE X (.ListComp elt [⟨tg, iter, ifs, 0⟩] scope pos) (tLc (iList X.K tl) g tt te (own.map (·.2))) := by
  refine ⟨fun pins s σ H Q I h => ?_⟩
  rw [eval_ListComp]
  obtain ⟨hhd, hvs, hdat, hctx⟩ := hot
  have hfree : ∀ y ∈ scope.names, y.2 = .free → ∃ c, X.env.cells.lookup y.1 = some c := fun y hy e => (ok.free y hy e).elim (fun k => I.ok.has _ (.inl k)) fun k => I.ok.has _ (.inr k)
  refine wpAny_comprehension_free (use := none) rfl hs (closure_ok hfree) ok.kind (fun y hy e => by rw [ok.uniq y hy, e]) (thn (hl.run pins s σ H _ I h) fun v s1 ⟨xv, H1, I1, r1, q1⟩ => ?_)
  obtain ⟨a, ea, ⟨xs0, hq0⟩, q⟩ := q1
  subst ea
  cases r1
  obtain ⟨its0, rv0, pl0, hz0⟩ := I1.list hq0
  refine wpAny_pyIter_list pl0.isList ?_
  generalize hit0 : s1.heap.objs.size = it
  generalize hs2 : ({ s1 with heap := s1.heap.push { cls := .type "list_iterator", data := .fields #[.ref a, .int 0 0] } } : Shared) = s2
  have h2 : s2.heap = s1.heap.push { cls := .type "list_iterator", data := .fields #[.ref a, .int 0 0] } := by rw [← hs2]
  have I2 : Inv X pins σ H1 s2 := by
    rw [← hs2]
    exact I1.kept (t' := s1.toks) fun b o e => Heap.get?_push_of_some _ e
  have st2 : s2.heap.IsListIter it a 0 := by
    rw [h2, ← hit0]
    exact ⟨_, Heap.get?_push_size _ rfl, rfl, rfl⟩
  have f2 : FpOk X pins H1 it := by
    rw [← hit0]
    exact I1.fpOk (Nat.le_refl _) (I1.hok.fresh (Nat.le_refl _))
  refine wpAny_newObj_type (newEnv_comp ?_) (by show 0 ≤ sizeLine; decide)
  generalize hD : s2.heap.objs.size = D
  have hDn : H1 D = none := I2.hok.fresh (Nat.le_of_eq hD)
  obtain ⟨W, ⟨m0, w0⟩, turn⟩ := q D hDn
  generalize hs3 : ({ s2 with heap := s2.heap.push { cls := .type "list", data := .seq ([] : List Value).toArray } } : Shared) = s3
  have h3 : s3.heap = s2.heap.push { cls := .type "list", data := .seq ([] : List Value).toArray } := by rw [← hs3]
  have I3 : Inv X pins σ (upd H1 D (.lst [])) s3 := by
    rw [← hs3]
    refine I2.laid (t' := s2.toks) (fun b o e => Heap.get?_push_of_some _ e) (Nat.le_of_eq hD) ⟨Nat.zero_le _, [], 0, .nil, ?_⟩
    rw [← hD]
    exact Heap.get?_push_size _ rfl
  have itlt : it < s2.heap.objs.size := by
    obtain ⟨o, e, _⟩ := id st2
    exact Heap.lt_size e
  have itD : it ≠ D := by rw [← hD]; exact Nat.ne_of_lt itlt
  have f3 : ∀ b ∈ [it], FpOk X pins (upd H1 D (.lst [])) b ∧ b < s3.heap.objs.size := fun b hb => by
    obtain rfl : b = it := by simpa using hb
    exact ⟨⟨by rw [upd_ne itD]; exact f2.1, f2.2⟩, by rw [h3, Heap.size_push]; exact Nat.lt_succ_of_lt itlt⟩
  have st3 : s3.heap.IsListIter it a 0 := st2.at fun o e => by rw [h3]; exact Heap.get?_push_of_some _ e
  have I4 := block_start I3 ok hN f3
  have pg := hg s3 (upd H1 D (.lst [])) s3.heap.objs.size (cellsFrom (s3.heap.objs.size + 1) scope.names (cloFrom X.env.cells scope.names [])) [it]
  have pt := ht s3 (upd H1 D (.lst [])) s3.heap.objs.size (cellsFrom (s3.heap.objs.size + 1) scope.names (cloFrom X.env.cells scope.names [])) [it]
  have pe := he s3 (upd H1 D (.lst [])) s3.heap.objs.size (cellsFrom (s3.heap.objs.size + 1) scope.names (cloFrom X.env.cells scope.names [])) [it]
  show codeAny _ _ (.compStart (.ListComp elt [⟨tg, iter, ifs, 0⟩] scope pos) 0 (.ref it) (.ref D) (compEnvC scope (cellsFrom (s3.heap.objs.size + 1) scope.names (cloFrom X.env.cells scope.names [])) s3.heap.objs.size X.env)) (compPost (model X.prog X.w) X.A X.xe none _ (.ref D) s3.heap.objs.size) { s3 with heap := pushCells (s3.heap.push { cls := .type "dict", data := .dict #[] }) scope.names }
  have nit : (upd H1 D (.lst [])) it = none := (f3 it (by simp)).1.1
  generalize hce : compEnvC scope (cellsFrom (s3.heap.objs.size + 1) scope.names (cloFrom X.env.cells scope.names [])) s3.heap.objs.size X.env = ce at I4 pg pt pe ⊢
  have cL : ce.locals = s3.heap.objs.size := by subst hce; rfl
  generalize hH3 : upd H1 D (.lst []) = H3 at I3 I4 pg pt pe w0 nit f3
  generalize hs4 : ({ s3 with heap := pushCells (s3.heap.push { cls := .type "dict", data := .dict #[] }) scope.names } : Shared) = s4 at I4 ⊢
  have k34 : ∀ b o, s3.heap.get? b = some o → s4.heap.get? b = some o := fun b o e => by rw [← hs4]; exact pushCells_keeps _ _ _ _ (Heap.get?_push_of_some _ e)
  have st4 : s4.heap.IsListIter it a 0 := st3.at fun o e => k34 _ _ e
  -- the handled exception stands beside
  have P3 := I3.pin p (List.mem_append_left _ hp)
  have plt : p.1 < s3.heap.objs.size := Heap.lt_size P3.1
  have pne : p.1 ≠ it := fun z => (f2.2.2.2.2.2 p (List.mem_append_left _ hp)) z
  have I4' : Inv (X.blk s3 H3 scope ce [it]) [p] (wipe σ (own.map (·.2))) H3 s4 := I4.pins_of fun y hy => by
    obtain rfl : y = p := by simpa using hy
    refine ⟨k34 _ _ P3.1, P3.2.1, ?_, ?_, P3.2.2.2.2⟩
    · show y.1 ≠ ce.locals
      rw [cL]
      exact Nat.ne_of_lt plt
    · intro hm
      have hm' : y.1 ∈ frs X.stack := hm
      exact (List.mem_cons.mp (I3.stkSub y.1 hm')).elim P3.2.2.1 P3.2.2.2.1
  have stat : ∀ {σ' : St} {H' : Hp} {s' : Shared}, Inv (X.blk s3 H3 scope ce [it]) [p] σ' H' s' → H' it = none → FpOk (X.blk s3 H3 scope ce [it]) [p] H' it := fun {σ' H' s'} I' hn =>
    ⟨hn, (I'.ok.exf it (by simp)).1, I'.ok.exfs it (by simp), .inl (by simp), fun x c e => (I'.ok.exf it (by simp)).2 x c e, fun y hy => by
      obtain rfl : y = p := by simpa using hy
      exact pne⟩
  have loop : codeAny (model X.prog X.w) X.A (.compLoop (.ListComp elt [⟨tg, iter, ifs, 0⟩] scope pos) 0 (.ref it) (.ref D) ce) (compPost (model X.prog X.w) X.A X.xe none (EP X pins σ Q) (.ref D) s3.heap.objs.size) s4 := by
    refine compLoop_any (fun n s' => ∃ i H', Inv (X.blk s3 H3 scope ce [it]) [p] (wipe σ (own.map (·.2))) H' s' ∧ s'.heap.IsListIter it a i ∧ H' it = none ∧ W i n H') ?_ m0 ⟨0, H3, I4', st4, nit, w0⟩
    rintro n s5 ⟨i, H5, I5, st5, n5, w5⟩
    obtain ⟨g0, g1, g2, g3, g4, g5⟩ := stat I5 n5
    rcases turn i n H5 w5 with ⟨⟨xs, hq, hx⟩, qq⟩ | ⟨⟨xs, x0, hq, hx⟩, Nx, hNx, step⟩
    · obtain ⟨its, rv, pl, hz⟩ := I5.list hq
      have hl5 := rv.length
      have P5 := (I5.pin p (by simp)).1
      refine HotL.list_end_hot (A := X.A) ⟨hhd, p.2, hvs, P5, hdat, hctx⟩ pne st5 pl.isList (by simp; omega) fun h' eb => ?_
      have I6 := I5.turned (h' := h') (t' := s5.toks) (fun b o hb e => eb b o hb e) g0 g1 g3 g4 g5
      have I7 : Inv X pins σ H5 { s5 with heap := h' } := I3.call' (ch := [it]) I6.os I6.base I6.hok I6.bare fun b hb => ⟨(f3 b hb).1.2.2.2.1, (f3 b hb).1.2.1, (f3 b hb).1.2.2.2.2.1, (f3 b hb).1.2.2.2.2.2⟩
      have nC : H5 s3.heap.objs.size = none := by
        have z : H5 ce.locals = none := I6.free
        rw [cL] at z
        exact z
      obtain ⟨m, hn, _⟩ := I6.loc
      have hn : h'.Ns ce.locals m := hn
      rw [cL] at hn
      obtain ⟨e0, e1, e2, e3, e4, e5⟩ := I3.fpOk (Nat.le_refl _) nC
      exact ⟨m, hn, fun h'' sb => ⟨.ref D, H5, I7.turned (t' := s5.toks) (fun b o hb e => (sb.2 b hb).trans e) e0 e1 e3 e4 e5, rfl, qq⟩⟩
    · obtain ⟨its, rv, pl, hz⟩ := I5.list hq
      obtain ⟨u, hu, ru⟩ := rv.get hx
      refine wpAny_pyNext_list_item st5 pl.isList (x := u) (by simpa using hu) fun h' st' sb => ?_
      have I6 : Inv (X.blk s3 H3 scope ce [it]) [p] (wipe σ (own.map (·.2))) H5 { s5 with heap := h' } := I5.turned (t' := s5.toks) (fun b o hb e => (sb.2 b hb).trans e) g0 g1 g3 g4 g5
      obtain ⟨oi, ei, ci, di⟩ := id st'
      refine go_of (s := { s5 with heap := h' }) ei ci di (by decide) ?_
      have I7 : Inv (X.blk s3 H3 scope ce [it]) ([p] ++ pinsAt [it] h') (wipe σ (own.map (·.2))) H5 { s5 with heap := h' } := I6.pinned (fun b hb => by
        obtain rfl : b = it := by simpa using hb
        exact stat I6 n5) fun b hb => by
        obtain rfl : b = it := by simpa using hb
        exact ⟨oi, ei, fun v z => by rw [di] at z; cases z⟩
      refine thnF (pg.run _ _ _ H5 x0 u _ I7 ru (step x0 H5 ⟨rfl, fun ys hy => by rw [I6.list_inj hy hq]; exact hx⟩)) fun _ s8 ⟨σ8, H8, I8, hw8, q8⟩ => ?_
      refine thnF (pt.run _ s8 σ8 H8 _ I8 q8) fun b s9 ⟨H9, I9, q9⟩ => ?_
      have fin : ∀ {s' : Shared} {H' : Hp}, Inv (X.blk s3 H3 scope ce [it]) ([p] ++ pinsAt [it] h') σ8 H' s' → Nx H' → ∃ m, m < n ∧ ∃ i H', Inv (X.blk s3 H3 scope ce [it]) [p] (wipe σ (own.map (·.2))) H' s' ∧ s'.heap.IsListIter it a i ∧ H' it = none ∧ W i m H' := fun {s' H'} I' nx => by
        obtain ⟨m', hm, w'⟩ := hNx H' nx
        have pin' : ∀ o, h'.get? it = some o → s'.heap.get? it = some o ∧ H' it = none := fun o e =>
          let z := I'.pin (it, o) (List.mem_append_right _ (List.mem_append_right _ (mem_pinsAt (by simp) e)))
          ⟨z.1, z.2.1⟩
        have hl : (wipe σ (own.map (·.2))).length = σ8.length := by rw [← hw8, wipe_length]
        refine ⟨m', hm, i + 1, H', (I'.unpinned (pins := [p])).weak hl (fun j v e => ?_), st'.at fun o e => (pin' o e).1, (pin' oi ei).2, w'⟩
        rw [← hw8] at e
        exact (wipe_some e).1
      cases b with
      | false =>
        simp only [Bool.false_eq_true, if_false] at q9 ⊢
        exact fin I9 q9
      | true =>
        simp only [if_true] at q9 ⊢
        refine thnF (pe.run _ s9 σ8 H9 _ I9 q9) fun z s10 ⟨yv, H10, I10, r10, acc, hD10, hz10, nx⟩ => ?_
        exact app_ok (X := X.blk s3 H3 scope ce [it]) I10 hD10 hz10 r10 fun s11 I11 => fin I11 nx
  exact codeAny_compStart_list loop (wpAny_pyIter_listiter st4 loop)
end
end L2

set_option Elab.async false
set_option linter.all false
set_option maxRecDepth 100000
set_option maxHeartbeats 2000000
namespace VLR
open PySem PySem.Spec PyProof.Rows RT
section
variable {prog : Program} {w : World} {A : Around} {E : Value → Shared → Prop} {s : Shared}
/-- list.__init__(S, reversed list iterator) on an empty list S -/
theorem init_rev {R : Result → Shared → Prop} {it l S : Addr} {items : Array Value} (hh : A.handled = none) (hit : s.heap.IsRevIter it l ((items.size : Int) - 1)) (hl : s.heap.IsList l items) (hne : l ≠ it) (hn : items.size ≤ sizeLine)
    (hS : s.heap.get? S = some { cls := .type "list", data := .seq #[] }) (hSi : S ≠ it) (hSl : S ≠ l)
    (hR : ∀ (h' : Heap) (tk : Nat) (acc : Array Value) (c : Nat), (∀ b o, b ≠ S → b ≠ it → s.heap.get? b = some o → h'.get? b = some o) → h'.get? S = some { cls := .type "list", dict := none, data := .seq acc c, slots := #[] } →
      ItemsOf (fun i v => items[items.size - 1 - i]? = some v) acc items.size → R (.ok (.ret .none)) { s with heap := h', toks := tk }) :
    wpAny (model prog w) A.in1 (Builtin.«list.__init__» ⟨[.ref S, .ref it], []⟩)
      (fun fin s' => match fin with | .done f => R (.ok f) s' | .again c' => c'.quiet = true ∧ codeAny (model prog w) A c' R s') (fun e s' => R (.error e) s') s := by
  have hSf : S ∉ [it, l] := by simp only [List.mem_cons, List.not_mem_nil, or_false, not_or]; exact ⟨hSi, hSl⟩
  have W := (Walks.listRev (prog := prog) (w := w) (A := A.in1) hh it l hne items).toS
  show wpAny _ _ (Builtin.List.listItems (.ref S) >>= fun old => Builtin.List.listUpdate (.ref S) (fun _ => #[]) >>= fun _ => letGo old.toList.reverse >>= fun _ => Builtin.List.listExtendWith (.ref S) (.ref it) .none) _ _ s
  refine wpAny_bind ?_
  unfold Builtin.List.listItems
  refine wpAny_bind (wpAny_seqItems hS rfl (wpAny_pure ?_))
  refine wpAny_bind (m := updateSeq S (fun _ => #[])) (wpAny_updateSeq hS rfl ?_)
  have hS₂ := Heap.get?_update_self (Obj.mapSeq (fun _ => (#[] : Array Value))) hS rfl
  have other : ∀ b o, b ≠ S → s.heap.get? b = some o → (s.heap.update S (Obj.mapSeq (fun _ => (#[] : Array Value)))).get? b = some o := fun b o hb e => (Heap.get?_update_other _ _ (Ne.symm hb)).trans e
  refine wpAny_bind (wpAny_letGo ?_)
  obtain ⟨oi, hoi, ci, di⟩ := id hit
  have hit2 : (s.heap.update S (Obj.mapSeq (fun _ => (#[] : Array Value)))).IsRevIter it l ((items.size : Int) - 1) := hit.at fun o e => other _ _ (Ne.symm hSi) e
  have hl2 : (s.heap.update S (Obj.mapSeq (fun _ => (#[] : Array Value)))).IsList l items := by
    obtain ⟨ol, hol, r⟩ := id hl
    exact ⟨ol, other _ _ (Ne.symm hSl) hol, r⟩
  have hT : ({ s with heap := s.heap.update S (Obj.mapSeq (fun _ => (#[] : Array Value))) } : Shared).TypeIs (.ref it) "list_reverseiterator" := Heap.IsRevIter.typeIs (s := { s with heap := s.heap.update S (Obj.mapSeq (fun _ => (#[] : Array Value))) }) hit2
  have h1 : Builtin.List.listSameRef (.ref S) (.ref it) = false := by simp [Builtin.List.listSameRef, hSi]
  unfold Builtin.List.listExtendWith
  refine wpAny_bind (wpAny_typeOf hT ?_)
  rw [if_neg (by rw [h1]; decide)]
  refine wpAny_bind (wpAny_pyIter_revIter (s := { s with heap := s.heap.update S (Obj.mapSeq (fun _ => (#[] : Array Value))) }) hit2 ?_)
  refine wpAny_bind (wpAny_holding ?_)
  unfold Builtin.List.listLengthHint
  refine wpAny_bind (wpAny_specialOf hT nolen_lri ?_)
  show wpAny _ A.in1 (specialOf (Value.ref it) (Str.ofString "__length_hint__") >>= _) _ _ _
  refine wpAny_bind (wpAny_specialOf hT hint_lri ?_)
  generalize hid : ("list_reverseiterator.__length_hint__" : String) = id0
  wp_delta
  rw [show splitId id0 = some ("list_reverseiterator", "__length_hint__") from by subst hid; decide +kernel]
  subst hid
  refine wpAny_bind (wpAny_isInstance (b := true) hT (by rw [isSubtype_type]; kernel_rfl) ?_)
  refine wpAny_pure ?_
  rw [if_neg (by decide)]
  have e0 : ((items.size : Nat) : Int) - 1 - ((0 : Nat) : Int) = (items.size : Int) - 1 := by omega
  refine wpAny_pure ⟨plainId_quiet F.plain_extend_loop _, codeAny_extend_loopS W hn S hSf _ items.size 0 _ _ _ rfl (Nat.zero_le _) ⟨Nat.zero_le _, by rw [e0]; exact hit2, hl2⟩ hS₂ (ItemsOf.nil _) fun s' acc' c' hm hS' hacc => ?_⟩
  rw [Moved.eq_with hm]
  refine hR s'.heap s'.toks acc' c' (fun b o hb hi e => hm.heap b o (fun hmem => ?_) (other b o hb e)) hS' hacc
  rcases List.mem_cons.mp hmem with e' | hmem
  · exact hb e'
  · exact hi (List.mem_singleton.mp hmem)
theorem call_list_rev {it l : Addr} {items : Array Value} {Q : Value → Shared → Prop} (hh : A.handled = none) (hit : s.heap.IsRevIter it l ((items.size : Int) - 1)) (hl : s.heap.IsList l items) (hne : l ≠ it) (hn : items.size ≤ sizeLine)
    (hQ : ∀ (h' : Heap) (tk : Nat) (acc : Array Value) (c : Nat), (∀ b o, b ≠ it → s.heap.get? b = some o → h'.get? b = some o) → h'.get? s.heap.objs.size = some { cls := .type "list", dict := none, data := .seq acc c, slots := #[] } →
      ItemsOf (fun i v => items[items.size - 1 - i]? = some v) acc items.size → Q (.ref s.heap.objs.size) { s with heap := h', toks := tk }) :
    wpAny (model prog w) A (call (.type "list") [.ref it]) Q E s := by
  refine callType_codes (Q₁ := fun obj s₁ => obj = .ref s.heap.objs.size ∧ s₁ = { s with heap := s.heap.push { cls := .type "list", data := .seq #[] } }) F.called_list (F.typeCall_list_1 _) F.entry_list_init
    (code_list_new _ ⟨rfl, rfl⟩) fun obj s₁ h₁ => ?_
  obtain ⟨rfl, rfl⟩ := h₁
  have hS : (s.heap.push { cls := .type "list", data := .seq #[] }).get? s.heap.objs.size = some { cls := .type "list", data := .seq #[] } := Heap.get?_push_size _ rfl
  obtain ⟨oi, hoi, _⟩ := id hit
  obtain ⟨ol, hol, _⟩ := id hl
  refine ⟨⟨_, hS, rfl⟩, F.args_list_init_2 _ _, init_rev (A := A.in1) hh (hit.at fun o e => Heap.get?_push_of_some _ e) (hl.push _) hne hn hS (Nat.ne_of_gt (Heap.lt_size hoi)) (Nat.ne_of_gt (Heap.lt_size hol)) fun h' tk acc c k hS' hacc => ?_⟩
  exact ⟨rfl, hQ h' tk acc c (fun b o hb e => k b o (Nat.ne_of_lt (Heap.lt_size e)) hb (Heap.get?_push_of_some _ e)) hS' hacc⟩
end
end VLR
namespace L2
open PySem PySem.Spec PyProof.Rows RT
def tLstRev (K : PySem.W.Frag) (te : TE) : TE := fun σ H Q => te σ H fun v H1 => ∃ (a : Addr) (xs : List V), v = .ref a ∧ SqL K H1 a xs ∧ ∀ p, H1 p = none → Q (.ref p) (upd H1 p (.lst xs.reverse))
section
variable {X : Cx}
theorem pe_lstRev {e : Expr} {te : TE} {p p2 pos pos2 : Pos} (hc : X.calm = true) (hg : Gl X "list") (hm : X.mg "list" = none) (hg2 : Gl X "reversed") (hm2 : X.mg "reversed" = none) (he : PE X e te)
    (hs : starEach [e] X.env = (false, eval e X.env) :: starEach [] X.env := by rfl)
    (hs2 : starEach [.Call (.Name "reversed" p2) [e] [] pos2] X.env = (false, eval (.Call (.Name "reversed" p2) [e] [] pos2) X.env) :: starEach [] X.env := by rfl) :
    PE X (.Call (.Name "list" p) [.Call (.Name "reversed" p2) [e] [] pos2] [] pos) (tLstRev X.K te) := by
  refine ⟨fun pins s σ H Q I h => ?_⟩
  refine Call_ (ld_blt I hg hm boot_list (PyProof.Rows.callWith_type1 (args_cons (Call_ (ld_blt I hg2 hm2 PyProof.Rows.boot_reversed (PyProof.Rows.callWith_type1 (args_cons (thn (he.run pins s σ H _ I h) fun u s1 ⟨v, H1, I1, r1, q1⟩ => args_nil ?_) hs) hs rfl))) hs2) hs2 rfl))
  obtain ⟨a, xs, ev, hq, q⟩ := q1
  subst ev
  obtain rfl : u = Value.ref a := r1
  obtain ⟨its, rv, p', hz⟩ := I1.list hq
  refine call_reversed_list p'.isList (args_nil ?_)
  have k0 : ∀ b o, s1.heap.get? b = some o → (s1.heap.push (revObj a ((its.toArray.size : Int) - 1))).get? b = some o := fun b o e => Heap.get?_push_of_some _ e
  have I2 : Inv X pins σ H1 { s1 with heap := s1.heap.push (revObj a ((its.toArray.size : Int) - 1)) } := I1.kept (t' := s1.toks) k0
  obtain ⟨f0, f1, f2, f3, f4, f5⟩ := I1.fpOk (H' := H1) (b := s1.heap.objs.size) (Nat.le_refl _) (I1.hok.fresh (Nat.le_refl _))
  have hl := p'.isList
  obtain ⟨ol, hol, _⟩ := id hl
  have hne : a ≠ s1.heap.objs.size := Nat.ne_of_lt (Heap.lt_size hol)
  have hn : its.toArray.size ≤ sizeLine := by rw [List.size_toArray, ← rv.length]; exact hz
  have hsz : (s1.heap.push (revObj a ((its.toArray.size : Int) - 1))).objs.size = s1.heap.objs.size + 1 := Heap.size_push _ _
  refine VLR.call_list_rev (s := { s1 with heap := s1.heap.push (revObj a ((its.toArray.size : Int) - 1)) }) (I1.ok.hd hc) ⟨_, Heap.get?_push_size _ rfl, rfl, rfl⟩ (hl.push _) hne hn fun h' tk acc c hk hS hi => ?_
  have k1 : ∀ b o, s1.heap.get? b = some o → h'.get? b = some o := fun b o e => hk b o (Nat.ne_of_lt (Heap.lt_size e)) (k0 b o e)
  have hS' : h'.get? (s1.heap.objs.size + 1) = some { cls := .type "list", data := .seq acc.toList.toArray c } := by
    rw [Array.toArray_toList, ← hsz]
    exact hS
  have J : Inv X pins σ (upd H1 (s1.heap.objs.size + 1) (.lst xs.reverse)) { s1 with heap := h', toks := tk } :=
    I1.laid (t' := tk) k1 (Nat.le_succ _) (show ObjOk X.prog X.w _ _ _ (.lst xs.reverse) from ⟨by rw [List.length_reverse]; exact hz, acc.toList, c, vals_rev rv hi, hS'⟩)
  refine ⟨.ref (s1.heap.objs.size + 1), _, J, ?_, q _ (I1.hok.fresh (Nat.le_succ _))⟩
  show Value.ref (s1.heap.push (revObj a ((its.toArray.size : Int) - 1))).objs.size = _
  rw [hsz]
end
end L2

set_option Elab.async false
set_option linter.all false
set_option maxRecDepth 100000
set_option maxHeartbeats 2000000
namespace L2
open PySem PySem.Spec PyProof.Rows
/-- a def of the text: its function, its name in the module, how its arguments bind -/
structure Def (K : PySem.W.Frag) (mg : Str → Option Value) (x : Str) (st : Stmt) (ps : List Str) (f : Addr) (fd : FuncData) : Prop where
  fn : Fun K x x st f fd
  g : mg x = some (.ref f)
  b : Binds K fd ps []
theorem takesN0 {X : Cx} : L2N.Takes X (fun _ _ _ _ => False) := fun _ _ x => by
  obtain ⟨_, _, _, _, _, _, _, _, _, _, _, _, _, _, _, _, z⟩ := x
  exact z.elim
theorem Fun.okN {P : Program} {w : World} {K : PySem.W.Frag} {mg : Str → Option Value} {base : Heap} {x qual : Str} {st : Stmt} {f : Addr} {fd : FuncData} {N ps : List Str} {k : Nat} {sp : Sp} (F : Fun K x qual st f fd) (S : FnScope N ps (defScope st)) (len : ∀ vs H Q E, sp vs H Q E → vs.length = ps.length)
    (hbody : ∀ (cdv : Value) (A : Around) (outer : List Env) (s : Shared) (H : Hp) (vs : List V) (Q : VK) (E : XK), Room k (A.deeper (envOfC qual (defScope st) s.heap.objs.size f cdv)) → sp vs H Q E →
      ∃ t, PSs (cxOf (L2N.CX P w) P w K mg base N qual (defScope st) f cdv A outer s H E) (defBody st) t ∧ t { nx := fun _ H' => Q .non H', rt := Q } (start N vs) H) : FnOk P w K mg base (L2N.CX P w) (k + 1) f fd ps sp := by
  obtain ⟨oc, od, kV, doc, pm, an, cdv, ct, osl, rfl, lk, hcd⟩ := F.ex
  exact fn_of lk hcd S len fun A outer s H vs Q E hr hsp => hbody cdv A outer s H vs Q E hr hsp
/-- all but the list at st stands as it stood -/
def But (st : Addr) (H H' : Hp) : Prop := ∀ b o, b ≠ st → H b = some o → H' b = some o
theorem But.refl {st : Addr} {H : Hp} : But st H H := fun _ _ _ h => h
theorem But.trans {st : Addr} {H H1 H2 : Hp} (a : But st H H1) (b : But st H1 H2) : But st H H2 := fun c o n h => b c o n (a c o n h)
theorem But.set {st : Addr} {H : Hp} {o : HO} : But st H (upd H st o) := fun b u n e => by rw [upd_ne n]; exact e
theorem But.new {st p : Addr} {H : Hp} {o : HO} (h : H p = none) : But st H (upd H p o) := fun b u n e => by rw [upd_ne (ne_of_none e h)]; exact e
theorem But.of {st : Addr} {H H' : Hp} (h : Same H H') : But st H H' := fun b o _ e => h b o e
/-- the script's cells and the drawer's counters: a list of a list and ints -/
structure Store (H : Hp) (st : Addr) : Prop where
  ex : ∃ (cl : Addr) (ns : List Int) (a b c d e g : Int), H st = some (.lst [.ref cl, .int a, .int b, .int c, .int d, .int e, .int g]) ∧ H cl = some (.lst (ns.map V.int)) ∧ 0 ≤ a ∧ ns.length ≤ 63 ∧ cl ≠ st
theorem Store.some {H : Hp} {st : Addr} (S : Store H st) : ∃ o, H st = some o := by
  obtain ⟨_, _, _, _, _, _, _, _, h, _⟩ := S.ex
  exact ⟨_, h⟩
theorem Store.keep {H H' : Hp} {st : Addr} (S : Store H st) (h : Same H H') : Store H' st := by
  obtain ⟨cl, ns, a, b, c, d, e, g, h1, h2, h3⟩ := S.ex
  exact ⟨cl, ns, a, b, c, d, e, g, h _ _ h1, h _ _ h2, h3⟩
theorem But.free {st : Addr} {H H' : Hp} (a : But st H H') (S : Store H' st) {l : Addr} (h : H' l = Option.none) : H l = Option.none := by
  cases q : H l with
  | none => rfl
  | some o =>
    obtain ⟨u, hu⟩ := S.some
    have ne : l ≠ st := fun z => by rw [z, hu] at h; cases h
    rw [a l o ne q] at h
    cases h
theorem same_new {H : Hp} {p : Addr} {o : HO} (h : H p = none) : Same H (upd H p o) := fun b u e => by rw [upd_ne (ne_of_none e h)]; exact e
theorem of_dec {p : Prop} [Decidable p] (h : decide p = true) : p := of_decide_eq_true h
theorem of_ndec {p : Prop} [Decidable p] (h : ¬ decide p = true) : ¬ p := fun z => h (decide_eq_true z)
end L2
namespace L2
open PySem PySem.Spec PyProof.Rows
/-! ### sizes -/
theorem fm_lo {a m : Int} (h : 0 < m) : 0 ≤ a.fmod m := by
  rw [Int.fmod_eq_emod_of_nonneg _ (Int.le_of_lt h)]
  exact Int.emod_nonneg _ (by omega)
theorem fm_hi {a m : Int} (h : 0 < m) : a.fmod m < m := by
  rw [Int.fmod_eq_emod_of_nonneg _ (Int.le_of_lt h)]
  exact Int.emod_lt_of_pos _ h
theorem cm_fmod {a m b : Int} (h : 0 < m) (h2 : m ≤ 2 ^ 64) : CMul (a.fmod m) b := .inl ⟨by have := fm_lo (a := a) h; omega, by have := fm_hi (a := a) h; omega⟩
theorem cm_l {a b : Int} (h : -(2 ^ 64) < a) (h2 : a < 2 ^ 64) : CMul a b := .inl ⟨h, h2⟩
theorem cm_r {a b : Int} (h : -(2 ^ 64) < b) (h2 : b < 2 ^ 64) : CMul a b := .inr ⟨h, h2⟩
end L2
namespace L2
open PySem PySem.Spec PyProof.Rows
theorem Same.mut {H H' : Hp} {D : Addr} {o : HO} (e : Same H H') (h : H D = none) : Same H (upd H' D o) := fun b u z => by
  rw [upd_ne (ne_of_none z h)]
  exact e b u z
theorem take_one {α : Type} {l : List α} {i : Nat} {x : α} (h : l[i]? = some x) : l.take (i + 1) = l.take i ++ [x] := by
  rw [List.take_succ, h]
  rfl
end L2
namespace L2
open PySem PySem.Spec PyProof.Rows
/-- between a statement and the rest: a word Mid, from which the rest is shown once -/
def tMid (t u : TS) : TS := fun D σ H => ∃ R : St → Hp → Prop, t { D with nx := R } σ H ∧ ∀ σ' H', R σ' H' → u D σ' H'
theorem pss_mid {X : Cx} {st : Stmt} {more : List Stmt} {t u : TS} (a : PS X st t) (b : PSs X more u) : PSs X (st :: more) (tMid t u) := ⟨fun pins s σ H D I ⟨_, hm, hu⟩ =>
  wpAny_execs_cons (thn (a.run pins s σ H _ I hm) fun f s1 q => match f, q with
    | .next, ⟨σ', H', J, q⟩ => b.run pins s1 σ' H' D J (hu σ' H' q)
    | .ret _, q => q
    | .brk, q => q
    | .cont, q => q)⟩
/-- what the store holds at its places; reading and writing it -/
theorem upd2 {H : Hp} {a : Addr} {o u : HO} : upd (upd H a o) a u = upd H a u := upd_upd
end L2

set_option Elab.async false
set_option linter.all false
set_option maxRecDepth 100000
set_option maxHeartbeats 2000000
namespace L2
open PySem PySem.Spec PyProof.Rows
theorem pss_cut {X : Cx} {st : Stmt} {more : List Stmt} {t : TS} (a : PS X st t) : PSs X (st :: more) (fun D σ H => t { D with nx := fun _ _ => False } σ H) := ⟨fun pins s σ H D I h =>
  wpAny_execs_cons (thn (a.run pins s σ H _ I h) fun f s1 q => match f, q with
    | .next, ⟨_, _, _, q⟩ => q.elim
    | .ret _, q => q
    | .brk, q => q
    | .cont, q => q)⟩
theorem hu64 {k : Nat} {A : Around} (r : L2H.RoomH k A) : A.units + 64 < cLine := by
  have := r.un
  omega
theorem roomH_as {k : Nat} {A B : Around} (r : L2H.RoomH k A) (h1 : B.depth = A.depth) (h2 : B.units = A.units) : L2H.RoomH k B := ⟨by rw [h1]; exact r.dp, by rw [h2]; exact r.un⟩
theorem hot_of {a : Addr} {oe : Obj} {cls : Value} {d : Option Addr} {A' : Around} (hz : L2N.Zn cls d oe) (hf : ∃ vs : Array Value, oe.data = .fields vs) (h : A'.handled = some (.ref a) := by rfl) : L2H.Hot1 A' (a, oe) := ⟨h, hf.elim fun vs e => ⟨vs, e, hz.2.2 vs e⟩⟩
section
open L2H
variable {X : Cx} {k : Nat} {f : Addr} {fd : FuncData} {ps : List Str} {sp : Addr × Obj → Sp} {x : Str} {q pos : Pos} {e : Expr} {es : List Expr} {t : TA}
/-- f(e, ..) within the suite, by a promise that does not name the exception's record -/
def tCallZ (sp' : Sp) (t : TA) : TE := fun σ H Q => t σ H fun vs H1 => sp' vs H1 Q E0
theorem pe_callZ {p : Addr × Obj} {sp' : Sp} (F : FnE X.prog X.w X.K X.mg X.base k f fd ps sp) (hc : ∀ vs H Q E, sp' vs H Q E → sp p vs H Q E) (hr : RoomH k X.A) (hot : Hot1 X.A p) (hp : p ∈ X.pn) (hg : Gl X x) (hm : X.mg x = some (.ref f)) (hk : PySem.W.keepIn X.K (.ref f) = true) (hb : Binds X.K fd ps [])
    (ha : PA X (e :: es) t) (hdb : (x == ("__debug__" : Str)) = false := by decide) (he : starEach (e :: es) X.env = (false, eval e X.env) :: starEach es X.env := by rfl) (hpl : (backTo pos (starEach es X.env)).any (·.1) = false := by rfl) :
    PE X (.Call (.Name x q) (e :: es) [] pos) (tCallZ sp' t) := by
  refine ⟨fun pins s σ H Q I h => ?_⟩
  refine wpAny_Call_Name_kw (ld_glob I hg hm ?_ hdb)
  refine PySem.W.callWith_K (h₀ := X.base) I.ok.mod.kin hk (thn (ha.run pos pins s σ H _ I h) fun us s1 ⟨vs, H1, J, r, hsp0⟩ => ⟨J.kIn, ?_⟩) he hpl
  have hsp := hc _ _ _ _ hsp0
  have hl : us.length = ps.length := by rw [← r.length]; exact F.len _ _ _ _ _ hsp
  have b := hb s1 us J.kIn (by rw [List.append_nil]; exact hl)
  rw [List.append_nil] at b
  have P1 := J.pin p (List.mem_append_left _ hp)
  have hpin : PinOk X.stack H1 s1 p := ⟨P1.1, P1.2.1, fun hm => (List.mem_cons.mp (J.stkSub p.1 hm)).elim P1.2.2.1 P1.2.2.2.1, P1.2.2.2.2⟩
  refine wpAny_call (codeAny_mono (F.run X.A X.stack s1 H1 ⟨us, []⟩ us vs Q E0 p hr hot hpin J.env0 b r hsp) fun r s' hq => ?_)
  cases r with
  | error e => exact False.elim hq
  | ok fl =>
    cases fl with
    | ret u => exact J.after hq
    | next => exact False.elim hq
    | brk => exact False.elim hq
    | cont => exact False.elim hq
end
end L2
namespace L2
open PySem PySem.Spec PyProof.Rows L2H
theorem pairedAt {α β : Type} {R : α → β → Prop} {xs : List α} {ys : List β} (h : Paired R xs ys) : ∀ {i : Nat} {x : α}, xs[i]? = some x → ∃ y, ys[i]? = some y ∧ R x y := by
  induction h with
  | nil => intro i x e; cases e
  | cons a k ih =>
    intro i x e
    cases i with
    | zero => cases e; exact ⟨_, rfl, a⟩
    | succ i => exact ih e
theorem FnE.or {P : Program} {w : World} {K : PySem.W.Frag} {mg : Str → Option Value} {base : Heap} {k : Nat} {f : Addr} {fd : FuncData} {ps : List Str} {sp1 sp2 : Addr × Obj → Sp} (a : FnE P w K mg base k f fd ps sp1) (b : FnE P w K mg base k f fd ps sp2) :
    FnE P w K mg base k f fd ps (fun p vs H Q E => sp1 p vs H Q E ∨ sp2 p vs H Q E) :=
  ⟨fun p vs H Q E h => h.elim (a.len p vs H Q E) (b.len p vs H Q E), fun A outer s H args us vs Q E p hr hot hpin e0 hb r hsp => hsp.elim (a.run A outer s H args us vs Q E p hr hot hpin e0 hb r) (b.run A outer s H args us vs Q E p hr hot hpin e0 hb r)⟩
theorem bnot_t {b : Bool} (h : (!b) = true) : b = false := by
  cases b
  · rfl
  · cases h
theorem bnot_f {b : Bool} (h : ¬ (!b) = true) : b = true := by
  cases b
  · exact absurd rfl h
  · rfl
end L2

set_option Elab.async false
set_option linter.all false
set_option maxRecDepth 100000
namespace PySem
open Sem (wp)
set_option maxHeartbeats 1000000 in
theorem vo_meets_enumerate {v : Value} {o : Obj} {H : Heap → Prop} (B : Begins v o H) :
    Meets (Builtin.«enumerate.__new__» ⟨[.type "enumerate", v], []⟩) (fun _ R s => H s.heap ∧
      R (.ok (.ret (.ref (s.heap.push o).objs.size))) { s with heap := (s.heap.push o).push { cls := .type "enumerate", data := .fields #[.none, .bool false, .ref s.heap.objs.size, rawInt 0, .none, .none] } }) :=
  .of_wp fun prog w A R s h => by
    obtain ⟨hp, g, d, tk, os⟩ := s; obtain ⟨h1, h⟩ := h
    have hsub := sub_enumerate
    have q1 : ∀ {A' : Around} {E : Value → Shared → Prop} {Q : Value → Shared → Prop}, Q (.ref hp.objs.size) ⟨hp.push o, g, d, tk, os⟩ → wpAny (model prog w) A' (pyIter v) Q E ⟨hp, g, d, tk, os⟩ :=
      fun q => B.iter prog w _ _ ⟨hp, g, d, tk, os⟩ _ h1 q
    wp_walk using q1
    refine wpAny_stack_any fun st => wpAny_pure ?_
    split
    · rename_i c _ _ _ _ _
      cases (c == Value.type "enumerate")
      · wp_walk using q1
        exact ⟨_, rfl, h⟩
      · wp_walk using q1
        exact ⟨_, rfl, h⟩
    · wp_walk using q1
      exact ⟨_, rfl, h⟩
section
variable {prog : Program} {w : World} {A : Around} {E : Value → Shared → Prop} {s : Shared}
theorem vo_call_enumerate {v : Value} {o : Obj} {H : Heap → Prop} {Q : Value → Shared → Prop} (B : Begins v o H) (h1 : H s.heap)
    (h : ∀ h', IsEnum h' (s.heap.objs.size + 1) s.heap.objs.size 0 .none → h'.get? s.heap.objs.size = some o → h'.objs.size = s.heap.objs.size + 2 →
      (∀ b o, s.heap.get? b = some o → h'.get? b = some o) → Q (.ref (s.heap.objs.size + 1)) { s with heap := h' }) :
    wpAny (model prog w) A (call (.type "enumerate") [v]) Q E s := by
  refine callType_new F.called_enumerate (by decide) (F.typeCall_enumerate_1 _) (F.newCall_enumerate_1 _) (fun obj => F.args_object_init_2 obj _) F.entry_enumerate_new
    (vo_meets_enumerate B) ⟨h1, ?_⟩
  have hz : (s.heap.push o).objs.size = s.heap.objs.size + 1 := Heap.size_push ..
  show _ ∧ _
  rw [hz]
  have he : IsEnum ((s.heap.push o).push { cls := .type "enumerate", data := .fields #[.none, .bool false, .ref s.heap.objs.size, rawInt 0, .none, .none] }) (s.heap.objs.size + 1) s.heap.objs.size 0 .none := by
    have := Heap.get?_push_size (s.heap.push o) (o := { cls := .type "enumerate", data := .fields #[.none, .bool false, .ref s.heap.objs.size, rawInt 0, .none, .none] }) rfl
    rw [hz] at this; exact this
  refine ⟨⟨_, he, rfl⟩, h _ he (Heap.get?_push_of_some _ (Heap.get?_push_size _ B.free)) (by rw [Heap.size_push, hz]) fun b o x => Heap.get?_push_of_some _ (Heap.get?_push_of_some _ x)⟩
theorem vo_next_tup_end {e it t : Addr} {i : Nat} {k : Int} {items : Array Value} {old : Value} {Q : Option Value → Shared → Prop} (hh : A.handled = none)
    (he : IsEnum s.heap e it k old) (hit : s.heap.IsTupleIter it t i) (ht : s.heap.IsTuple t items) (hx : items[i]? = none)
    (hQ : ∀ h', Heap.ExtBut it s.heap h' → Q none { s with heap := h' }) : wpAny (model prog w) A (pyNext (.ref e)) Q E s := by
  have hT : s.TypeIs (.ref e) "enumerate" := ⟨_, he, rfl⟩
  unfold pyNext
  refine wpAny_bind (wpAny_attempt (wpAny_callSpecial?_slot (name := Str.ofString "__next__") hT F.slot_enumerate_next
    (wpAny_call_entry F.slot_enumerate_next hT F.entry_enumerate_next ?_ (F.args_enumerate_next_1 _))))
  show wpAny _ _ (field (.ref e) 2 >>= _) _ _ _
  refine wpAny_bind (wpAny_field he rfl (x := .ref it) rfl ?_)
  refine wpAny_bind (wpAny_nextOf_tuple_end hh hit ht hx fun h' x he' hx' => ?_)
  obtain ⟨o, ho, hc⟩ := hx'
  refine wpAny_bind (wpAny_isInstance (T := "StopIteration") (b := true) ⟨o, ho, hc⟩ isSubtype_stop ?_)
  exact wpAny_pure (hQ _ he')
end
end PySem
namespace L2
open PySem PySem.Spec PyProof.Rows
/-- the tuple at a, each item in a new pair -/
def Itte (K : PySem.W.Frag) (a : Addr) : It :=
  ⟨fun i H => ∃ (xs : List V) (x : V), SqT K H a xs ∧ xs[i]? = some x, fun i H v H' => ∃ T x, v = .ref T ∧ H T = none ∧ H' = upd H T (.tup [.int (i : Nat), x]) ∧ ∀ xs, SqT K H a xs → xs[i]? = some x, fun i H => ∃ xs : List V, SqT K H a xs ∧ xs.length ≤ i⟩
theorem turn_enumT {P : Program} {w : World} {K : PySem.W.Frag} {elts : List Expr} {kk : Nat} {tpos : Pos} (a e it : Addr) :
    Turn P w K (.Tuple elts kk tpos) (Itte K a) [e, it] e (fun i h => (∃ old, IsEnum h e it ((i : Nat) : Int) old) ∧ h.IsTupleIter it a i ∧ e ≠ it) where
  mem := by simp
  obj := fun i h st b hb => by
    obtain ⟨⟨old, he⟩, ⟨o, ho, hc, hd⟩, _⟩ := st
    have e' : b = e ∨ b = it := by simpa using hb
    rcases e' with z | z
    · rw [z]; exact ⟨_, he, fun v q => nomatch q⟩
    · rw [z]; exact ⟨o, ho, fun v q => by rw [hd] at q; cases q⟩
  keep := fun i h h' st k => let ⟨⟨old, he⟩, hi, hne⟩ := st; ⟨⟨old, k e (by simp) _ he⟩, hi.at fun o q => k it (by simp) o q, hne⟩
  item := by
    intro X hP hw hK hc i pins s σ H E I hf st hg
    subst hP hw hK
    obtain ⟨⟨old, he⟩, hit, hne⟩ := st
    obtain ⟨xs, x, hq, hx⟩ := hg
    obtain ⟨its, rv, p, hz⟩ := I.tuple hq
    obtain ⟨u, hu, ru⟩ := rv.get hx
    have pt : s.heap.IsTuple a its.toArray := p
    have hea : e ≠ a := fun z => by
      obtain ⟨o, ho, hc, _⟩ := pt
      rw [← z, he] at ho
      cases ho
      exact absurd (show Value.type "enumerate" = Value.type "tuple" from hc) (by decide)
    have hia : a ≠ it := fun z => by
      obtain ⟨o, ho, hc, _⟩ := pt
      obtain ⟨o2, ho2, hc2, _⟩ := hit
      rw [z, ho2] at ho
      cases ho
      rw [hc2] at hc
      exact absurd hc (by decide)
    have hel : e < s.heap.objs.size := Heap.lt_size he
    have hil : it < s.heap.objs.size := by obtain ⟨_, q, _⟩ := hit; exact Heap.lt_size q
    have hlt : i < its.toArray.size := by
      have := (List.getElem?_eq_some_iff.mp hu).1
      simpa using this
    refine wpAny_pyNext_enum_itemD (Draws.tuple (prog := X.prog) (w := X.w) (A := X.A.in1) (I.ok.hd hc) it a hia its.toArray) he ⟨hit, pt⟩ hlt hne (by simp [hne, hea]) fun x' h' tk hx' ho st' hT hsz hk => ?_
    obtain rfl : x' = u := by
      have h1 : its[i]? = some x' := by simpa using hx'
      rw [hu] at h1
      exact (Option.some.inj h1).symm
    obtain ⟨hit', _⟩ := st'
    refine ⟨_, rfl, wpAny_letOwnedTupleGo_enum (s := { s with heap := h', toks := tk + 1 }) ho fun h'' he' sb => ?_⟩
    have hT2 : h''.get? s.heap.objs.size = some { cls := .type "tuple", data := .seq #[.int i tk, x'] } := (sb.2 _ (Nat.ne_of_gt hel)).trans hT
    have new : ObjOk X.prog X.w (upd H s.heap.objs.size (.tup [.int (i : Nat), x])) h'' s.heap.objs.size (.tup [.int (i : Nat), x]) :=
      ⟨by show 2 ≤ sizeLine; decide, [.int i tk, x'], .cons ⟨_, rfl⟩ (.cons ru .nil), ⟨_, hT2, rfl, _, rfl⟩⟩
    have I1 : Inv X pins σ (upd H s.heap.objs.size (.tup [.int (i : Nat), x])) { s with heap := h'', toks := tk + 1 } :=
      I.turnedNew (ch := [e, it]) (fun b ob hb q => (sb.2 b (fun z => hb (by simp [z]))).trans (hk b ob (fun z => hb (by simp [z])) (fun z => hb (by simp [z])) q)) hf (Nat.le_refl _) new
    refine ⟨.ref s.heap.objs.size, _, I1, rfl, ⟨_, x, rfl, I.hok.fresh (Nat.le_refl _), rfl, fun ys hy => by rw [I.tuple_inj hy hq]; exact hx⟩, ⟨⟨x', ?_⟩, hit'.at fun o q => (sb.2 it (Ne.symm hne)).trans q, hne⟩, fun b hb => ?_⟩
    · have e1 : ((i + 1 : Nat) : Int) = (i : Int) + 1 := by omega
      rw [e1]; exact he'
    · have hb' : b < s.heap.objs.size := by
        have e' : b = e ∨ b = it := by simpa using hb
        rcases e' with z | z
        · rw [z]; exact hel
        · rw [z]; exact hil
      rw [upd_ne (Nat.ne_of_lt hb')]
      exact (hf b hb).1
  done := by
    intro X hP hw hK hc i pins s σ H E I hf st hg
    subst hP hw hK
    obtain ⟨⟨old, he⟩, hit, hne⟩ := st
    obtain ⟨xs, hq, hx⟩ := hg
    obtain ⟨its, rv, p, hz⟩ := I.tuple hq
    obtain ⟨f0, f1, f2, f3, f4, f5⟩ := hf it (by simp)
    have hl := rv.length
    exact vo_next_tup_end (I.ok.hd hc) he hit (show s.heap.IsTuple a its.toArray from p) (by simp; omega) fun h' eb => ⟨rfl, I.turned (t' := s.toks) (fun b o hb q => eb b o hb q) f0 f1 f3 f4 f5⟩
  self := fun A i s Q E st h => let ⟨⟨_, he⟩, _⟩ := st; wpAny_pyIter_enum he h
/-- enumerate over a list or a tuple -/
def iEnum2 (K : PySem.W.Frag) (ta : TA) : TI := fun σ H R => ta σ H fun vs H1 => ∃ a, vs = [.ref a] ∧ ((∃ xs, SqL K H1 a xs) ∧ R (Ite K a) H1 ∨ (∃ xs, SqT K H1 a xs) ∧ R (Itte K a) H1)
theorem pi_enum2 {X : Cx} {e : Expr} {ta : TA} {p pos tpos : Pos} {elts : List Expr} {kk : Nat} (hg : Gl X "enumerate") (hm : X.mg "enumerate" = none) (ha : PA X [e] ta) (hs : starEach [e] X.env = [(false, eval e X.env)] := by rfl) :
    PI X (.Tuple elts kk tpos) (.Call (.Name "enumerate" p) [e] [] pos) (iEnum2 X.K ta) := by
  refine ⟨fun pins s σ H R I h => ?_⟩
  refine Call_ (ld_blt I hg hm boot_enumerate (PyProof.Rows.callWith_type1 (thn (ha.run pos pins s σ H _ I h) fun us s1 ⟨vs, H1, I1, r1, q1⟩ => ?_) hs rfl))
  obtain ⟨a, ex, q⟩ := q1
  subst ex
  cases r1 with
  | cons r rr =>
    cases rr
    cases r
    have two : ∀ b, (b = s1.heap.objs.size + 1 ∨ b = s1.heap.objs.size) → s1.heap.objs.size ≤ b := by
      rintro b (z | z)
      · rw [z]; exact Nat.le_add_right _ _
      · rw [z]; exact Nat.le_refl _
    rcases q with ⟨⟨xs, hq⟩, q⟩ | ⟨⟨xs, hq⟩, q⟩
    · obtain ⟨its, rv, p', hz⟩ := I1.list hq
      refine call_enumerate_list p'.isList fun h' he hit hsz hk => wpAny_pyIter_enum he ?_
      have I2 : Inv X pins σ H1 { s1 with heap := h' } := I1.kept (t' := s1.toks) hk
      refine ⟨s1.heap.objs.size + 1, [s1.heap.objs.size + 1, s1.heap.objs.size], _, _, H1, rfl, I2, turn_enum a (s1.heap.objs.size + 1) s1.heap.objs.size, ⟨⟨.none, he⟩, hit, Nat.succ_ne_self _⟩, fun b hb => ?_, q⟩
      have hle := two b (by simpa using hb)
      exact I1.fpOk hle (I1.hok.fresh hle)
    · obtain ⟨its, rv, p', hz⟩ := I1.tuple hq
      have pt : s1.heap.IsTuple a its.toArray := p'
      refine vo_call_enumerate (begins_tuple a its.toArray) pt fun h' he hit hsz hk => wpAny_pyIter_enum he ?_
      have I2 : Inv X pins σ H1 { s1 with heap := h' } := I1.kept (t' := s1.toks) hk
      refine ⟨s1.heap.objs.size + 1, [s1.heap.objs.size + 1, s1.heap.objs.size], _, _, H1, rfl, I2, turn_enumT a (s1.heap.objs.size + 1) s1.heap.objs.size, ⟨⟨.none, he⟩, ⟨_, hit, rfl, rfl⟩, Nat.succ_ne_self _⟩, fun b hb => ?_, q⟩
      have hle := two b (by simpa using hb)
      exact I1.fpOk hle (I1.hok.fresh hle)
theorem for_enumL {K : PySem.W.Frag} {a : Addr} {xs : List V} {g : TG} {tb : TS} {D : Ends} {σ : St} {H : Hp} (Pv : Nat → St → Hp → Prop) (h0 : Pv 0 σ H) (hl : ∀ i σ H, i ≤ xs.length → Pv i σ H → SqL K H a xs)
    (hs : ∀ i x T σ H, xs[i]? = some x → H T = none → Pv i σ H → g (.ref T) σ (upd H T (.tup [.int (i : Nat), x])) fun σ2 H2 => tb { D with nx := Pv (i + 1), ct := Pv (i + 1), bk := D.nx } σ2 H2) (hd : ∀ σ H, Pv xs.length σ H → D.nx σ H) :
    ∃ W : Nat → Nat → St → Hp → Prop, (∃ m, W 0 m σ H) ∧ ∀ i m σ H, W i m σ H →
      ((Ite K a).stop i H ∧ D.nx σ H) ∨ ((Ite K a).go i H ∧ ∃ N : St → Hp → Prop, (∀ σ' H', N σ' H' → ∃ m', m' < m ∧ W (i + 1) m' σ' H') ∧ ∀ x H', (Ite K a).yld i H x H' → g x σ H' fun σ2 H2 => tb { D with nx := N, ct := N, bk := D.nx } σ2 H2) := by
  refine ⟨fun i m σ H => m = xs.length - i ∧ i ≤ xs.length ∧ Pv i σ H, ⟨xs.length, by simp, Nat.zero_le _, h0⟩, ?_⟩
  rintro i m σ H ⟨rfl, hi, p⟩
  have q := hl i σ H hi p
  by_cases hlt : i < xs.length
  · refine .inr ⟨⟨xs, xs[i], q, by simp [hlt]⟩, Pv (i + 1), fun σ' H' p' => ⟨xs.length - (i + 1), by omega, rfl, hlt, p'⟩, fun x H' y => ?_⟩
    obtain ⟨T, x, rfl, hT, rfl, y⟩ := y
    exact hs i x T σ _ (y xs q) hT p
  · have e : i = xs.length := by omega
    subst e
    exact .inl ⟨⟨xs, q, Nat.le_refl _⟩, hd σ H p⟩
theorem for_enumT {K : PySem.W.Frag} {a : Addr} {xs : List V} {g : TG} {tb : TS} {D : Ends} {σ : St} {H : Hp} (Pv : Nat → St → Hp → Prop) (h0 : Pv 0 σ H) (hl : ∀ i σ H, i ≤ xs.length → Pv i σ H → SqT K H a xs)
    (hs : ∀ i x T σ H, xs[i]? = some x → H T = none → Pv i σ H → g (.ref T) σ (upd H T (.tup [.int (i : Nat), x])) fun σ2 H2 => tb { D with nx := Pv (i + 1), ct := Pv (i + 1), bk := D.nx } σ2 H2) (hd : ∀ σ H, Pv xs.length σ H → D.nx σ H) :
    ∃ W : Nat → Nat → St → Hp → Prop, (∃ m, W 0 m σ H) ∧ ∀ i m σ H, W i m σ H →
      ((Itte K a).stop i H ∧ D.nx σ H) ∨ ((Itte K a).go i H ∧ ∃ N : St → Hp → Prop, (∀ σ' H', N σ' H' → ∃ m', m' < m ∧ W (i + 1) m' σ' H') ∧ ∀ x H', (Itte K a).yld i H x H' → g x σ H' fun σ2 H2 => tb { D with nx := N, ct := N, bk := D.nx } σ2 H2) := by
  refine ⟨fun i m σ H => m = xs.length - i ∧ i ≤ xs.length ∧ Pv i σ H, ⟨xs.length, by simp, Nat.zero_le _, h0⟩, ?_⟩
  rintro i m σ H ⟨rfl, hi, p⟩
  have q := hl i σ H hi p
  by_cases hlt : i < xs.length
  · refine .inr ⟨⟨xs, xs[i], q, by simp [hlt]⟩, Pv (i + 1), fun σ' H' p' => ⟨xs.length - (i + 1), by omega, rfl, hlt, p'⟩, fun x H' y => ?_⟩
    obtain ⟨T, x, rfl, hT, rfl, y⟩ := y
    exact hs i x T σ _ (y xs q) hT p
  · have e : i = xs.length := by omega
    subst e
    exact .inl ⟨⟨xs, q, Nat.le_refl _⟩, hd σ H p⟩
end L2

set_option Elab.async false
set_option linter.all false
set_option maxRecDepth 100000
set_option maxHeartbeats 2000000
namespace L2
open PySem PySem.Spec PyProof.Rows
/-! ### repr of lists and tuples of small things -/
mutual
/-- the value v of the heap H is the data d (no dicts) -/
inductive RdV (H : Hp) : V → PyData → Prop
  | non : RdV H .non .none
  | bl (b : Bool) : RdV H (.bl b) (.bool b)
  | int (i : Int) : RdV H (.int i) (.int i)
  | str (x : Str) : RdV H (.str x) (.str x)
  | lst {a : Addr} {xs : List V} {ds : List PyData} (h : H a = some (.lst xs)) (r : RdVs H xs ds) : RdV H (.ref a) (.list ds)
  | tup {a : Addr} {xs : List V} {ds : List PyData} (h : H a = some (.tup xs)) (r : RdVs H xs ds) : RdV H (.ref a) (.tuple ds)
inductive RdVs (H : Hp) : List V → List PyData → Prop
  | nil : RdVs H [] []
  | cons {x : V} {xs : List V} {d : PyData} {ds : List PyData} (h : RdV H x d) (r : RdVs H xs ds) : RdVs H (x :: xs) (d :: ds)
end
mutual
theorem RdV.keep {H H' : Hp} (s : Same H H') : ∀ {x : V} {d : PyData}, RdV H x d → RdV H' x d
  | _, _, .non => .non
  | _, _, .bl b => .bl b
  | _, _, .int i => .int i
  | _, _, .str x => .str x
  | _, _, .lst h r => .lst (s _ _ h) (RdVs.keep s r)
  | _, _, .tup h r => .tup (s _ _ h) (RdVs.keep s r)
theorem RdVs.keep {H H' : Hp} (s : Same H H') : ∀ {xs : List V} {ds : List PyData}, RdVs H xs ds → RdVs H' xs ds
  | _, _, .nil => .nil
  | _, _, .cons h r => .cons (RdV.keep s h) (RdVs.keep s r)
end
section
variable {X : Cx} {pins : List (Addr × Obj)} {σ : St} {H : Hp} {s : Shared}
mutual
theorem RdV.reads (I : Inv X pins σ H s) : ∀ {x : V} {d : PyData}, RdV H x d → ∀ {u : Value}, RelV x u → ∃ as, Reads s.heap u d as
  | _, _, .non, u, r => ⟨[], by rw [show u = Value.none from r]; exact .none⟩
  | _, _, .bl b, u, r => ⟨[], by rw [show u = Value.bool b from r]; exact .bool b⟩
  | _, _, .int i, u, r => by
    obtain ⟨t, e⟩ : ∃ t, u = Value.int i t := r
    exact ⟨[], by rw [e]; exact .int i t⟩
  | _, _, .str x, u, r => by
    obtain ⟨t, e⟩ : ∃ t, u = Value.str x t := r
    exact ⟨[], by rw [e]; exact .str x t⟩
  | _, _, .lst (a := a) h q, u, r => by
    have e : u = Value.ref a := r
    obtain ⟨its, rv, p, hz⟩ := I.list (SqL.of h)
    obtain ⟨o, ho, hc, n, hd⟩ := p.isList
    obtain ⟨as, z⟩ := RdVs.reads I q rv
    exact ⟨a :: as, by rw [e]; exact .list ho hc hd (by simpa using z)⟩
  | _, _, .tup (a := a) h q, u, r => by
    have e : u = Value.ref a := r
    obtain ⟨its, rv, p, hz⟩ := I.tuple (SqT.of h)
    obtain ⟨o, ho, hc, n, hd⟩ := (show s.heap.IsTuple a its.toArray from p)
    obtain ⟨as, z⟩ := RdVs.reads I q rv
    exact ⟨as, by rw [e]; exact .tuple ho hc hd (by simpa using z)⟩
theorem RdVs.reads (I : Inv X pins σ H s) : ∀ {xs : List V} {ds : List PyData}, RdVs H xs ds → ∀ {us : List Value}, Vals xs us → ∃ as, ReadsAll s.heap us ds as
  | _, _, .nil, _, .nil => ⟨[], .nil⟩
  | _, _, .cons h q, _, .cons r rr => by
    obtain ⟨as, z⟩ := RdV.reads I h r
    obtain ⟨bs, zs⟩ := RdVs.reads I q rr
    exact ⟨as ++ bs, .cons z zs⟩
end
end
/-- repr(xs) where no other repr is under way -/
def rRepr : List V → Hp → VK → Prop := fun xs H Q => ∃ (a : Addr) (d : PyData), xs = [.ref a] ∧ RdV H (.ref a) d ∧ d.showable = true ∧ d.hasDict = false ∧ d.depth ≤ 20 ∧ d.shown.length ≤ sizeLine ∧ Q (.str d.shown) H
theorem call_repr_of {X : Cx} (hg : X.A.guards = some []) (hu : X.A.units + 64 < cLine) : CallR X (.builtin "repr") rRepr := by
  intro pins s σ H xs us Q I r h
  obtain ⟨a, d, rfl, hd, h1, h2, h3, h4, q⟩ := h
  cases r with
  | cons rx rr =>
    cases rr
    obtain ⟨as, z⟩ := hd.reads I rx
    cases rx
    exact repr_of_reads' z h1 (fun z => by rw [h2] at z; cases z) hg (by omega) (fun _ _ z => z) (fun h' u tk hk => ⟨.str d.shown, H, I.kept (t' := tk) hk, ⟨_, rfl⟩, q⟩) h4
/-! ### defs that want to know that no repr is under way -/
/-- as FnOk, called where no repr is under way -/
structure FnG (P : Program) (w : World) (K : PySem.W.Frag) (mg : Str → Option Value) (base : Heap) (k : Nat) (f : Addr) (fd : FuncData) (ps : List Str) (sp : Sp) : Prop where
  len : ∀ vs H Q E, sp vs H Q E → vs.length = ps.length
  run : ∀ (A : Around) (outer : List Env) (s : Shared) (H : Hp) (args : Args) (us : List Value) (vs : List V) (Q : VK) (E : XK), A.guards = some [] → Room k A → Env0 P w K mg base A outer s H → BindsTo s fd args (ps.zip us) → Vals vs us → sp vs H Q E →
    codeAny (model P w) A (.call (.ref f) args) (CR CX0 outer P w H s Q E) s
theorem Fun.okG {P : Program} {w : World} {K : PySem.W.Frag} {mg : Str → Option Value} {base : Heap} {x qual : Str} {st : Stmt} {f : Addr} {fd : FuncData} {N ps : List Str} {k : Nat} {sp : Sp} (F : Fun K x qual st f fd) (S : FnScope N ps (defScope st)) (len : ∀ vs H Q E, sp vs H Q E → vs.length = ps.length)
    (hbody : ∀ (cdv : Value) (A : Around) (outer : List Env) (s : Shared) (H : Hp) (vs : List V) (Q : VK) (E : XK), (A.deeper (envOfC qual (defScope st) s.heap.objs.size f cdv)).guards = some [] → Room k (A.deeper (envOfC qual (defScope st) s.heap.objs.size f cdv)) → sp vs H Q E →
      ∃ t, PSs (cxOf CX0 P w K mg base N qual (defScope st) f cdv A outer s H E).nox (defBody st) t ∧ t { nx := fun _ H' => Q .non H', rt := Q } (start N vs) H) : FnG P w K mg base (k + 1) f fd ps sp := by
  obtain ⟨oc, od, kV, doc, pm, an, cd, ct, osl, hfd, lk, hcd⟩ := F.ex
  refine ⟨len, fun A outer s H args us vs Q E gd room e0 bound rel want => ?_⟩
  rw [hfd] at lk bound
  have inS : K.In s.heap := e0.mod.kin.keeps fun b o e => (e0.bs b o e).1
  have kinds : ∀ y ∈ ps.zip us, (defScope st).names.lookup y.1 = some .local ∨ ((defScope st).names.lookup y.1 = some .cell ∧ ((cellsFrom (s.heap.objs.size + 1) (defScope st).names []).lookup y.1).isSome = true) := by
    rintro ⟨n, v⟩ hy
    exact (S.par n (List.of_mem_zip hy).1).elim .inl fun q => .inr ⟨q, PySem.W.cellsFrom_some _ _ _ (.inl q)⟩
  obtain ⟨t, term, now⟩ := hbody cd A outer s H vs Q E gd (room.deeper _) want
  refine codeAny_call_function room.depth (inS _ _ lk) rfl S.co S.gen rfl (PySem.W.codeRec_of inS hcd) (bound _ _ _ _ (wpAny_newFunctionEnv_cells S.kind kinds ?_))
  rintro env rfl s1 laid
  refine ⟨(e0.mod.nolimit.keeps fun b o e => (e0.bs b o e).1).keeps laid.toInCall.keep, codeAny_func (wpAny_mono (term.nox.run [] s1 (start N vs) H _ (inv_start S room.hd e0 (len _ _ _ _ want) rel laid) now) ?_ fun e s' hs => hs)⟩
  intro fl s' hs
  cases fl with
  | ret u =>
    obtain ⟨v, _, H', J, rv, q⟩ := hs
    exact ⟨v, H', J.os, J.bare, J.base, J.hok, rv, q⟩
  | next =>
    obtain ⟨_, H', J, q⟩ := hs
    exact ⟨V.non, H', J.os, J.bare, J.base, J.hok, rfl, q⟩
  | brk => exact hs.elim fun _ z => z.elim fun _ z => z.2.elim
  | cont => exact hs.elim fun _ z => z.elim fun _ z => z.2.elim
section
variable {X : Cx} {k : Nat} {f : Addr} {fd : FuncData} {ps : List Str} {sp : Sp} {x : Str} {q pos : Pos} {e : Expr} {es : List Expr} {t : TA}
theorem pe_callG (F : FnG X.prog X.w X.K X.mg X.base k f fd ps sp) (gd : X.A.guards = some []) (hr : Room k X.A) (hg : Gl X x) (hm : X.mg x = some (.ref f)) (hk : PySem.W.keepIn X.K (.ref f) = true) (hb : Binds X.K fd ps [])
    (ha : PA X (e :: es) t) (hdb : (x == ("__debug__" : Str)) = false := by decide) (he : starEach (e :: es) X.env = (false, eval e X.env) :: starEach es X.env := by rfl) (hpl : (backTo pos (starEach es X.env)).any (·.1) = false := by rfl) :
    PE X (.Call (.Name x q) (e :: es) [] pos) (tCall sp [] E0 t) := by
  refine ⟨fun pins s σ H Q I h => wpAny_Call_Name_kw (ld_glob I hg hm (PySem.W.callWith_K (h₀ := X.base) I.ok.mod.kin hk (thn (ha.run pos pins s σ H _ I h) ?_) he hpl) hdb)⟩
  rintro us s1 ⟨vs, H1, J, r, want⟩
  rw [List.append_nil] at want
  have b := hb s1 us J.kIn (by rw [List.append_nil, ← r.length]; exact F.len _ _ _ _ want)
  rw [List.append_nil] at b
  refine ⟨J.kIn, wpAny_call (codeAny_mono (F.run X.A X.stack s1 H1 ⟨us, []⟩ us vs Q E0 gd hr J.env0 b r want) ?_)⟩
  intro r s' hq
  rcases r with e | fl
  · exact False.elim hq
  · cases fl with
    | ret u => exact J.after hq
    | _ => exact False.elim hq
end
/-- a def that may raise, called where it does not -/
theorem passF {P : Program} {w : World} {X : Cx} : Passes (L2N.CX P w) X E0 := by
  rintro pins σ H s e s' I ⟨_, _, _, _, _, _, _, _, _, _, _, _, z⟩
  exact z.elim
end L2

set_option Elab.async false
set_option linter.all false
set_option maxRecDepth 100000
set_option maxHeartbeats 2000000
namespace L2
open PySem PySem.Spec PyProof.Rows
section
variable {P : Program} {w : World} {K : PySem.W.Frag} {mg mb : Str → Option Value} {k : Nat} {fa a : Addr} {fd : FuncData} {x : Str} {sp : Sp} {s : Shared} {vs : List Value} {ns : List Int}
/-- the law's def runs from the caller's own place, over a heap in which nothing but the script is told -/
theorem enterG (KX : K.In s.heap) (hns : s.heap.Ns mainGlobals mg) (hb : s.heap.Ns builtinsNs mb) (hbb : ∀ x : Str, x ≠ "__name__" → mb x = bootBuiltins x) (hlim : s.heap.NoLimit) (hg : s.gens = #[])
    (ha : s.heap.get? a = some { cls := .type "list", data := .seq vs.toArray }) (hr : Room k callerA)
    (F : ∀ base : Heap, K.In base → base.Ns mainGlobals mg → FnG P w K mg base k fa fd [x] sp) (hbind : ∀ (s : Shared) (u : Value), BindsTo s fd ⟨[u], []⟩ [(x, u)])
    (hsp : ∀ H : Hp, Only H → SqL K H a (ns.map V.int) → sp [.ref a] H (fun v _ => v = .bl true) fun _ _ _ => False)
    (H : Hp) (hO : Only H) (hS : SqL K H a (ns.map V.int)) (hok : HOk P w H s.heap) (hA : ∀ b, H b ≠ none → b = a) (hK : H a ≠ none → K.lookup a = none) :
    codeAny (model P w) callerA (.call (.ref fa) ⟨[.ref a], []⟩) (fun r t => r = .ok (.ret (.bool true)) ∧ OldK s.heap t.heap ∧ t.os = s.os ∧ AllBare t.gens) s := by
  -- no namespace is told, nothing of the written part is
  have free : ∀ {b : Addr}, b ≠ a → H b = none := fun {b} n => by
    cases e : H b with
    | none => rfl
    | some u => exact absurd (hA b (by rw [e]; exact fun z => nomatch z)) n
  have seen : ∀ {b : Addr} {o : Obj}, s.heap.get? b = some o → H b = none → (hidT s.heap H).get? b = some o := fun e n => hidT_get e n
  have names : ∀ {b : Addr} {m : Str → Option Value}, s.heap.Ns b m → (hidT s.heap H).Ns b m := by
    rintro b m ⟨o, es, ep, e, d, r⟩
    refine ⟨o, es, ep, seen e (free fun z => ?_), d, r⟩
    subst z
    rw [ha] at e
    cases e
    cases (show Data.seq vs.toArray _ = Data.dict es ep from d)
  have kin : K.In (hidT s.heap H) := by
    intro b o e
    refine seen (KX b o e) ?_
    by_cases z : b = a
    · subst z
      cases q : H b with
      | none => rfl
      | some u =>
        rw [hK (by rw [q]; exact fun z => nomatch z)] at e
        cases e
    · exact free z
  obtain ⟨mc, lim1, lim2⟩ := hlim
  have e0 : Env0 P w K mg (hidT s.heap H) callerA [] s H := ⟨rfl, ⟨kin, names hns, ⟨mb, names hb, hbb⟩, ⟨mc, names lim1, lim2⟩⟩, fun _ _ e => of_hidT e, Nat.le_of_eq (hidT_size _ _), trivial, fun b z => absurd (show b ∈ ([] : List Addr) from z) (by simp), hok, .of_eq hg⟩
  have run := (F _ kin (names hns)).run callerA [] s H ⟨[.ref a], []⟩ [.ref a] [.ref a] _ _ rfl hr e0 (hbind s (.ref a)) (.cons rfl .nil) (hsp H hO hS)
  refine codeAny_mono run ?_
  rintro (e | fl) t h
  · exact h.elim
  cases fl with
  | ret u =>
    obtain ⟨v, H', os, bare, un, ok', rv, qv⟩ := h
    obtain rfl : v = .bl true := qv
    obtain rfl : u = Value.bool true := rv
    refine ⟨rfl, OldK.of_keep fun b o e => ?_, os, bare⟩
    rcases hO b with z | ⟨ob, ys, z⟩
    · exact un.keep b o e z (fun z => absurd (show b ∈ ([] : List Addr) from z) (by simp)) (by simp)
    · obtain ⟨e1, _⟩ := hok b _ z
      obtain ⟨e2, _⟩ := ok' b _ (un.frzs b ob _ z)
      rw [e] at e1
      cases e1
      exact e2
  | _ => exact h.elim
theorem callG (KX : K.In s.heap) (hns : s.heap.Ns mainGlobals mg) (hb : s.heap.Ns builtinsNs mb) (hbb : ∀ x : Str, x ≠ "__name__" → mb x = bootBuiltins x) (hlim : s.heap.NoLimit) (hg : s.gens = #[])
    (ha : s.heap.get? a = some { cls := .type "list", data := .seq vs.toArray }) (hi : IntsAre vs ns) (hl : ns.length ≤ sizeLine) (hr : Room k callerA)
    (F : ∀ base : Heap, K.In base → base.Ns mainGlobals mg → FnG P w K mg base k fa fd [x] sp) (hbind : ∀ (s : Shared) (u : Value), BindsTo s fd ⟨[u], []⟩ [(x, u)])
    (hsp : ∀ H : Hp, Only H → SqL K H a (ns.map V.int) → sp [.ref a] H (fun v _ => v = .bl true) fun _ _ _ => False) :
    codeAny (model P w) callerA (.call (.ref fa) ⟨[.ref a], []⟩) (fun r t => r = .ok (.ret (.bool true)) ∧ OldK s.heap t.heap ∧ t.os = s.os ∧ AllBare t.gens) s := by
  have rv := vals_ints hi
  cases hk : K.lookup a with
  | some o =>
    have e := KX a o hk
    rw [ha] at e
    cases e
    have told : SqL K (fun _ => none) a (ns.map V.int) := .inr ⟨_, vs.toArray, _, hk, rfl, rfl, rfl, by rw [List.size_toArray, hi.length]; exact hl, by simpa using rv⟩
    exact enterG KX hns hb hbb hlim hg ha hr F hbind hsp _ (fun _ => .inl rfl) told (fun b u z => nomatch (show (none : Option HO) = some u from z)) (fun b z => absurd rfl z) fun z => absurd rfl z
  | none =>
    obtain ⟨H, here, away⟩ : ∃ H : Hp, H a = some (.frz { cls := .type "list", data := .seq vs.toArray } (.lst (ns.map V.int))) ∧ ∀ b, b ≠ a → H b = none := ⟨fun b => if b = a then _ else none, if_pos rfl, fun b n => if_neg n⟩
    refine enterG KX hns hb hbb hlim hg ha hr F hbind hsp H (fun b => ?_) (.inl (.inr ⟨_, here⟩)) (fun b u z => ?_) (fun b z => ?_) fun _ => hk
    · by_cases n : b = a
      · exact .inr ⟨_, _, by rw [n]; exact here⟩
      · exact .inl (away b n)
    · by_cases n : b = a
      · subst n
        rw [here] at z
        cases z
        exact ⟨ha, by rw [List.length_map]; exact hl, vs, _, rv, ha⟩
      · rw [away b n] at z
        cases z
    · exact Decidable.byContradiction fun n => z (away b n)
end
/-- the end, from the law's promise over defs that want to know that no repr is under way -/
theorem walk_ofG {l : PySem.W.OpenLaw} {n k : Nat} {q : Program} {loose : List Str} {XP : (Str → Option Value) → Heap → Prop} {YP : World → Heap → Prop} {d : DefRec} {K : Params → PySem.W.Frag} {sp : World → Sp} {x : Str}
    (hn : l.most = some n) (hn2 : n ≤ sizeLine) (hdf : d.params.defaults = []) (hr : Room k callerA)
    (hY : ∀ (w : World) (h : Heap), YP w h → (K w.params).In h)
    (F : ∀ (w : World) (mg : Str → Option Value) (fa : Addr) (h : Heap), (K w.params).In h → h.Ns mainGlobals mg → mg d.name = some (.ref fa) →
      ∃ fd : FuncData, (∀ (s : Shared) (u : Value), BindsTo s fd ⟨[u], []⟩ [(x, u)]) ∧ ∀ base : Heap, (K w.params).In base → base.Ns mainGlobals mg → FnG l.prog w (K w.params) mg base k fa fd [x] (sp w))
    (hsp : ∀ (w : World) (H : Hp) (a : Addr) (ns : List Int), ns.length ≤ n → Only H → SqL (K w.params) H a (ns.map V.int) → sp w [.ref a] H (fun v _ => v = .bl true) fun _ _ _ => False) :
    PySem.W.WalkO q loose XP YP l.row.toRowW d [] (fun f vs => PySem.call f vs) := by
  refine Att.attach_call hn hdf fun w _ s mg mb fa _ _ _ _ a vs ns G Y _ _ _ hmg hobj hints hlen hg => ?_
  obtain ⟨fd, hb, hF⟩ := F w mg fa _ (hY w _ Y) G.T.g hmg
  exact callG (hY w _ Y) G.T.g G.T.b G.T.builtins G.T.nolimit hg hobj hints (Nat.le_trans hlen hn2) hr hF hb fun H hO hS => hsp w H a ns hlen hO hS
end L2

set_option Elab.async false
set_option linter.all false
set_option maxRecDepth 100000
set_option maxHeartbeats 2000000
namespace K12
open PySem PySem.Spec PyProof.Rows L2
def top (i : Nat) : Stmt := PySem.Challenge.pw_holdingsshut_k12_move_lists_played.main.body.getD i (.Pass ⟨0, 0, 0, 0⟩)
abbrev s_is_whole : Stmt := top 23
abbrev N_is_whole : List Str := ["value"]
abbrev p_is_whole : List Str := ["value"]
theorem sc_is_whole : FnScope N_is_whole p_is_whole (defScope s_is_whole) := ⟨rfl, rfl, rfl, by decide +kernel, rfl, by decide +kernel, by decide +kernel⟩
abbrev s_lies_within : Stmt := top 24
abbrev N_lies_within : List Str := ["value", "low", "high"]
abbrev p_lies_within : List Str := ["value", "low", "high"]
theorem sc_lies_within : FnScope N_lies_within p_lies_within (defScope s_lies_within) := ⟨rfl, rfl, rfl, by decide +kernel, rfl, by decide +kernel, by decide +kernel⟩
abbrev s_choose : Stmt := top 25
abbrev N_choose : List Str := ["n", "k", "many", "taken"]
abbrev p_choose : List Str := ["n", "k"]
theorem sc_choose : FnScope N_choose p_choose (defScope s_choose) := ⟨rfl, rfl, rfl, by decide +kernel, rfl, by decide +kernel, by decide +kernel⟩
abbrev s_need_cells : Stmt := top 27
abbrev N_need_cells : List Str := ["cells"]
abbrev p_need_cells : List Str := ["cells"]
theorem sc_need_cells : FnScope N_need_cells p_need_cells (defScope s_need_cells) := ⟨rfl, rfl, rfl, by decide +kernel, rfl, by decide +kernel, by decide +kernel⟩
abbrev s_rounds : Stmt := top 28
abbrev N_rounds : List Str := ["length", "cells", "many"]
abbrev p_rounds : List Str := ["length", "cells"]
theorem sc_rounds : FnScope N_rounds p_rounds (defScope s_rounds) := ⟨rfl, rfl, rfl, by decide +kernel, rfl, by decide +kernel, by decide +kernel⟩
abbrev s_least_steps : Stmt := top 29
abbrev N_least_steps : List Str := ["length", "cells", "many"]
abbrev p_least_steps : List Str := ["length", "cells"]
theorem sc_least_steps : FnScope N_least_steps p_least_steps (defScope s_least_steps) := ⟨rfl, rfl, rfl, by decide +kernel, rfl, by decide +kernel, by decide +kernel⟩
abbrev s_best_stop : Stmt := top 30
abbrev N_best_stop : List Str := ["length", "cells", "due", "stop"]
abbrev p_best_stop : List Str := ["length", "cells"]
theorem sc_best_stop : FnScope N_best_stop p_best_stop (defScope s_best_stop) := ⟨rfl, rfl, rfl, by decide +kernel, rfl, by decide +kernel, by decide +kernel⟩
abbrev s_move_list : Stmt := top 31
abbrev N_move_list : List Str := ["length", "cells", "moves"]
abbrev p_move_list : List Str := ["length", "cells"]
theorem sc_move_list : FnScope N_move_list p_move_list (defScope s_move_list) := ⟨rfl, rfl, rfl, by decide +kernel, rfl, by decide +kernel, by decide +kernel⟩
abbrev s_write_moves : Stmt := top 32
abbrev N_write_moves : List Str := ["length", "origin", "first", "cells", "moves", "left", "stop", "_"]
abbrev p_write_moves : List Str := ["length", "origin", "first", "cells", "moves"]
theorem sc_write_moves : FnScope N_write_moves p_write_moves (defScope s_write_moves) := ⟨rfl, rfl, rfl, by decide +kernel, rfl, by decide +kernel, by decide +kernel⟩
abbrev s_check_moves : Stmt := top 33
abbrev N_check_moves : List Str := ["length", "cells", "moves", "held", "due", "steps", "at", "move", "index"]
abbrev p_check_moves : List Str := ["length", "cells", "moves"]
theorem sc_check_moves : FnScope N_check_moves p_check_moves (defScope s_check_moves) := ⟨rfl, rfl, rfl, by decide +kernel, rfl, by decide +kernel, by decide +kernel⟩
abbrev s_is_move : Stmt := top 34
abbrev N_is_move : List Str := ["move", "cells"]
abbrev p_is_move : List Str := ["move", "cells"]
theorem sc_is_move : FnScope N_is_move p_is_move (defScope s_is_move) := ⟨rfl, rfl, rfl, by decide +kernel, rfl, by decide +kernel, by decide +kernel⟩
abbrev s_store : Stmt := top 36
abbrev N_store : List Str := ["script", "seed", "cell"]
abbrev p_store : List Str := ["script"]
theorem sc_store : FnScope N_store p_store (defScope s_store) := ⟨rfl, rfl, rfl, by decide +kernel, rfl, by decide +kernel, by decide +kernel⟩
abbrev s_mix : Stmt := top 37
abbrev N_mix : List Str := ["n", "k", "x"]
abbrev p_mix : List Str := ["n", "k"]
theorem sc_mix : FnScope N_mix p_mix (defScope s_mix) := ⟨rfl, rfl, rfl, by decide +kernel, rfl, by decide +kernel, by decide +kernel⟩
abbrev s_take : Stmt := top 38
abbrev N_take : List Str := ["store", "many", "cell", "digit"]
abbrev p_take : List Str := ["store", "many"]
theorem sc_take : FnScope N_take p_take (defScope s_take) := ⟨rfl, rfl, rfl, by decide +kernel, rfl, by decide +kernel, by decide +kernel⟩
abbrev s_edge : Stmt := top 39
abbrev N_edge : List Str := ["store", "many", "way"]
abbrev p_edge : List Str := ["store", "many"]
theorem sc_edge : FnScope N_edge p_edge (defScope s_edge) := ⟨rfl, rfl, rfl, by decide +kernel, rfl, by decide +kernel, by decide +kernel⟩
abbrev s_odds : Stmt := top 40
abbrev N_odds : List Str := ["store", "many"]
abbrev p_odds : List Str := ["store", "many"]
theorem sc_odds : FnScope N_odds p_odds (defScope s_odds) := ⟨rfl, rfl, rfl, by decide +kernel, rfl, by decide +kernel, by decide +kernel⟩
abbrev s_pick : Stmt := top 41
abbrev N_pick : List Str := ["store", "items"]
abbrev p_pick : List Str := ["store", "items"]
theorem sc_pick : FnScope N_pick p_pick (defScope s_pick) := ⟨rfl, rfl, rfl, by decide +kernel, rfl, by decide +kernel, by decide +kernel⟩
abbrev s_length : Stmt := top 42
abbrev N_length : List Str := ["store", "way"]
abbrev p_length : List Str := ["store"]
theorem sc_length : FnScope N_length p_length (defScope s_length) := ⟨rfl, rfl, rfl, by decide +kernel, rfl, by decide +kernel, by decide +kernel⟩
abbrev s_cellcount : Stmt := top 43
abbrev N_cellcount : List Str := ["store"]
abbrev p_cellcount : List Str := ["store"]
theorem sc_cellcount : FnScope N_cellcount p_cellcount (defScope s_cellcount) := ⟨rfl, rfl, rfl, by decide +kernel, rfl, by decide +kernel, by decide +kernel⟩
abbrev s_badcells : Stmt := top 44
abbrev N_badcells : List Str := ["store"]
abbrev p_badcells : List Str := ["store"]
theorem sc_badcells : FnScope N_badcells p_badcells (defScope s_badcells) := ⟨rfl, rfl, rfl, by decide +kernel, rfl, by decide +kernel, by decide +kernel⟩
abbrev s_moves : Stmt := top 45
abbrev N_moves : List Str := ["store", "n", "source", "first", "last", "told", "k", "stop", "j"]
abbrev p_moves : List Str := ["store", "n", "source", "first", "last"]
theorem sc_moves : FnScope N_moves p_moves (defScope s_moves) := ⟨rfl, rfl, rfl, by decide +kernel, rfl, by decide +kernel, by decide +kernel⟩
abbrev s_play : Stmt := top 46
abbrev N_play : List Str := ["n", "many", "moves", "held", "due", "ups", "at", "move", "index"]
abbrev p_play : List Str := ["n", "many", "moves"]
theorem sc_play : FnScope N_play p_play (defScope s_play) := ⟨rfl, rfl, rfl, by decide +kernel, rfl, by decide +kernel, by decide +kernel⟩
abbrev s_moveshape : Stmt := top 47
abbrev N_moveshape : List Str := ["move", "many", "number"]
abbrev p_moveshape : List Str := ["move", "many"]
theorem sc_moveshape : FnScope N_moveshape p_moveshape (defScope s_moveshape) := ⟨rfl, rfl, rfl, by decide +kernel, rfl, by decide +kernel, by decide +kernel⟩
abbrev s_leastups : Stmt := top 48
abbrev N_leastups : List Str := ["n", "many", "total", "part", "q"]
abbrev p_leastups : List Str := ["n", "many"]
theorem sc_leastups : FnScope N_leastups p_leastups (defScope s_leastups) := ⟨rfl, rfl, rfl, by decide +kernel, rfl, by decide +kernel, by decide +kernel⟩
abbrev s_isint : Stmt := top 49
abbrev N_isint : List Str := ["thing"]
abbrev p_isint : List Str := ["thing"]
theorem sc_isint : FnScope N_isint p_isint (defScope s_isint) := ⟨rfl, rfl, rfl, by decide +kernel, rfl, by decide +kernel, by decide +kernel⟩
abbrev s_same : Stmt := top 50
abbrev N_same : List Str := ["one", "two", "key", "listed", "paired", "k"]
abbrev p_same : List Str := ["one", "two"]
theorem sc_same : FnScope N_same p_same (defScope s_same) := ⟨rfl, rfl, rfl, by decide +kernel, rfl, by decide +kernel, by decide +kernel⟩
abbrev s_movesbent : Stmt := top 51
abbrev N_movesbent : List Str := ["store", "moves", "many", "cell", "other", "odd", "way", "at"]
abbrev p_movesbent : List Str := ["store", "moves", "many"]
theorem sc_movesbent : FnScope N_movesbent p_movesbent (defScope s_movesbent) := ⟨rfl, rfl, rfl, by decide +kernel, rfl, by decide +kernel, by decide +kernel⟩
abbrev s_kinds : Stmt := top 52
abbrev N_kinds : List Str := ["e", "rows", "row"]
abbrev p_kinds : List Str := ["e"]
theorem sc_kinds : FnScope N_kinds p_kinds (defScope s_kinds) := ⟨rfl, rfl, rfl, by decide +kernel, rfl, by decide +kernel, by decide +kernel⟩
abbrev s_clean : Stmt := top 53
abbrev N_clean : List Str := ["e", "base", "word"]
abbrev p_clean : List Str := ["e", "base", "word"]
theorem sc_clean : FnScope N_clean p_clean (defScope s_clean) := ⟨rfl, rfl, rfl, by decide +kernel, rfl, by decide +kernel, by decide +kernel⟩
abbrev s_leasttable : Stmt := top 54
abbrev N_leasttable : List Str := ["most", "many", "n", "c"]
abbrev p_leasttable : List Str := ["most", "many"]
theorem sc_leasttable : FnScope N_leasttable p_leasttable (defScope s_leasttable) := ⟨rfl, rfl, rfl, by decide +kernel, rfl, by decide +kernel, by decide +kernel⟩
abbrev s_stopof : Stmt := top 55
abbrev N_stopof : List Str := ["table", "n", "many", "stop"]
abbrev p_stopof : List Str := ["table", "n", "many"]
theorem sc_stopof : FnScope N_stopof p_stopof (defScope s_stopof) := ⟨rfl, rfl, rfl, by decide +kernel, rfl, by decide +kernel, by decide +kernel⟩
abbrev s_listof : Stmt := top 56
abbrev N_listof : List Str := ["n", "many", "deep", "table", "opened", "told", "k", "size", "source", "first", "stop"]
abbrev p_listof : List Str := ["n", "many"]
theorem sc_listof : FnScope N_listof p_listof (defScope s_listof) := ⟨rfl, rfl, rfl, by decide +kernel, rfl, by decide +kernel, by decide +kernel⟩
abbrev s_refusal : Stmt := top 57
abbrev N_refusal : List Str := ["e"]
abbrev p_refusal : List Str := ["e"]
theorem sc_refusal : FnScope N_refusal p_refusal (defScope s_refusal) := ⟨rfl, rfl, rfl, by decide +kernel, rfl, by decide +kernel, by decide +kernel⟩
abbrev s_said : Stmt := top 58
abbrev N_said : List Str := ["n", "many", "moves", "e"]
abbrev p_said : List Str := ["n", "many", "moves"]
theorem sc_said : FnScope N_said p_said (defScope s_said) := ⟨rfl, rfl, rfl, by decide +kernel, rfl, by decide +kernel, by decide +kernel⟩
abbrev s_playsright : Stmt := top 59
abbrev N_playsright : List Str := ["n", "many", "moves", "good", "number", "due", "kept"]
abbrev p_playsright : List Str := ["n", "many", "moves"]
theorem sc_playsright : FnScope N_playsright p_playsright (defScope s_playsright) := ⟨rfl, rfl, rfl, by decide +kernel, rfl, by decide +kernel, by decide +kernel⟩
abbrev s_listright : Stmt := top 60
abbrev N_listright : List Str := ["store", "n", "many", "due", "told"]
abbrev p_listright : List Str := ["store", "n", "many"]
theorem sc_listright : FnScope N_listright p_listright (defScope s_listright) := ⟨rfl, rfl, rfl, by decide +kernel, rfl, by decide +kernel, by decide +kernel⟩
abbrev s_law : Stmt := top 61
abbrev N_law : List Str := ["script", "store", "n", "many", "size", "right", "bent", "told", "moves", "bare", "near", "odd", "answers", "k"]
abbrev p_law : List Str := ["script"]
theorem sc_law : FnScope N_law p_law (defScope s_law) := ⟨rfl, rfl, rfl, by decide +kernel, rfl, by decide +kernel, by decide +kernel⟩
/-- what the top has written: built-in names are free, each class stands where it stands -/
structure Txt (P : Program) (K : PySem.W.Frag) (mg : Str → Option Value) (C_VaultError C_TooMany C_NumberError C_BadPrime C_NoInverse C_NoNumber C_BadTable C_BadCells C_TextError C_ShapeError C_PlanError C_CourseError C_KnowError C_PaperError C_BadStep C_BadBlind C_BadMove C_NotShut C_NotOpen C_NotTheft C_NotPrice fV fI_BadMove fI_BadCells : Addr) : Prop where
  b_int : mg "int" = none
  b_bool : mg "bool" = none
  b_isinstance : mg "isinstance" = none
  b_range : mg "range" = none
  b_min : mg "min" = none
  b_max : mg "max" = none
  b_abs : mg "abs" = none
  b_len : mg "len" = none
  b_list : mg "list" = none
  b_str : mg "str" = none
  b_dict : mg "dict" = none
  b_tuple : mg "tuple" = none
  b_ValueError : mg "ValueError" = none
  b_enumerate : mg "enumerate" = none
  b_repr : mg "repr" = none
  g_VaultError : mg "VaultError" = some (.ref C_VaultError)
  g_TooMany : mg "TooMany" = some (.ref C_TooMany)
  g_NumberError : mg "NumberError" = some (.ref C_NumberError)
  g_BadPrime : mg "BadPrime" = some (.ref C_BadPrime)
  g_NoInverse : mg "NoInverse" = some (.ref C_NoInverse)
  g_NoNumber : mg "NoNumber" = some (.ref C_NoNumber)
  g_BadTable : mg "BadTable" = some (.ref C_BadTable)
  g_BadCells : mg "BadCells" = some (.ref C_BadCells)
  g_TextError : mg "TextError" = some (.ref C_TextError)
  g_ShapeError : mg "ShapeError" = some (.ref C_ShapeError)
  g_PlanError : mg "PlanError" = some (.ref C_PlanError)
  g_CourseError : mg "CourseError" = some (.ref C_CourseError)
  g_KnowError : mg "KnowError" = some (.ref C_KnowError)
  g_PaperError : mg "PaperError" = some (.ref C_PaperError)
  g_BadStep : mg "BadStep" = some (.ref C_BadStep)
  g_BadBlind : mg "BadBlind" = some (.ref C_BadBlind)
  g_BadMove : mg "BadMove" = some (.ref C_BadMove)
  g_NotShut : mg "NotShut" = some (.ref C_NotShut)
  g_NotOpen : mg "NotOpen" = some (.ref C_NotOpen)
  g_NotTheft : mg "NotTheft" = some (.ref C_NotTheft)
  g_NotPrice : mg "NotPrice" = some (.ref C_NotPrice)

  lf_BadMove : PySem.VX.Leaf P K mg C_BadMove fV fI_BadMove "BadMove" ["at"]
  ix_BadMove : PySem.W.exmOne K (.ref C_BadMove) (.ref C_VaultError) = some true
  k_BadMove_VaultError : PySem.W.kitOne K (.ref C_BadMove) (.ref C_VaultError) = some true
  k_BadMove_TooMany : PySem.W.kitOne K (.ref C_BadMove) (.ref C_TooMany) = some false
  k_BadMove_NumberError : PySem.W.kitOne K (.ref C_BadMove) (.ref C_NumberError) = some false
  k_BadMove_BadPrime : PySem.W.kitOne K (.ref C_BadMove) (.ref C_BadPrime) = some false
  k_BadMove_NoInverse : PySem.W.kitOne K (.ref C_BadMove) (.ref C_NoInverse) = some false
  k_BadMove_NoNumber : PySem.W.kitOne K (.ref C_BadMove) (.ref C_NoNumber) = some false
  k_BadMove_BadTable : PySem.W.kitOne K (.ref C_BadMove) (.ref C_BadTable) = some false
  k_BadMove_BadCells : PySem.W.kitOne K (.ref C_BadMove) (.ref C_BadCells) = some false
  k_BadMove_TextError : PySem.W.kitOne K (.ref C_BadMove) (.ref C_TextError) = some false
  k_BadMove_ShapeError : PySem.W.kitOne K (.ref C_BadMove) (.ref C_ShapeError) = some false
  k_BadMove_PlanError : PySem.W.kitOne K (.ref C_BadMove) (.ref C_PlanError) = some false
  k_BadMove_CourseError : PySem.W.kitOne K (.ref C_BadMove) (.ref C_CourseError) = some false
  k_BadMove_KnowError : PySem.W.kitOne K (.ref C_BadMove) (.ref C_KnowError) = some false
  k_BadMove_PaperError : PySem.W.kitOne K (.ref C_BadMove) (.ref C_PaperError) = some true
  k_BadMove_BadStep : PySem.W.kitOne K (.ref C_BadMove) (.ref C_BadStep) = some false
  k_BadMove_BadBlind : PySem.W.kitOne K (.ref C_BadMove) (.ref C_BadBlind) = some false
  k_BadMove_BadMove : PySem.W.kitOne K (.ref C_BadMove) (.ref C_BadMove) = some true
  k_BadMove_NotShut : PySem.W.kitOne K (.ref C_BadMove) (.ref C_NotShut) = some false
  k_BadMove_NotOpen : PySem.W.kitOne K (.ref C_BadMove) (.ref C_NotOpen) = some false
  k_BadMove_NotTheft : PySem.W.kitOne K (.ref C_BadMove) (.ref C_NotTheft) = some false
  k_BadMove_NotPrice : PySem.W.kitOne K (.ref C_BadMove) (.ref C_NotPrice) = some false
  k_BadMove_ValueError : PySem.W.kitOne K (.ref C_BadMove) (.type "ValueError") = some true
  no_BadMove_cells : PySem.W.findIn K (.ref C_BadMove) "cells" = some none
  lf_BadCells : PySem.VX.Leaf P K mg C_BadCells fV fI_BadCells "BadCells" ["cells"]
  ix_BadCells : PySem.W.exmOne K (.ref C_BadCells) (.ref C_VaultError) = some true
  k_BadCells_VaultError : PySem.W.kitOne K (.ref C_BadCells) (.ref C_VaultError) = some true
  k_BadCells_TooMany : PySem.W.kitOne K (.ref C_BadCells) (.ref C_TooMany) = some false
  k_BadCells_NumberError : PySem.W.kitOne K (.ref C_BadCells) (.ref C_NumberError) = some true
  k_BadCells_BadPrime : PySem.W.kitOne K (.ref C_BadCells) (.ref C_BadPrime) = some false
  k_BadCells_NoInverse : PySem.W.kitOne K (.ref C_BadCells) (.ref C_NoInverse) = some false
  k_BadCells_NoNumber : PySem.W.kitOne K (.ref C_BadCells) (.ref C_NoNumber) = some false
  k_BadCells_BadTable : PySem.W.kitOne K (.ref C_BadCells) (.ref C_BadTable) = some false
  k_BadCells_BadCells : PySem.W.kitOne K (.ref C_BadCells) (.ref C_BadCells) = some true
  k_BadCells_TextError : PySem.W.kitOne K (.ref C_BadCells) (.ref C_TextError) = some false
  k_BadCells_ShapeError : PySem.W.kitOne K (.ref C_BadCells) (.ref C_ShapeError) = some false
  k_BadCells_PlanError : PySem.W.kitOne K (.ref C_BadCells) (.ref C_PlanError) = some false
  k_BadCells_CourseError : PySem.W.kitOne K (.ref C_BadCells) (.ref C_CourseError) = some false
  k_BadCells_KnowError : PySem.W.kitOne K (.ref C_BadCells) (.ref C_KnowError) = some false
  k_BadCells_PaperError : PySem.W.kitOne K (.ref C_BadCells) (.ref C_PaperError) = some false
  k_BadCells_BadStep : PySem.W.kitOne K (.ref C_BadCells) (.ref C_BadStep) = some false
  k_BadCells_BadBlind : PySem.W.kitOne K (.ref C_BadCells) (.ref C_BadBlind) = some false
  k_BadCells_BadMove : PySem.W.kitOne K (.ref C_BadCells) (.ref C_BadMove) = some false
  k_BadCells_NotShut : PySem.W.kitOne K (.ref C_BadCells) (.ref C_NotShut) = some false
  k_BadCells_NotOpen : PySem.W.kitOne K (.ref C_BadCells) (.ref C_NotOpen) = some false
  k_BadCells_NotTheft : PySem.W.kitOne K (.ref C_BadCells) (.ref C_NotTheft) = some false
  k_BadCells_NotPrice : PySem.W.kitOne K (.ref C_BadCells) (.ref C_NotPrice) = some false
  k_BadCells_ValueError : PySem.W.kitOne K (.ref C_BadCells) (.type "ValueError") = some true
  no_BadCells_at : PySem.W.findIn K (.ref C_BadCells) "at" = some none
end K12

set_option Elab.async false
set_option linter.all false
namespace K12
open PySem PySem.Spec PyProof.Rows L2
/-- what the list at st begins with stays -/
def Hd (st : Addr) (H H' : Hp) : Prop := ∀ x xs, H st = some (.lst (x :: xs)) → ∃ ys, H' st = some (.lst (x :: ys))
/-- all but the store stays, and the store's cells stay where they are -/
def ButS (st : Addr) (H H' : Hp) : Prop := But st H H' ∧ Hd st H H'
theorem ButS.refl {st : Addr} {H : Hp} : ButS st H H := ⟨.refl, fun _ xs h => ⟨xs, h⟩⟩
theorem ButS.trans {st : Addr} {H H1 H2 : Hp} (a : ButS st H H1) (b : ButS st H1 H2) : ButS st H H2 := ⟨a.1.trans b.1, fun x xs h => by
  obtain ⟨ys, h1⟩ := a.2 x xs h
  exact b.2 x ys h1⟩
theorem ButS.of {st : Addr} {H H' : Hp} (h : Same H H') : ButS st H H' := ⟨.of h, fun _ xs e => ⟨xs, h _ _ e⟩⟩
theorem ButS.new {st p : Addr} {H : Hp} {o : HO} (h : H p = none) : ButS st H (upd H p o) := .of (same_new h)
theorem ButS.set {st : Addr} {H : Hp} {x : V} {xs ys : List V} (h : H st = some (.lst (x :: xs))) : ButS st H (upd H st (.lst (x :: ys))) := ⟨.set, fun x' xs' e => by
  rw [h] at e
  cases e
  exact ⟨ys, upd_same⟩⟩
theorem ButS.free {st : Addr} {H H' : Hp} (a : ButS st H H') (S : Store H' st) {l : Addr} (h : H' l = Option.none) : H l = Option.none := a.1.free S h
/-- a list that came after the store's cells may be changed -/
theorem ButS.mutAway {st p : Addr} {H0 H2 : Hp} {o : HO} (S0 : Store H0 st) (b : ButS st H0 H2) (hp : H0 p = none) (S2 : Store H2 st) : Store (upd H2 p o) st ∧ ButS st H0 (upd H2 p o) := by
  obtain ⟨cl, ns, i1, i2, i3, i4, i5, i6, h1, h2, h3, h4, h5⟩ := S2.ex
  obtain ⟨cl0, ns0, j1, j2, j3, j4, j5, j6, g1, g2, _⟩ := S0.ex
  obtain ⟨ys, e⟩ := b.2 _ _ g1
  rw [h1] at e
  have ec : cl = cl0 := by
    injection e with e
    injection e with e
    injection e with e _
    injection e
  have n1 : st ≠ p := fun z => by rw [← z, g1] at hp; cases hp
  have n2 : cl ≠ p := fun z => by rw [ec] at z; rw [← z, g2] at hp; cases hp
  refine ⟨⟨cl, ns, i1, i2, i3, i4, i5, i6, by rw [upd_ne n1]; exact h1, by rw [upd_ne n2]; exact h2, h3, h4, h5⟩, fun c u nc e => ?_, fun x xs e => ?_⟩
  · rw [upd_ne (ne_of_none e hp)]
    exact b.1 c u nc e
  · rw [upd_ne n1]
    exact b.2 x xs e
end K12

/-! binomial numbers, rounds and least steps: plain mathematics -/
namespace M11
def bin : Nat → Nat → Nat
  | _, 0 => 1
  | 0, _ + 1 => 0
  | n + 1, k + 1 => bin n k + bin n (k + 1)
theorem bin_0 (n : Nat) : bin n 0 = 1 := by cases n <;> rfl
theorem bin_ss (n k : Nat) : bin (n + 1) (k + 1) = bin n k + bin n (k + 1) := rfl
theorem bin_lt : ∀ {n k : Nat}, n < k → bin n k = 0
  | 0, 0, h => absurd h (Nat.lt_irrefl _)
  | 0, k + 1, _ => rfl
  | n + 1, 0, h => absurd h (Nat.not_lt_zero _)
  | n + 1, k + 1, h => by rw [bin_ss, bin_lt (by omega), bin_lt (by omega)]
theorem bin_self : ∀ n : Nat, bin n n = 1
  | 0 => rfl
  | n + 1 => by rw [bin_ss, bin_self n, bin_lt (Nat.lt_succ_self n)]
theorem bin_mul : ∀ n k : Nat, bin n (k + 1) * (k + 1) = bin n k * (n - k)
  | 0, 0 => rfl
  | 0, k + 1 => by rw [bin_lt (by omega), bin_lt (by omega)]; simp
  | n + 1, 0 => by
    have h := bin_mul n 0
    rw [bin_0] at h
    rw [bin_ss, bin_0, bin_0]
    omega
  | n + 1, k + 1 => by
    have h1 := bin_mul n k
    have h2 := bin_mul n (k + 1)
    rw [bin_ss, bin_ss]
    by_cases hk : k + 1 ≤ n
    · have e1 : n + 1 - (k + 1) = (n - (k + 1)) + 1 := by omega
      have e2 : n - k = (n - (k + 1)) + 1 := by omega
      rw [e2] at h1
      rw [e1]
      generalize n - (k + 1) = d at h1 h2 ⊢
      generalize bin n (k + 1) = x at h1 h2 ⊢
      generalize bin n (k + 1 + 1) = y at h1 h2 ⊢
      generalize bin n k = z at h1 h2 ⊢
      have a1 : (x + y) * (k + 1 + 1) = x * (k + 1) + x + y * (k + 1 + 1) := by
        rw [Nat.add_mul, Nat.mul_succ x]
      have a2 : (z + x) * (d + 1) = z * (d + 1) + (x * d + x) := by
        rw [Nat.add_mul, Nat.mul_succ x]
      rw [a1, a2]
      omega
    · have e1 : n + 1 - (k + 1) = 0 := by omega
      rw [e1, Nat.mul_zero, bin_lt (show n < k + 1 by omega), bin_lt (show n < k + 1 + 1 by omega)]
      simp
theorem bin_symm : ∀ a b : Nat, bin (a + b) a = bin (a + b) b
  | 0, b => by rw [bin_0, Nat.zero_add, bin_self]
  | a + 1, 0 => by rw [Nat.add_zero, bin_0, bin_self]
  | a + 1, b + 1 => by
    have h1 := bin_symm a (b + 1)
    have h2 := bin_symm (a + 1) b
    have e : a + 1 + (b + 1) = (a + (b + 1)) + 1 := by omega
    have e2 : a + 1 + b = a + (b + 1) := by omega
    rw [e2] at h2
    rw [e, bin_ss, bin_ss, h1, h2]
    omega
theorem bin_min {n k : Nat} (h : k ≤ n) : bin n (min k (n - k)) = bin n k := by
  by_cases c : k ≤ n - k
  · rw [Nat.min_eq_left c]
  · rw [Nat.min_eq_right (by omega)]
    have e := bin_symm (n - k) k
    rw [Nat.sub_add_cancel h] at e
    exact e
theorem bin_step (n t : Nat) : bin n t * (n - t) / (t + 1) = bin n (t + 1) := by
  rw [← bin_mul]
  exact Nat.mul_div_cancel _ (Nat.succ_pos t)
/-- B c q: the worlds of q rounds -/
def B (c q : Nat) : Nat := bin (c + q) c
theorem B_0 (c : Nat) : B c 0 = 1 := bin_self c
theorem B_pascal (c q : Nat) : B (c + 1) (q + 1) = B c (q + 1) + B (c + 1) q := by
  unfold B
  have e1 : c + 1 + (q + 1) = (c + (q + 1)) + 1 := by omega
  have e2 : c + 1 + q = c + (q + 1) := by omega
  rw [e1, bin_ss, e2]
theorem B_pos (c : Nat) : ∀ q, 1 ≤ B c q := by
  intro q
  induction c generalizing q with
  | zero => unfold B; rw [bin_0]; exact Nat.le_refl 1
  | succ c ih =>
    induction q with
    | zero => rw [B_0]; exact Nat.le_refl 1
    | succ q iq => rw [B_pascal]; omega
theorem B_lt (c q : Nat) : B (c + 1) q < B (c + 1) (q + 1) := by
  rw [B_pascal]
  have := B_pos c (q + 1)
  omega
theorem B_mono_q (c : Nat) {q r : Nat} (h : q ≤ r) : B c q ≤ B c r := by
  cases c with
  | zero =>
    unfold B
    rw [bin_0, bin_0]
    exact Nat.le_refl 1
  | succ c =>
    induction r with
    | zero =>
      have : q = 0 := by omega
      rw [this]
      exact Nat.le_refl _
    | succ r ih =>
      by_cases e : q = r + 1
      · rw [e]
        exact Nat.le_refl _
      · exact Nat.le_trans (ih (by omega)) (Nat.le_of_lt (B_lt c r))
theorem B_mono_c (c q : Nat) : B c q ≤ B (c + 1) q := by
  cases q with
  | zero => rw [B_0, B_0]; exact Nat.le_refl 1
  | succ q => rw [B_pascal]; omega
theorem B_ge (c : Nat) : ∀ q, q + 1 ≤ B (c + 1) q := by
  intro q
  induction q with
  | zero => rw [B_0]; exact Nat.le_refl 1
  | succ q ih =>
    have := B_lt c q
    omega
theorem B_step (c q : Nat) : B c q * (c + q + 1) / (q + 1) = B c (q + 1) := by
  have e1 : B c q = bin (c + q) q := by unfold B; exact bin_symm c q
  have e2 : B c (q + 1) = bin (c + (q + 1)) (q + 1) := by unfold B; exact bin_symm c (q + 1)
  have key : ∀ n k : Nat, bin (n + 1) (k + 1) * (k + 1) = bin n k * (n + 1) := by
    intro n k
    rw [bin_ss, Nat.add_mul, bin_mul]
    by_cases h : k ≤ n
    · rw [← Nat.mul_add]
      congr 1
      omega
    · rw [bin_lt (show n < k by omega)]
      simp
  rw [e1, e2, show c + (q + 1) = (c + q) + 1 from rfl, ← key]
  exact Nat.mul_div_cancel _ (Nat.succ_pos q)
/-- the rounds -/
def IsR (n c r : Nat) : Prop := (∀ q, q < r → B c q ≤ n) ∧ n < B c r
theorem IsR.uniq {n c r s : Nat} (a : IsR n c r) (b : IsR n c s) : r = s := by
  rcases Nat.lt_trichotomy r s with h | h | h
  · exact absurd (b.1 r h) (Nat.not_le.mpr a.2)
  · exact h
  · exact absurd (a.1 s h) (Nat.not_le.mpr b.2)
theorem IsR.ex (n c : Nat) : ∃ r, IsR n (c + 1) r := by
  have key : ∀ N, (∀ q, q < N → B (c + 1) q ≤ n) ∨ ∃ r, IsR n (c + 1) r := by
    intro N
    induction N with
    | zero => exact .inl fun q h => absurd h (Nat.not_lt_zero _)
    | succ N ih =>
      rcases ih with h | h
      · by_cases e : B (c + 1) N ≤ n
        · exact .inl fun q hq => (Nat.lt_succ_iff_lt_or_eq.mp hq).elim (h q) fun z => z ▸ e
        · exact .inr ⟨N, h, by omega⟩
      · exact .inr h
  rcases key (n + 1) with h | h
  · have h1 := h n (Nat.lt_succ_self n)
    have h2 := B_ge c n
    omega
  · exact h
/-- r*(n + 1) less the sum of the first r of B c -/
def S (n c r : Nat) : Int := (r : Int) * ((n : Int) + 1) - (bin (c + r) (c + 1) : Nat)
theorem S_0 (n c : Nat) : S n c 0 = 0 := by
  unfold S
  rw [Nat.add_zero, bin_lt (Nat.lt_succ_self c)]
  simp
theorem S_succ (n c r : Nat) : S n c (r + 1) = S n c r + ((n : Int) + 1 - (B c r : Nat)) := by
  unfold S B
  rw [show c + (r + 1) = (c + r) + 1 from rfl, bin_ss]
  have e : ((r + 1 : Nat) : Int) * ((n : Int) + 1) = (r : Int) * ((n : Int) + 1) + ((n : Int) + 1) := by
    rw [Int.natCast_add, Int.add_mul]
    simp
  rw [e, Int.natCast_add]
  omega
/-- S grows while B c q <= n + 1, then falls -/
theorem S_up {n c r s : Nat} (h : r ≤ s) (hb : ∀ q, r ≤ q → q < s → B c q ≤ n + 1) : S n c r ≤ S n c s := by
  induction s with
  | zero =>
    have : r = 0 := by omega
    rw [this]
    exact Int.le_refl _
  | succ s ih =>
    by_cases e : r = s + 1
    · rw [e]
      exact Int.le_refl _
    · have h1 := ih (by omega) fun q a b => hb q a (by omega)
      have h2 := hb s (by omega) (Nat.lt_succ_self s)
      rw [S_succ]
      omega
theorem S_down {n c r s : Nat} (h : r ≤ s) (hb : ∀ q, r ≤ q → q < s → n + 1 ≤ B c q) : S n c s ≤ S n c r := by
  induction s with
  | zero =>
    have : r = 0 := by omega
    rw [this]
    exact Int.le_refl _
  | succ s ih =>
    by_cases e : r = s + 1
    · rw [e]
      exact Int.le_refl _
    · have h1 := ih (by omega) fun q a b => hb q a (by omega)
      have h2 := hb s (by omega) (Nat.lt_succ_self s)
      rw [S_succ]
      omega
/-- r is a top of S if its neighbours say so -/
theorem S_top {n c r : Nat} (h1 : ∀ q, q < r → B c q ≤ n + 1) (h2 : n + 1 ≤ B c r) (s : Nat) : S n c s ≤ S n c r := by
  by_cases h : s ≤ r
  · exact S_up h fun q _ b => h1 q b
  · exact S_down (by omega) fun q a _ => Nat.le_trans h2 (B_mono_q c a)
theorem IsR.top {n c r : Nat} (h : IsR n c r) (s : Nat) : S n c s ≤ S n c r := S_top (fun q hq => by have := h.1 q hq; omega) h.2 s
theorem S_eq {n c r s : Nat} (h : IsR n c r) (h1 : ∀ q, q < s → B c q ≤ n + 1) (h2 : n + 1 ≤ B c s) : S n c s = S n c r := Int.le_antisymm (h.top s) (S_top h1 h2 r)
/-- the least steps -/
def IsT (n c : Nat) (t : Int) : Prop := ∃ r, IsR n c r ∧ t = S n c r
theorem IsT.uniq {n c : Nat} {s t : Int} (a : IsT n c s) (b : IsT n c t) : s = t := by
  obtain ⟨r, h1, rfl⟩ := a
  obtain ⟨q, h2, rfl⟩ := b
  rw [h1.uniq h2]
theorem IsT.ex (n c : Nat) : ∃ t, IsT n (c + 1) t := by
  obtain ⟨r, h⟩ := IsR.ex n c
  exact ⟨_, r, h, rfl⟩
open Classical in
noncomputable def T (n c : Nat) : Int := if h : ∃ t, IsT n c t then Classical.choose h else 0
theorem T_is (n c : Nat) : IsT n (c + 1) (T n (c + 1)) := by
  unfold T
  rw [dif_pos (IsT.ex n c)]
  exact Classical.choose_spec (IsT.ex n c)
theorem IsT.eq {n c : Nat} {t : Int} (h : IsT n (c + 1) t) : t = T n (c + 1) := h.uniq (T_is n c)
theorem T_0 (c : Nat) : T 0 (c + 1) = 0 := by
  have h : IsT 0 (c + 1) 0 := ⟨0, ⟨fun q h => absurd h (Nat.not_lt_zero _), by rw [B_0]; exact Nat.zero_lt_one⟩, (S_0 _ _).symm⟩
  exact h.eq.symm
theorem T_1 (n : Nat) : T (n + 1) 1 = (n + 1 : Int) + T n 1 := by
  have hb : ∀ q, B 1 q = q + 1 := by
    intro q
    induction q with
    | zero => exact B_0 1
    | succ q ih =>
      rw [B_pascal, ih]
      unfold B
      rw [bin_0]
      omega
  have isr : ∀ m, IsR m 1 m := fun m => ⟨fun q h => by rw [hb]; omega, by rw [hb]; omega⟩
  have e1 : T (n + 1) 1 = S (n + 1) 1 (n + 1) := (IsT.eq (c := 0) ⟨_, isr (n + 1), rfl⟩).symm
  have e2 : T n 1 = S n 1 n := (IsT.eq (c := 0) ⟨_, isr n, rfl⟩).symm
  rw [e1, e2, S_succ, hb]
  unfold S
  have e : ((n : Nat) : Int) * ((n + 1 : Nat) + 1 : Int) = (n : Int) * ((n : Int) + 1) + n := by
    rw [Int.natCast_add, Int.mul_add, Int.mul_add, Int.mul_add]
    omega
  have e3 : ((n + 1 : Nat) : Int) = (n : Int) + 1 := by omega
  rw [e]
  omega
theorem B_R1 {n c r : Nat} (h : IsR n (c + 1) r) (hn : 1 ≤ n) : 1 ≤ r := by
  rcases Nat.eq_zero_or_pos r with e | e
  · have := h.2
    rw [e, B_0] at this
    omega
  · exact e
theorem IsR.le {n c r : Nat} (h : IsR n (c + 1) r) : r ≤ n := by
  rcases Nat.lt_or_ge n r with a | a
  · have h1 := h.1 n a
    have h2 := B_ge c n
    omega
  · exact a
/-- no stop has a lesser sum -/
theorem T_le {n c m : Nat} (h1 : 1 ≤ m) (h2 : m ≤ n) : T n (c + 2) ≤ (m : Int) + T (n - m) (c + 1) + T (m - 1) (c + 2) := by
  obtain ⟨r, hr, e⟩ := T_is n (c + 1)
  obtain ⟨r1, hr1, e1⟩ := T_is (n - m) c
  obtain ⟨r2, hr2, e2⟩ := T_is (m - 1) (c + 1)
  have hp := B_R1 hr (by omega)
  obtain ⟨k, rfl⟩ : ∃ k, r = k + 1 := ⟨r - 1, by omega⟩
  have a1 := hr1.top (k + 1)
  have a2 := hr2.top k
  rw [← e1] at a1
  rw [← e2] at a2
  have a2' : S (m - 1) (c + 2) k ≤ T (m - 1) (c + 2) := a2
  clear a2
  have key : S n (c + 2) (k + 1) = (m : Int) + S (n - m) (c + 1) (k + 1) + S (m - 1) (c + 2) k := by
    unfold S
    have ep : bin (c + 2 + (k + 1)) (c + 2 + 1) = bin (c + 1 + (k + 1)) (c + 1 + 1) + bin (c + 2 + k) (c + 2 + 1) := by
      rw [show c + 2 + (k + 1) = (c + 2 + k) + 1 from rfl, bin_ss, show c + 1 + (k + 1) = c + 2 + k by omega]
    rw [ep]
    have en : ((n - m : Nat) : Int) = (n : Int) - m := by omega
    have em : ((m - 1 : Nat) : Int) + 1 = (m : Int) := by omega
    rw [en, em]
    have d1 : ((k + 1 : Nat) : Int) * ((n : Int) - m + 1) = ((k + 1 : Nat) : Int) * ((n : Int) + 1) - ((k + 1 : Nat) : Int) * m := by
      rw [← Int.mul_sub]
      congr 1
      omega
    have d2 : ((k + 1 : Nat) : Int) * (m : Int) = (k : Int) * m + m := by
      rw [Int.natCast_add, Int.add_mul]
      simp
    rw [d1, d2]
    omega
  rw [e, key]
  omega
/-- some stop has the least sum -/
theorem T_at {n c : Nat} (hn : 1 ≤ n) : ∃ m, 1 ≤ m ∧ m ≤ n ∧ T n (c + 2) = (m : Int) + T (n - m) (c + 1) + T (m - 1) (c + 2) := by
  obtain ⟨r, hr, e⟩ := T_is n (c + 1)
  have hp := B_R1 hr hn
  obtain ⟨k, rfl⟩ : ∃ k, r = k + 1 := ⟨r - 1, by omega⟩
  have u1 := hr.1 k (Nat.lt_succ_self k)
  have u2 := hr.2
  have p1 := B_pascal (c + 1) k
  have p2 := B_mono_c (c + 1) k
  have p3 := B_pos (c + 1) (k + 1)
  have p4 := B_mono_q (c + 1) (Nat.le_succ k)
  have p5 := B_pos (c + 2) k
  have u1' : B (c + 2) k ≤ n := u1
  have u2' : n < B (c + 2) (k + 1) := u2
  -- the last of B (c + 2) ahead of k
  obtain ⟨z, hz, z1, z2⟩ : ∃ z, (∀ q, q < k → B (c + 2) q ≤ z) ∧ z ≤ B (c + 2) k ∧ z + B (c + 1) k ≤ n + 1 := by
    cases k with
    | zero => exact ⟨0, fun q h => absurd h (Nat.not_lt_zero _), Nat.zero_le _, by rw [B_0]; omega⟩
    | succ k =>
      refine ⟨B (c + 2) k, fun q h => B_mono_q _ (by omega), Nat.le_of_lt (B_lt (c + 1) k), ?_⟩
      have p6 := B_pascal (c + 1) k
      have u1'' : B (c + 1 + 1) (k + 1) ≤ n := u1'
      rw [p6] at u1''
      have e9 : B (c + 2) k = B (c + 1 + 1) k := rfl
      omega
  have p1' : B (c + 2) (k + 1) = B (c + 1) (k + 1) + B (c + 2) k := p1
  have p2' : B (c + 1) k ≤ B (c + 2) k := p2
  obtain ⟨m, m1, m2, m3, m4, m5, m6⟩ : ∃ m, 1 ≤ m ∧ m ≤ n ∧ z ≤ m ∧ m ≤ B (c + 2) k ∧ n + 1 ≤ m + B (c + 1) (k + 1) ∧ m + B (c + 1) k ≤ n + 1 := by
    have p4' : B (c + 1) k ≤ B (c + 1) (k + 1) := p4
    have p5' : 1 ≤ B (c + 2) k := p5
    clear p1 p2 p4 p5 u1 u2
    generalize B (c + 1) (k + 1) = x1 at *
    generalize B (c + 2) (k + 1) = x2 at *
    generalize B (c + 1) k = x3 at *
    generalize B (c + 2) k = x4 at *
    by_cases q1 : 1 ≤ z
    · by_cases q2 : n + 1 - x1 ≤ z
      · exact ⟨z, by omega, by omega, by omega, by omega, by omega, by omega⟩
      · exact ⟨n + 1 - x1, by omega, by omega, by omega, by omega, by omega, by omega⟩
    · by_cases q2 : n + 1 - x1 ≤ 1
      · exact ⟨1, by omega, by omega, by omega, by omega, by omega, by omega⟩
      · exact ⟨n + 1 - x1, by omega, by omega, by omega, by omega, by omega, by omega⟩
  refine ⟨m, m1, m2, Int.le_antisymm (T_le m1 m2) ?_⟩
  obtain ⟨r1, hr1, e1⟩ := T_is (n - m) c
  obtain ⟨r2, hr2, e2⟩ := T_is (m - 1) (c + 1)
  have a1 : S (n - m) (c + 1) (k + 1) = S (n - m) (c + 1) r1 := by
    refine S_eq hr1 (fun q hq => ?_) ?_
    · have := B_mono_q (c + 1) (show q ≤ k by omega)
      omega
    · omega
  have a2 : S (m - 1) (c + 2) k = S (m - 1) (c + 2) r2 := by
    refine S_eq hr2 (fun q hq => ?_) ?_
    · have := hz q hq
      omega
    · omega
  have key : S n (c + 2) (k + 1) = (m : Int) + S (n - m) (c + 1) (k + 1) + S (m - 1) (c + 2) k := by
    unfold S
    have ep : bin (c + 2 + (k + 1)) (c + 2 + 1) = bin (c + 1 + (k + 1)) (c + 1 + 1) + bin (c + 2 + k) (c + 2 + 1) := by
      rw [show c + 2 + (k + 1) = (c + 2 + k) + 1 from rfl, bin_ss, show c + 1 + (k + 1) = c + 2 + k by omega]
    rw [ep]
    have en : ((n - m : Nat) : Int) = (n : Int) - m := by omega
    have em : ((m - 1 : Nat) : Int) + 1 = (m : Int) := by omega
    rw [en, em]
    have d1 : ((k + 1 : Nat) : Int) * ((n : Int) - m + 1) = ((k + 1 : Nat) : Int) * ((n : Int) + 1) - ((k + 1 : Nat) : Int) * m := by
      rw [← Int.mul_sub]
      congr 1
      omega
    have d2 : ((k + 1 : Nat) : Int) * (m : Int) = (k : Int) * m + m := by
      rw [Int.natCast_add, Int.add_mul]
      simp
    rw [d1, d2]
    omega
  rw [e, key, a1, a2, e1, e2]
  exact Int.le_refl _

/-- the sum that a stop gives, if it is one -/
noncomputable def sm (n c m : Nat) : Option Int := if c = 0 then (if m < n then none else some ((m : Int) + T (m - 1) 1)) else some ((m : Int) + T (n - m) c + T (m - 1) (c + 1))
structure IsStop (n c m : Nat) : Prop where
  lo : 1 ≤ m
  hi : m ≤ n
  at_ : sm n c m = some (T n (c + 1))
  first : ∀ j, 1 ≤ j → j < m → sm n c j ≠ some (T n (c + 1))
theorem sm_le {n c m : Nat} {l : Int} (h1 : 1 ≤ m) (h2 : m ≤ n) (e : sm n c m = some l) : T n (c + 1) ≤ l := by
  unfold sm at e
  by_cases hc : c = 0
  · rw [if_pos hc] at e
    by_cases hm : m < n
    · rw [if_pos hm] at e
      cases e
    · rw [if_neg hm] at e
      injection e with e
      obtain ⟨k, rfl⟩ : ∃ k, n = k + 1 := ⟨n - 1, by omega⟩
      have : m = k + 1 := by omega
      subst this
      subst hc
      have t1 := T_1 k
      rw [Nat.add_sub_cancel] at e
      have e2 : ((k + 1 : Nat) : Int) = (k : Int) + 1 := rfl
      rw [← e, e2]
      show T (k + 1) 1 ≤ _
      rw [t1]
      exact Int.le_refl _
  · rw [if_neg hc] at e
    injection e with e
    obtain ⟨d, rfl⟩ : ∃ d, c = d + 1 := ⟨c - 1, by omega⟩
    rw [← e]
    exact T_le h1 h2
theorem sm_ex {n c : Nat} (hn : 1 ≤ n) : ∃ m, 1 ≤ m ∧ m ≤ n ∧ sm n c m = some (T n (c + 1)) := by
  by_cases hc : c = 0
  · refine ⟨n, hn, Nat.le_refl n, ?_⟩
    unfold sm
    rw [if_pos hc, if_neg (Nat.lt_irrefl n)]
    obtain ⟨k, rfl⟩ : ∃ k, n = k + 1 := ⟨n - 1, by omega⟩
    subst hc
    have t1 := T_1 k
    rw [Nat.add_sub_cancel]
    show _ = some (T (k + 1) 1)
    rw [t1]
    rfl
  · obtain ⟨d, rfl⟩ : ∃ d, c = d + 1 := ⟨c - 1, by omega⟩
    obtain ⟨m, h1, h2, e⟩ := T_at (n := n) (c := d) hn
    refine ⟨m, h1, h2, ?_⟩
    unfold sm
    rw [if_neg hc]
    exact congrArg some e.symm
theorem stop_1 {n : Nat} (hn : 1 ≤ n) : IsStop n 0 n := by
  obtain ⟨m, h1, h2, e⟩ := sm_ex (c := 0) hn
  have hm : m = n := by
    unfold sm at e
    rw [if_pos rfl] at e
    by_cases q : m < n
    · rw [if_pos q] at e
      cases e
    · omega
  subst hm
  refine ⟨h1, h2, e, fun j h1 h2 z => ?_⟩
  unfold sm at z
  rw [if_pos rfl, if_pos h2] at z
  cases z
/-- while none of the first i is the stop, i < n -/
theorem stop_more {n c i : Nat} (hn : 1 ≤ n) (h : ∀ j, 1 ≤ j → j ≤ i → sm n c j ≠ some (T n (c + 1))) : i < n := by
  obtain ⟨m, h1, h2, e⟩ := sm_ex (c := c) hn
  rcases Nat.lt_or_ge i m with a | a
  · omega
  · exact absurd e (h m h1 a)
/-- the least so far -/
inductive Best (n c i : Nat) : Option (Nat × Int) → Prop
  | no (h : ∀ j, 1 ≤ j → j ≤ i → sm n c j = none) : Best n c i none
  | yes (m : Nat) (l : Int) (h1 : 1 ≤ m) (h2 : m ≤ i) (e : sm n c m = some l) (le : ∀ j k, 1 ≤ j → j ≤ i → sm n c j = some k → l ≤ k) (lt : ∀ j k, 1 ≤ j → j < m → sm n c j = some k → l < k) : Best n c i (some (m, l))
theorem Best.zero (n c : Nat) : Best n c 0 none := .no fun j a b => absurd (Nat.le_trans a b) (Nat.not_succ_le_zero 0)
theorem Best.skip {n c i : Nat} {o : Option (Nat × Int)} (b : Best n c i o) (e : sm n c (i + 1) = none) : Best n c (i + 1) o := by
  cases b with
  | no h => exact .no fun j a b => (Nat.lt_or_ge i j).elim (fun z => by rw [show j = i + 1 by omega]; exact e) (h j a)
  | yes m l h1 h2 e0 le lt => exact .yes m l h1 (by omega) e0 (fun j k a b q => (Nat.lt_or_ge i j).elim (fun z => by rw [show j = i + 1 by omega, e] at q; cases q) fun z => le j k a z q) lt
theorem Best.keep {n c i m : Nat} {l k0 : Int} (b : Best n c i (some (m, l))) (e : sm n c (i + 1) = some k0) (h : l ≤ k0) : Best n c (i + 1) (some (m, l)) := by
  cases b with
  | yes _ _ h1 h2 e0 le lt => exact .yes m l h1 (by omega) e0 (fun j k a b q => (Nat.lt_or_ge i j).elim (fun z => by rw [show j = i + 1 by omega, e] at q; injection q with q; omega) fun z => le j k a z q) lt
theorem Best.first {n c i : Nat} {k0 : Int} (b : Best n c i none) (e : sm n c (i + 1) = some k0) : Best n c (i + 1) (some (i + 1, k0)) := by
  cases b with
  | no h => exact .yes (i + 1) k0 (by omega) (Nat.le_refl _) e (fun j k a b q => (Nat.lt_or_ge i j).elim (fun z => by rw [show j = i + 1 by omega, e] at q; injection q with q; omega) fun z => by rw [h j a z] at q; cases q) (fun j k a b q => by rw [h j a (by omega)] at q; cases q)
theorem Best.less {n c i m : Nat} {l k0 : Int} (b : Best n c i (some (m, l))) (e : sm n c (i + 1) = some k0) (h : k0 < l) : Best n c (i + 1) (some (i + 1, k0)) := by
  cases b with
  | yes _ _ h1 h2 e0 le lt => exact .yes (i + 1) k0 (by omega) (Nat.le_refl _) e (fun j k a b q => (Nat.lt_or_ge i j).elim (fun z => by rw [show j = i + 1 by omega, e] at q; injection q with q; omega) fun z => by have := le j k a z q; omega) (fun j k a b q => by have := le j k a (by omega) q; omega)
theorem Best.end_ {n c : Nat} {o : Option (Nat × Int)} (hn : 1 ≤ n) (b : Best n c n o) : ∃ m, o = some (m, T n (c + 1)) ∧ IsStop n c m := by
  obtain ⟨m0, a1, a2, a3⟩ := sm_ex (c := c) hn
  cases b with
  | no h => rw [h m0 a1 a2] at a3; cases a3
  | yes m l h1 h2 e0 le lt =>
    have q1 := sm_le h1 h2 e0
    have q2 := le m0 _ a1 a2 a3
    have q3 : l = T n (c + 1) := by omega
    subst q3
    exact ⟨m, rfl, h1, h2, e0, fun j b1 b2 z => by have := lt j _ b1 b2 z; omega⟩
theorem IsStop.uniq {n c a b : Nat} (x : IsStop n c a) (y : IsStop n c b) : a = b := by
  rcases Nat.lt_trichotomy a b with h | h | h
  · exact absurd x.at_ (y.first a x.lo h)
  · exact h
  · exact absurd y.at_ (x.first b y.lo h)
theorem T_tri (n : Nat) : 2 * T n 1 = (n : Int) * ((n : Int) + 1) := by
  induction n with
  | zero =>
    rw [show T 0 1 = 0 from T_0 0]
    rfl
  | succ n ih =>
    rw [T_1, Int.mul_add, ih]
    have e : ((n + 1 : Nat) : Int) = (n : Int) + 1 := rfl
    rw [e, Int.add_mul, Int.mul_add (n : Int) ((n : Int) + 1) 1, Int.mul_one]
    omega
theorem T11 : T 1 1 = 1 := by
  have := T_tri 1
  have e : ((1 : Nat) : Int) * (((1 : Nat) : Int) + 1) = 2 := rfl
  omega
theorem T120 : T 120 1 = 7260 := by
  have := T_tri 120
  have e : ((120 : Nat) : Int) * (((120 : Nat) : Int) + 1) = 14520 := rfl
  omega
theorem R0 (c : Nat) : IsR 0 (c + 1) 0 := ⟨fun q h => absurd h (Nat.not_lt_zero _), by rw [B_0]; exact Nat.zero_lt_one⟩
theorem R1 : IsR 1 120 1 := ⟨fun q h => by rw [show q = 0 by omega, B_0]; exact Nat.le_refl 1, B_ge 119 1⟩
end M11

set_option Elab.async false
set_option linter.all false
set_option maxRecDepth 100000
set_option maxHeartbeats 4000000
set_option pp.deepTerms false
set_option pp.deepTerms.threshold 12
namespace K12
open PySem PySem.Spec PyProof.Rows L2
local macro_rules | `(tactic| walk_at "ty") => `(tactic| first | exact .base (.int _) | exact .base (.bl _) | exact .base (.str _) | exact .base .non | assumption | exact .base (.tup (by assumption)) | exact .base (.lst (by assumption)))
local macro_rules | `(tactic| walk_at "cm") => `(tactic| first | exact cm_r (by decide) (by decide) | exact cm_l (by decide) (by decide) | exact cm_fmod (by decide) (by decide) | exact cm_r (by omega) (by omega) | exact cm_l (by omega) (by omega))
local macro_rules | `(tactic| walk_at "dv") => `(tactic| first | exact ⟨by decide, by decide⟩ | exact ⟨by omega, by omega⟩)
local macro_rules | `(tactic| walk_at "r1") => `(tactic| first
  | refine ⟨_, rfl, ?_⟩ | refine ⟨_, _, rfl, rfl, ?_⟩ | refine Or.inl ⟨_, rfl, ?_⟩ | refine Or.inr ⟨_, rfl, ?_⟩
  | refine And.intro (a := CMul _ _) (by walk_at "cm") ?_ | refine And.intro (a := CDivN _ _) (by walk_at "dv") ?_ | refine And.intro (a := _ ≠ (0 : Int)) (by first | decide | omega) ?_ | refine And.intro (a := scal _ _ = true) rfl ?_ | refine ⟨_, _, _, _, rfl, rfl, SqL.of (by first | exact upd_same | assumption), rfl, ?_⟩ | refine ⟨_, _, _, _, rfl, rfl, (by first | exact upd_same | assumption), rfl, ?_⟩ | refine ⟨_, _, rfl, ?_⟩ | refine And.intro (a := (_ : V) = V.non) rfl ?_ | refine And.intro (a := CPow _ _) ⟨by decide, by decide, by decide⟩ ?_ | refine And.intro (a := (_ : List V) = []) rfl ?_ | refine ⟨_, _, rfl, SqT.of (by first | exact upd_same | assumption), rfl, ?_⟩
  | refine ⟨_, _, _, _, rfl, rfl, SqT.of (by first | exact upd_same | assumption), rfl, ?_⟩
  | refine ⟨_, _, _, _, true, rfl, ClsV.ty _, (by walk_at "ty"), kit_ty (by decide +kernel), ?_⟩ | refine ⟨_, _, _, _, false, rfl, ClsV.ty _, (by walk_at "ty"), kit_ty (by decide +kernel), ?_⟩)
local macro_rules | `(tactic| walk_at "rd") => `(tactic| repeat walk_at "r1")
local macro_rules | `(tactic| walk_at "yes") => `(tactic| (change (if true = true then _ else _); rw [if_pos rfl]))
local macro_rules | `(tactic| walk_at "no") => `(tactic| (change (if false = true then _ else _); rw [if_neg Bool.false_ne_true]))
local macro_rules | `(tactic| walk_at "nw") => `(tactic| refine And.intro (a := _ ≤ sizeLine) (sz_le (Nat.le_of_ble_eq_true rfl)) ?_)

section
variable {P : Program} {w : World} {K : PySem.W.Frag} {mg : Str → Option Value} {base : Heap}
variable {C_VaultError C_TooMany C_NumberError C_BadPrime C_NoInverse C_NoNumber C_BadTable C_BadCells C_TextError C_ShapeError C_PlanError C_CourseError C_KnowError C_PaperError C_BadStep C_BadBlind C_BadMove C_NotShut C_NotOpen C_NotTheft C_NotPrice fV fI_BadMove fI_BadCells : Addr}
variable (T : Txt P K mg C_VaultError C_TooMany C_NumberError C_BadPrime C_NoInverse C_NoNumber C_BadTable C_BadCells C_TextError C_ShapeError C_PlanError C_CourseError C_KnowError C_PaperError C_BadStep C_BadBlind C_BadMove C_NotShut C_NotOpen C_NotTheft C_NotPrice fV fI_BadMove fI_BadCells)
include T
def spMix : Sp := fun vs H Q _ => ∃ n k : Int, vs = [.int n, .int k] ∧ ∀ r, Q (.int r) H
theorem ok_mix {f : Addr} {fd : FuncData} (F : Fun K "_law_mix" "_law_mix" s_mix f fd) : FnOk P w K mg base CX0 1 f fd p_mix spMix := by
  refine F.ok sc_mix (fun vs H Q E h => ?_) (fun cdv A outer s H vs Q E hr h => ?_)
  · obtain ⟨n, k, rfl, _⟩ := h
    rfl
  · obtain ⟨n, k, rfl, q⟩ := h
    refine ⟨_, (pss_cons (ps_set (i := 2) sc_mix.nd rfl (Or.inl rfl) (by exact (pe_op op_modN (pe_op op_add (pe_op op_add (pe_op op_mul (pe_callTy call_int1 (by rfl) T.b_int (by first | exact PySem.boot_int | decide +kernel) (pa_cons (pv 0) pa_nil)) pe_int) (pe_op op_mul (pe_callTy call_int1 (by rfl) T.b_int (by first | exact PySem.boot_int | decide +kernel) (pa_cons (pv 1) pa_nil)) pe_int)) pe_int) pe_int)))
      (pss_cons (ps_set (i := 2) sc_mix.nd rfl (Or.inl rfl) (by exact (pe_op op_modN (pe_op op_add (pe_op op_add (pe_op op_mul (pv 2) (pv 2)) (pe_op op_mul (pe_callTy call_int1 (by rfl) T.b_int (by first | exact PySem.boot_int | decide +kernel) (pa_cons (pv 1) pa_nil)) pe_int)) pe_int) pe_int)))
      (pss_cons (ps_set (i := 2) sc_mix.nd rfl (Or.inl rfl) (by exact (pe_op op_modN (pe_op op_add (pe_op op_add (pe_op op_mul (pv 2) (pv 2)) (pe_op op_mul (pe_op op_modN (pe_callTy call_int1 (by rfl) T.b_int (by first | exact PySem.boot_int | decide +kernel) (pa_cons (pv 0) pa_nil)) pe_int) pe_int)) (pe_op op_fdivN (pv 2) pe_int)) pe_int)))
      (pss_one (ps_ret (by exact (pe_op op_fdivN (pv 2) pe_int))))))), ?_⟩
    walk_at "rd"
    exact q _
omit T in
theorem cut63 (ns : List Int) : cutV (ns.map V.int) none (some 63) = (ns.take 63).map V.int := by
  unfold cutV
  rw [show (some (63 : Int)) = some ((63 : Nat) : Int) from rfl, HT.sIx_nat, HT.sIx_none, List.drop_zero, Nat.sub_zero, List.length_map, List.map_take]
  by_cases h : 63 ≤ ns.length
  · rw [Nat.min_eq_left h]
  · rw [Nat.min_eq_right (by omega), List.take_of_length_le (by rw [List.length_map]; omega), List.take_of_length_le (by rw [List.length_map]; omega)]
omit T in
theorem int_at {ns : List Int} {i : Nat} {y : V} (h : (ns.map V.int)[i]? = some y) : ∃ z, ns[i]? = some z ∧ y = V.int z := by
  rw [List.getElem?_map] at h
  cases e : ns[i]? with
  | none => rw [e] at h; cases h
  | some z => rw [e] at h; exact ⟨z, rfl, (Option.some.inj h).symm⟩
omit T in
theorem sz_le {n : Nat} (h : n ≤ 100000) : n ≤ sizeLine := Nat.le_trans h (by decide)
omit T in
theorem sz_lt {n : Nat} (h : n < 100000) : n < sizeLine := Nat.lt_of_lt_of_le h (by decide)
def spStore (K : PySem.W.Frag) : Sp := fun vs H Q _ => ∃ (a : Addr) (ns : List Int), vs = [.ref a] ∧ SqL K H a (ns.map V.int) ∧ ∀ st H', Store H' st → Same H H' → H st = none → Q (.ref st) H'
theorem ok_store {f : Addr} {fd : FuncData} (F : Fun K "_law_store" "_law_store" s_store f fd) : FnOk P w K mg base CX0 1 f fd p_store (spStore K) := by
  refine F.ok sc_store (fun vs H Q E h => ?_) (fun cdv A outer s H vs Q E hr h => ?_)
  · obtain ⟨a, ns, rfl, _⟩ := h
    rfl
  · obtain ⟨a, ns, rfl, hS, q⟩ := h
    refine ⟨_, (pss_cons (ps_set (i := 1) sc_store.nd rfl (Or.inl rfl) (by exact pe_int))
      (pss_cons (ps_for PassesOwn.never rfl (pi_list (pe_slice sl_list (pv 0) po_none (po_some pe_int))) (pg_name (i := 2) sc_store.nd rfl (Or.inl rfl)) (pss_one (ps_set (i := 1) sc_store.nd rfl (Or.inl rfl) (by exact (pe_op op_modN (pe_op op_add (pe_op op_add (pe_op op_add (pe_op op_mul (pv 1) pe_int) (pe_op op_mul (pe_callB call_abs (by rfl) T.b_abs (by first | exact PySem.boot_abs | decide +kernel) (pa_cons (pe_callTy call_int1 (by rfl) T.b_int (by first | exact PySem.boot_int | decide +kernel) (pa_cons (pv 2) pa_nil)) pa_nil)) pe_int)) (pe_callTy call_int1 (by rfl) T.b_int (by first | exact PySem.boot_int | decide +kernel) (pa_cons (pe_cmpR op_lt (pe_callTy call_int1 (by rfl) T.b_int (by first | exact PySem.boot_int | decide +kernel) (pa_cons (pv 2) pa_nil)) pe_int (nomark _)) pa_nil))) pe_int) pe_int)))))
      (pss_one (ps_ret (by exact (pe_lst (pa_cons (pe_lc (own := [("cell", 2)]) (g := gName 2) rfl sc_store.nd (pi_list (pe_slice sl_list (pv 0) po_none (po_some pe_int))) (blkOk_by (own := [("cell", 2)]) (N := N_store) (sc := defScope s_store) (by decide +kernel)) (fun _ _ _ _ _ => pg_name (i := 2) sc_store.nd rfl (Or.inl rfl)) (fun _ _ _ _ _ => pts_nil) (fun _ _ _ _ _ => (pe_callTy call_int1 (by rfl) T.b_int (by first | exact PySem.boot_int | decide +kernel) (pa_cons (pv 2) pa_nil)))) (pa_cons pe_int (pa_cons pe_int (pa_cons pe_int (pa_cons pe_int (pa_cons pe_int (pa_cons (pv 1) pa_nil))))))))))))), ?_⟩
    refine ⟨_, rfl, 63, rfl, a, _, rfl, hS, fun p hp => ?_⟩
    rw [cut63]
    refine ⟨p, rfl, ⟨_, SqL.of upd_same⟩, for_list (K := K) (a := p) (xs := (ns.take 63).map V.int) (fun i σ H' => ∃ (sd : Int) (v : Option V), σ = [some (.ref a), some (.int sd), v] ∧ H' = upd H p (.lst ((ns.take 63).map V.int)) ∧ -(2 ^ 40) < sd ∧ sd < 2 ^ 40) ⟨1009, none, rfl, rfl, by decide, by decide⟩ (fun i σ H' _ ⟨_, _, _, e, _⟩ => by rw [e]; exact SqL.of upd_same) ?_ ?_⟩
    · rintro i y σ H' hi ⟨sd, v, rfl, rfl, h1, h2⟩
      obtain ⟨z, _, rfl⟩ := int_at hi
      walk_at "rd"
      exact ⟨Int.lt_of_lt_of_le (by decide) (fm_lo (by decide)), Int.lt_of_lt_of_le (fm_hi (by decide)) (by decide)⟩
    · rintro σ H' ⟨sd, v, rfl, rfl, _⟩
      have s1 : Same H (upd H p (.lst ((ns.take 63).map V.int))) := same_new hp
      refine ⟨_, rfl, 63, rfl, a, _, rfl, s1.seq hS, fun p2 hp2 => ?_⟩
      rw [cut63]
      have s2 : Same H (upd (upd H p (.lst ((ns.take 63).map V.int))) p2 (.lst ((ns.take 63).map V.int))) := s1.trans (same_new hp2)
      generalize hH2 : upd (upd H p (.lst ((ns.take 63).map V.int))) p2 (.lst ((ns.take 63).map V.int)) = H2 at s2
      have e2 : H2 p2 = some (.lst ((ns.take 63).map V.int)) := by rw [← hH2]; exact upd_same
      refine ⟨p2, rfl, ⟨_, SqL.of e2⟩, fun D hD => lc_list (K := K) (a := p2) (xs := (ns.take 63).map V.int) (fun i H' => Same H2 H' ∧ H' D = some (.lst ((ns.take 63).map V.int |>.take i))) ⟨same_new hD, upd_same⟩ (fun i H' _ ⟨e, _⟩ => SqL.of (e _ _ e2)) ?_ ?_⟩
      · rintro i y H' hi ⟨e3, e4⟩
        obtain ⟨z, hz, rfl⟩ := int_at hi
        refine ⟨rfl, ?_⟩
        refine ⟨_, rfl, .inl ⟨z, rfl, _, e4, sz_lt ?_, e3.mut hD, ?_⟩⟩
        · rw [List.length_take, List.length_map, List.length_take]
          omega
        · rw [upd_same, take_one hi]
      · rintro H' ⟨e3, e4⟩
        rw [List.take_length] at e4
        refine ⟨_, rfl, sz_le (by show 7 ≤ 100000; decide), fun st hst => ?_⟩
        have hDst : D ≠ st := ne_of_none e4 hst
        have s3 : Same H (upd H' st (.lst [.ref D, .int 0, .int 0, .int 0, .int 0, .int 0, .int sd])) := (s2.trans e3).trans (same_new hst)
        exact q st _ ⟨D, ns.take 63, 0, 0, 0, 0, 0, sd, upd_same, by rw [upd_ne hDst]; exact e4, Int.le_refl 0, by rw [List.length_take]; omega, hDst⟩ s3 ((s2.trans e3).free hst)
/-- a number from 0 to below the greater of 1 and m; the drawer has moved on -/
def spTake : Sp := fun vs H Q _ => ∃ (st : Addr) (m : Int), vs = [.ref st, .int m] ∧ m < 1000000000 ∧ Store H st ∧ ∀ d H', 0 ≤ d → d < (if m > 1 then m else 1) → Store H' st → ButS st H H' → Q (.int d) H'
theorem ok_take {f : Addr} {fd : FuncData} (F : Fun K "_law_take" "_law_take" s_take f fd) {f_mix : Addr} {fd_mix : FuncData} (D_mix : Def K mg "_law_mix" s_mix p_mix f_mix fd_mix) (G_mix : FnOk P w K mg base CX0 1 f_mix fd_mix p_mix spMix) : FnOk P w K mg base CX0 2 f fd p_take spTake := by
  refine F.ok sc_take (fun vs H Q E h => ?_) (fun cdv A outer s H vs Q E hr h => ?_)
  · obtain ⟨st, m, rfl, _⟩ := h
    rfl
  · obtain ⟨st, m, rfl, hm, S, q⟩ := h
    obtain ⟨cl, ns, a, b, c, d, e, g, h1, h2, ha, hlen, hne⟩ := S.ex
    refine ⟨_, (pss_cons (ps_set (i := 1) sc_take.nd rfl (Or.inl rfl) (by exact (pe_callB (call_max2 rfl) (by rfl) T.b_max (by first | exact PySem.boot_max | decide +kernel) (pa_cons pe_int (pa_cons (pe_callTy call_int1 (by rfl) T.b_int (by first | exact PySem.boot_int | decide +kernel) (pa_cons (pv 1) pa_nil)) pa_nil)))))
      (pss_cons (ps_asg (by exact (pe_op op_add (pe_callTy call_int1 (by rfl) T.b_int (by first | exact PySem.boot_int | decide +kernel) (pa_cons (pe_ix ix_list (pv 0) pe_int (fun _ _ => rfl)) pa_nil)) pe_int)) (pg_sub (pv 0) pe_int set_list))
      (pss_mid (ps_if (PW.pt (pw_and (pt_cmpR op_eq (pe_callTy call_int1 (by rfl) T.b_int (by first | exact PySem.boot_int | decide +kernel) (pa_cons (pe_ix ix_list (pv 0) pe_int (fun _ _ => rfl)) pa_nil)) pe_int (nomark _)) (pw_and (pt_cmpR op_eq (pe_callTy call_int1 (by rfl) T.b_int (by first | exact PySem.boot_int | decide +kernel) (pa_cons (pe_ix ix_list (pv 0) pe_int (fun _ _ => rfl)) pa_nil)) pe_int (nomark _)) (pw_and1 (pt_cmpR op_lt (pe_callTy call_int1 (by rfl) T.b_int (by first | exact PySem.boot_int | decide +kernel) (pa_cons (pe_ix ix_list (pv 0) pe_int (fun _ _ => rfl)) pa_nil)) (pe_callB call_len_seq (by rfl) T.b_len (by first | exact PySem.boot_len | decide +kernel) (pa_cons (pe_ix ix_list (pv 0) pe_int (fun _ _ => rfl)) pa_nil)) (nomark _)))))) (pss_cons (ps_set (i := 2) sc_take.nd rfl (Or.inl rfl) (by exact (pe_callTy call_int1 (by rfl) T.b_int (by first | exact PySem.boot_int | decide +kernel) (pa_cons (pe_ix ix_list (pe_ix ix_list (pv 0) pe_int (fun _ _ => rfl)) (pe_ix ix_list (pv 0) pe_int (fun _ _ => rfl)) (fun _ _ => rfl)) pa_nil))))
          (pss_cons (ps_asg (by exact (pe_op op_add (pe_callTy call_int1 (by rfl) T.b_int (by first | exact PySem.boot_int | decide +kernel) (pa_cons (pe_ix ix_list (pv 0) pe_int (fun _ _ => rfl)) pa_nil)) pe_int)) (pg_sub (pv 0) pe_int set_list))
          (pss_one (ps_if (pt_cmpR op_ge (pe_callB call_abs (by rfl) T.b_abs (by first | exact PySem.boot_abs | decide +kernel) (pa_cons (pv 2) pa_nil)) (pe_op op_pow pe_int pe_int) (nomark _)) (pss_one (ps_asg (by exact (pe_callB call_abs (by rfl) T.b_abs (by first | exact PySem.boot_abs | decide +kernel) (pa_cons (pv 2) pa_nil))) (pg_sub (pv 0) pe_int set_list))) (pss_cons (ps_asg (by exact pe_int) (pg_sub (pv 0) pe_int set_list))
              (pss_one (ps_asg (by exact (pe_op op_add (pe_op op_mul (pe_callB call_abs (by rfl) T.b_abs (by first | exact PySem.boot_abs | decide +kernel) (pa_cons (pv 2) pa_nil)) pe_int) (pe_callTy call_int1 (by rfl) T.b_int (by first | exact PySem.boot_int | decide +kernel) (pa_cons (pe_cmpR op_lt (pv 2) pe_int (nomark _)) pa_nil)))) (pg_sub (pv 0) pe_int set_list)))))))) pss_nil)
      (pss_mid (ps_if (pt_cmpR op_gt (pe_callTy call_int1 (by rfl) T.b_int (by first | exact PySem.boot_int | decide +kernel) (pa_cons (pe_ix ix_list (pv 0) pe_int (fun _ _ => rfl)) pa_nil)) pe_int (nomark _)) (pss_cons (ps_set (i := 3) sc_take.nd rfl (Or.inl rfl) (by exact (pe_op op_modN (pe_callTy call_int1 (by rfl) T.b_int (by first | exact PySem.boot_int | decide +kernel) (pa_cons (pe_ix ix_list (pv 0) pe_int (fun _ _ => rfl)) pa_nil)) (pv 1))))
          (pss_cons (ps_asg (by exact (pe_op op_fdivN (pe_callTy call_int1 (by rfl) T.b_int (by first | exact PySem.boot_int | decide +kernel) (pa_cons (pe_ix ix_list (pv 0) pe_int (fun _ _ => rfl)) pa_nil)) (pv 1))) (pg_sub (pv 0) pe_int set_list))
          (pss_one (ps_ret (by exact (pv 3)))))) pss_nil)
      (pss_mid (ps_if (pt_cmpR op_gt (pe_callTy call_int1 (by rfl) T.b_int (by first | exact PySem.boot_int | decide +kernel) (pa_cons (pe_ix ix_list (pv 0) pe_int (fun _ _ => rfl)) pa_nil)) pe_int (nomark _)) (pss_cons (ps_asg (by exact (pe_op op_sub (pe_callTy call_int1 (by rfl) T.b_int (by first | exact PySem.boot_int | decide +kernel) (pa_cons (pe_ix ix_list (pv 0) pe_int (fun _ _ => rfl)) pa_nil)) pe_int)) (pg_sub (pv 0) pe_int set_list))
          (pss_one (ps_ret (by exact (pe_op op_modN (pe_call G_mix (hr.mono (by first | decide | omega)) rfl D_mix.g D_mix.fn.kp D_mix.b .nil pass0 (pa_cons (pe_callTy call_int1 (by rfl) T.b_int (by first | exact PySem.boot_int | decide +kernel) (pa_cons (pe_ix ix_list (pv 0) pe_int (fun _ _ => rfl)) pa_nil)) (pa_cons (pe_callTy call_int1 (by rfl) T.b_int (by first | exact PySem.boot_int | decide +kernel) (pa_cons (pe_ix ix_list (pv 0) pe_int (fun _ _ => rfl)) pa_nil)) pa_nil))) (pv 1)))))) pss_nil)
      (pss_one (ps_ret (by exact (pe_op op_modN (pe_call G_mix (hr.mono (by first | decide | omega)) rfl D_mix.g D_mix.fn.kp D_mix.b .nil pass0 (pa_cons (pe_callTy call_int1 (by rfl) T.b_int (by first | exact PySem.boot_int | decide +kernel) (pa_cons (pe_ix ix_list (pv 0) pe_int (fun _ _ => rfl)) pa_nil)) (pa_cons (pe_callTy call_int1 (by rfl) T.b_int (by first | exact PySem.boot_int | decide +kernel) (pa_cons (pe_ix ix_list (pv 0) pe_int (fun _ _ => rfl)) pa_nil)) pa_nil))) (pv 1)))))))))), ?_⟩
    walk_at "rd"
    generalize hM : (if m > 1 then m else 1) = M at q
    have hM0 : 0 < M := by rw [← hM]; split <;> omega
    have hM1 : M < 1000000000 := by rw [← hM]; split <;> omega
    -- every write to the store keeps it one
    have put : ∀ (a b c d e g : Int), 0 ≤ a → Store (upd H st (.lst [.ref cl, .int a, .int b, .int c, .int d, .int e, .int g])) st ∧ ButS st H (upd H st (.lst [.ref cl, .int a, .int b, .int c, .int d, .int e, .int g])) :=
      fun a b c d e g ha => ⟨⟨cl, ns, a, b, c, d, e, g, upd_same, by rw [upd_ne hne]; exact h2, ha, hlen, hne⟩, .set h1⟩
    refine ⟨fun σ H' => ∃ (v : Option V) (a b c d e g : Int), σ = [some (.ref st), some (.int M), v, none] ∧ H' = upd H st (.lst [.ref cl, .int a, .int b, .int c, .int d, .int e, .int g]) ∧ 0 ≤ a, ?_, ?_⟩
    · have fin : ∀ {σ : L2.St} {H' : Hp} (v : Option V) (a b c d e g : Int), 0 ≤ a → σ = [some (.ref st), some (.int M), v, none] → H' = upd H st (.lst [.ref cl, .int a, .int b, .int c, .int d, .int e, .int g]) →
          ∃ (v : Option V) (a b c d e g : Int), σ = [some (.ref st), some (.int M), v, none] ∧ H' = upd H st (.lst [.ref cl, .int a, .int b, .int c, .int d, .int e, .int g]) ∧ 0 ≤ a := fun v a b c d e g h1 h2 h3 => ⟨v, a, b, c, d, e, g, h2, h3, h1⟩
      have hcl : ∀ o, (upd H st o) cl = some (.lst (ns.map V.int)) := fun o => by rw [upd_ne hne]; exact h2
      walk_at "rd"
      refine ite2 (fun hc => ?_) (fun hc => fin none _ _ _ _ _ _ ha rfl rfl)
      walk_at "rd"
      refine ite2 (fun hc => ?_) (fun hc => fin none _ _ _ _ _ _ ha rfl rfl)
      walk_at "rd"
      refine ⟨_, _, rfl, .inl (SqL.of (hcl _)), ?_⟩
      walk_at "rd"
      refine ite2 (fun hc => ?_) (fun hc => fin none _ _ _ _ _ _ ha rfl rfl)
      have hlt : a < ns.length := by
        have z := of_decide_eq_true hc
        rw [List.length_map] at z
        exact z
      obtain ⟨j, rfl⟩ : ∃ j : Nat, a = (j : Int) := ⟨a.toNat, by omega⟩
      have hj : j < ns.length := by omega
      walk_at "rd"
      refine ⟨_, _, _, _, rfl, rfl, SqL.of (hcl _), atI_nat (by rw [List.getElem?_map, List.getElem?_eq_getElem hj]; rfl), ?_⟩
      walk_at "rd"
      refine ite2 (fun hc => ?_) (fun hc => ?_)
      · walk_at "rd"
        rw [upd2, upd2]
        exact fin (some (.int ns[j])) (j + 1) _ _ _ _ _ (by omega) rfl rfl
      · walk_at "rd"
        rw [upd2, upd2, upd2]
        exact fin (some (.int ns[j])) (j + 1) _ _ _ _ _ (by omega) rfl rfl
    · rintro σ' H' ⟨v, a', b', c', d', e', g', rfl, rfl, ha'⟩
      refine ⟨fun σ H' => ∃ (v : Option V) (a b c d e g : Int), σ = [some (.ref st), some (.int M), v, none] ∧ H' = upd H st (.lst [.ref cl, .int a, .int b, .int c, .int d, .int e, .int g]) ∧ 0 ≤ a, ?_, ?_⟩
      · walk_at "rd"
        refine ite2 (fun hc => ?_) (fun hc => ⟨v, a', b', c', d', e', g', rfl, rfl, ha'⟩)
        walk_at "rd"
        show Q (.int (b'.fmod M)) _
        rw [upd2]
        obtain ⟨p1, p2⟩ := put a' (b'.fdiv M) c' d' e' g' ha'
        exact q _ _ (fm_lo hM0) (fm_hi hM0) p1 p2
      · rintro σ' H' ⟨v, a', b', c', d', e', g', rfl, rfl, ha'⟩
        refine ⟨fun σ H' => ∃ (v : Option V) (a b c d e g : Int), σ = [some (.ref st), some (.int M), v, none] ∧ H' = upd H st (.lst [.ref cl, .int a, .int b, .int c, .int d, .int e, .int g]) ∧ 0 ≤ a, ?_, ?_⟩
        · walk_at "rd"
          refine ite2 (fun hc => ?_) (fun hc => ⟨v, a', b', c', d', e', g', rfl, rfl, ha'⟩)
          walk_at "rd"
          intro r
          walk_at "rd"
          show Q (.int (r.fmod M)) _
          rw [upd2]
          obtain ⟨p1, p2⟩ := put a' b' (c' - 1) d' e' g' ha'
          exact q _ _ (fm_lo hM0) (fm_hi hM0) p1 p2
        · rintro σ' H' ⟨v, a', b', c', d', e', g', rfl, rfl, ha'⟩
          walk_at "rd"
          intro r
          walk_at "rd"
          obtain ⟨p1, p2⟩ := put a' b' c' d' e' g' ha'
          exact q _ _ (fm_lo hM0) (fm_hi hM0) p1 p2

omit T in
theorem pickM (m : Int) : 0 < (if m > 1 then m else 1) := by split <;> omega
theorem ok_edge {f : Addr} {fd : FuncData} (F : Fun K "_law_edge" "_law_edge" s_edge f fd) {f_take : Addr} {fd_take : FuncData} (D_take : Def K mg "_law_take" s_take p_take f_take fd_take) (G_take : FnOk P w K mg base CX0 2 f_take fd_take p_take spTake) : FnOk P w K mg base CX0 3 f fd p_edge spTake := by
  refine F.ok sc_edge (fun vs H Q E h => ?_) (fun cdv A outer s H vs Q E hr h => ?_)
  · obtain ⟨st, m, rfl, _⟩ := h
    rfl
  · obtain ⟨st, m, rfl, hm, S, q⟩ := h
    refine ⟨_, (pss_cons (ps_set (i := 2) sc_edge.nd rfl (Or.inl rfl) (by exact (pe_call G_take (hr.mono (by first | decide | omega)) rfl D_take.g D_take.fn.kp D_take.b .nil pass0 (pa_cons (pv 0) (pa_cons pe_int pa_nil)))))
      (pss_cons (ps_if (pt_cmpR op_eq (pv 2) pe_int (nomark _)) (pss_one (ps_ret (by exact pe_int))) pss_nil)
      (pss_cons (ps_if (pt_cmpR op_eq (pv 2) pe_int (nomark _)) (pss_one (ps_ret (by exact (pe_op op_sub (pe_callB (call_max2 rfl) (by rfl) T.b_max (by first | exact PySem.boot_max | decide +kernel) (pa_cons pe_int (pa_cons (pe_callTy call_int1 (by rfl) T.b_int (by first | exact PySem.boot_int | decide +kernel) (pa_cons (pv 1) pa_nil)) pa_nil))) pe_int)))) pss_nil)
      (pss_one (ps_ret (by exact (pe_call G_take (hr.mono (by first | decide | omega)) rfl D_take.g D_take.fn.kp D_take.b .nil pass0 (pa_cons (pv 0) (pa_cons (pv 1) pa_nil))))))))), ?_⟩
    walk_at "rd"
    refine ⟨by decide, S, fun d H1 d0 d1 S1 b1 => ?_⟩
    walk_at "rd"
    have pm := pickM m
    refine ite2 (fun hc => ?_) (fun hc => ?_)
    · exact q 0 H1 (Int.le_refl 0) pm S1 b1
    walk_at "rd"
    refine ite2 (fun hc => ?_) (fun hc => ?_)
    · walk_at "rd"
      exact q _ H1 (by show 0 ≤ (if m > 1 then m else 1) - 1; omega) (by show (if m > 1 then m else 1) - 1 < _; omega) S1 b1
    · walk_at "rd"
      exact ⟨hm, S1, fun d H2 d0 d1 S2 b2 => q d H2 d0 d1 S2 (b1.trans b2)⟩
def spOdds : Sp := fun vs H Q _ => ∃ (st : Addr) (m : Int), vs = [.ref st, .int m] ∧ m < 1000000000 ∧ Store H st ∧ ∀ b H', Store H' st → ButS st H H' → Q (.bl b) H'
theorem ok_odds {f : Addr} {fd : FuncData} (F : Fun K "_law_odds" "_law_odds" s_odds f fd) {f_take : Addr} {fd_take : FuncData} (D_take : Def K mg "_law_take" s_take p_take f_take fd_take) (G_take : FnOk P w K mg base CX0 2 f_take fd_take p_take spTake) : FnOk P w K mg base CX0 3 f fd p_odds spOdds := by
  refine F.ok sc_odds (fun vs H Q E h => ?_) (fun cdv A outer s H vs Q E hr h => ?_)
  · obtain ⟨st, m, rfl, _⟩ := h
    rfl
  · obtain ⟨st, m, rfl, hm, S, q⟩ := h
    refine ⟨_, (pss_one (ps_ret (by exact (pe_cmpR op_eq (pe_call G_take (hr.mono (by first | decide | omega)) rfl D_take.g D_take.fn.kp D_take.b .nil pass0 (pa_cons (pv 0) (pa_cons (pv 1) pa_nil))) pe_int (nomark _))))), ?_⟩
    walk_at "rd"
    refine ⟨hm, S, fun d H1 d0 d1 S1 b1 => ?_⟩
    walk_at "rd"
    exact q _ H1 S1 b1
/-- one of the items -/
def spPick : Sp := fun vs H Q _ => ∃ (st l : Addr) (xs : List V), vs = [.ref st, .ref l] ∧ H l = some (.lst xs) ∧ l ≠ st ∧ 0 < xs.length ∧ xs.length ≤ 1000 ∧ Store H st ∧ ∀ v H', v ∈ xs → Store H' st → ButS st H H' → Q v H'
theorem ok_pick {f : Addr} {fd : FuncData} (F : Fun K "_law_pick" "_law_pick" s_pick f fd) {f_take : Addr} {fd_take : FuncData} (D_take : Def K mg "_law_take" s_take p_take f_take fd_take) (G_take : FnOk P w K mg base CX0 2 f_take fd_take p_take spTake) : FnOk P w K mg base CX0 3 f fd p_pick spPick := by
  refine F.ok sc_pick (fun vs H Q E h => ?_) (fun cdv A outer s H vs Q E hr h => ?_)
  · obtain ⟨st, l, xs, rfl, _⟩ := h
    rfl
  · obtain ⟨st, l, xs, rfl, hl, hne, h0, h1, S, q⟩ := h
    refine ⟨_, (pss_one (ps_ret (by exact (pe_ix ix_list (pv 1) (pe_call G_take (hr.mono (by first | decide | omega)) rfl D_take.g D_take.fn.kp D_take.b .nil pass0 (pa_cons (pv 0) (pa_cons (pe_callB call_len_seq (by rfl) T.b_len (by first | exact PySem.boot_len | decide +kernel) (pa_cons (pv 1) pa_nil)) pa_nil))) (fun _ _ => rfl))))), ?_⟩
    walk_at "rd"
    refine ⟨_, _, rfl, .inl (SqL.of hl), ?_⟩
    walk_at "rd"
    refine ⟨by omega, S, fun d H1 d0 d1 S1 b1 => ?_⟩
    have hd : d < xs.length := by
      revert d1
      split <;> omega
    obtain ⟨j, rfl⟩ : ∃ j : Nat, d = (j : Int) := ⟨d.toNat, by omega⟩
    have hj : j < xs.length := by omega
    refine ⟨_, _, _, _, rfl, rfl, SqL.of (b1.1 _ _ hne hl), atI_nat (List.getElem?_eq_getElem hj), ?_⟩
    exact q _ H1 (List.getElem_mem hj) S1 b1
def spLen : Sp := fun vs H Q _ => ∃ (st : Addr), vs = [.ref st] ∧ Store H st ∧ ∀ n H', 1 ≤ n → n ≤ 120 → Store H' st → ButS st H H' → Q (.int n) H'
theorem ok_length {f : Addr} {fd : FuncData} (F : Fun K "_law_length" "_law_length" s_length f fd) {f_take : Addr} {fd_take : FuncData} (D_take : Def K mg "_law_take" s_take p_take f_take fd_take) (G_take : FnOk P w K mg base CX0 2 f_take fd_take p_take spTake) {f_edge : Addr} {fd_edge : FuncData} (D_edge : Def K mg "_law_edge" s_edge p_edge f_edge fd_edge) (G_edge : FnOk P w K mg base CX0 3 f_edge fd_edge p_edge spTake) : FnOk P w K mg base CX0 4 f fd p_length spLen := by
  refine F.ok sc_length (fun vs H Q E h => ?_) (fun cdv A outer s H vs Q E hr h => ?_)
  · obtain ⟨st, rfl, _⟩ := h
    rfl
  · obtain ⟨st, rfl, S, q⟩ := h
    refine ⟨_, (pss_cons (ps_set (i := 1) sc_length.nd rfl (Or.inl rfl) (by exact (pe_call G_take (hr.mono (by first | decide | omega)) rfl D_take.g D_take.fn.kp D_take.b .nil pass0 (pa_cons (pv 0) (pa_cons pe_int pa_nil)))))
      (pss_cons (ps_if (pt_cmpR op_eq (pv 1) pe_int (nomark _)) (pss_one (ps_ret (by exact (pe_op op_add pe_int (pe_call G_edge (hr.mono (by first | decide | omega)) rfl D_edge.g D_edge.fn.kp D_edge.b .nil pass0 (pa_cons (pv 0) (pa_cons pe_int pa_nil))))))) pss_nil)
      (pss_cons (ps_if (pt_cmpR op_eq (pv 1) pe_int (nomark _)) (pss_one (ps_ret (by exact (pe_op op_add pe_int (pe_call G_take (hr.mono (by first | decide | omega)) rfl D_take.g D_take.fn.kp D_take.b .nil pass0 (pa_cons (pv 0) (pa_cons pe_int pa_nil))))))) pss_nil)
      (pss_one (ps_ret (by exact (pe_op op_add pe_int (pe_call G_take (hr.mono (by first | decide | omega)) rfl D_take.g D_take.fn.kp D_take.b .nil pass0 (pa_cons (pv 0) (pa_cons pe_int pa_nil)))))))))), ?_⟩
    walk_at "rd"
    refine ⟨by decide, S, fun d H1 d0 d1 S1 b1 => ?_⟩
    walk_at "rd"
    refine ite2 (fun hc => ?_) (fun hc => ?_)
    · walk_at "rd"
      refine ⟨by decide, S1, fun d H2 d0 d1 S2 b2 => ?_⟩
      rw [if_pos (by decide)] at d1
      walk_at "rd"
      exact q _ H2 (by omega) (by omega) S2 (b1.trans b2)
    walk_at "rd"
    refine ite2 (fun hc => ?_) (fun hc => ?_)
    · walk_at "rd"
      refine ⟨by decide, S1, fun d H2 d0 d1 S2 b2 => ?_⟩
      rw [if_pos (by decide)] at d1
      walk_at "rd"
      exact q _ H2 (by omega) (by omega) S2 (b1.trans b2)
    · walk_at "rd"
      refine ⟨by decide, S1, fun d H2 d0 d1 S2 b2 => ?_⟩
      rw [if_pos (by decide)] at d1
      walk_at "rd"
      exact q _ H2 (by omega) (by omega) S2 (b1.trans b2)
theorem ok_cellcount {f : Addr} {fd : FuncData} (F : Fun K "_law_cellcount" "_law_cellcount" s_cellcount f fd) {f_take : Addr} {fd_take : FuncData} (D_take : Def K mg "_law_take" s_take p_take f_take fd_take) (G_take : FnOk P w K mg base CX0 2 f_take fd_take p_take spTake) {f_edge : Addr} {fd_edge : FuncData} (D_edge : Def K mg "_law_edge" s_edge p_edge f_edge fd_edge) (G_edge : FnOk P w K mg base CX0 3 f_edge fd_edge p_edge spTake) {f_odds : Addr} {fd_odds : FuncData} (D_odds : Def K mg "_law_odds" s_odds p_odds f_odds fd_odds) (G_odds : FnOk P w K mg base CX0 3 f_odds fd_odds p_odds spOdds) : FnOk P w K mg base CX0 4 f fd p_cellcount spLen := by
  refine F.ok sc_cellcount (fun vs H Q E h => ?_) (fun cdv A outer s H vs Q E hr h => ?_)
  · obtain ⟨st, rfl, _⟩ := h
    rfl
  · obtain ⟨st, rfl, S, q⟩ := h
    refine ⟨_, (pss_cons (ps_if (pt_val (pe_call G_odds (hr.mono (by first | decide | omega)) rfl D_odds.g D_odds.fn.kp D_odds.b .nil pass0 (pa_cons (pv 0) (pa_cons pe_int pa_nil)))) (pss_one (ps_ret (by exact (pe_op op_add pe_int (pe_call G_edge (hr.mono (by first | decide | omega)) rfl D_edge.g D_edge.fn.kp D_edge.b .nil pass0 (pa_cons (pv 0) (pa_cons pe_int pa_nil))))))) pss_nil)
      (pss_one (ps_ret (by exact (pe_op op_add pe_int (pe_call G_take (hr.mono (by first | decide | omega)) rfl D_take.g D_take.fn.kp D_take.b .nil pass0 (pa_cons (pv 0) (pa_cons pe_int pa_nil)))))))), ?_⟩
    walk_at "rd"
    refine ⟨by decide, S, fun b H1 S1 b1 => ?_⟩
    walk_at "rd"
    refine ite2 (fun hc => ?_) (fun hc => ?_)
    · walk_at "rd"
      refine ⟨by decide, S1, fun d H2 d0 d1 S2 b2 => ?_⟩
      rw [if_pos (by decide)] at d1
      walk_at "rd"
      exact q _ H2 (by omega) (by omega) S2 (b1.trans b2)
    · walk_at "rd"
      refine ⟨by decide, S1, fun d H2 d0 d1 S2 b2 => ?_⟩
      rw [if_pos (by decide)] at d1
      walk_at "rd"
      exact q _ H2 (by omega) (by omega) S2 (b1.trans b2)
end
end K12

set_option Elab.async false
set_option linter.all false
set_option maxRecDepth 100000
set_option maxHeartbeats 4000000
set_option pp.deepTerms false
set_option pp.deepTerms.threshold 12
namespace K12
open PySem PySem.Spec PyProof.Rows L2
local macro_rules | `(tactic| walk_at "ty") => `(tactic| first | exact .base (.int _) | exact .base (.bl _) | exact .base (.str _) | exact .base .non | assumption | exact .base (.tup (by assumption)) | exact .base (.lst (by assumption)))
local macro_rules | `(tactic| walk_at "cm") => `(tactic| first | exact cm_r (by decide) (by decide) | exact cm_l (by decide) (by decide) | exact cm_fmod (by decide) (by decide) | exact cm_r (by omega) (by omega) | exact cm_l (by omega) (by omega))
local macro_rules | `(tactic| walk_at "dv") => `(tactic| first | exact ⟨by decide, by decide⟩ | exact ⟨by omega, by omega⟩)
local macro_rules | `(tactic| walk_at "r1") => `(tactic| first
  | refine ⟨_, rfl, ?_⟩ | refine ⟨_, _, rfl, rfl, ?_⟩ | refine Or.inl ⟨_, rfl, ?_⟩ | refine Or.inr ⟨_, rfl, ?_⟩
  | refine And.intro (a := CMul _ _) (by walk_at "cm") ?_ | refine And.intro (a := CDivN _ _) (by walk_at "dv") ?_ | refine And.intro (a := _ ≠ (0 : Int)) (by first | decide | omega) ?_ | refine And.intro (a := scal _ _ = true) rfl ?_ | refine ⟨_, _, _, _, rfl, rfl, SqL.of (by first | exact upd_same | assumption), rfl, ?_⟩ | refine ⟨_, _, _, _, rfl, rfl, (by first | exact upd_same | assumption), rfl, ?_⟩ | refine ⟨_, _, rfl, ?_⟩ | refine And.intro (a := (_ : V) = V.non) rfl ?_ | refine And.intro (a := CPow _ _) ⟨by decide, by decide, by decide⟩ ?_ | refine And.intro (a := (_ : List V) = []) rfl ?_ | refine ⟨_, _, rfl, SqT.of (by first | exact upd_same | assumption), rfl, ?_⟩
  | refine ⟨_, _, _, _, rfl, rfl, SqT.of (by first | exact upd_same | assumption), rfl, ?_⟩
  | refine ⟨_, _, _, _, true, rfl, ClsV.ty _, (by walk_at "ty"), kit_ty (by decide +kernel), ?_⟩ | refine ⟨_, _, _, _, false, rfl, ClsV.ty _, (by walk_at "ty"), kit_ty (by decide +kernel), ?_⟩)
local macro_rules | `(tactic| walk_at "rd") => `(tactic| repeat walk_at "r1")
local macro_rules | `(tactic| walk_at "yes") => `(tactic| (change (if true = true then _ else _); rw [if_pos rfl]))
local macro_rules | `(tactic| walk_at "no") => `(tactic| (change (if false = true then _ else _); rw [if_neg Bool.false_ne_true]))
local macro_rules | `(tactic| walk_at "nw") => `(tactic| refine And.intro (a := _ ≤ sizeLine) (sz_le (Nat.le_of_ble_eq_true rfl)) ?_)

section
variable {P : Program} {w : World} {K : PySem.W.Frag} {mg : Str → Option Value} {base : Heap}
variable {C_VaultError C_TooMany C_NumberError C_BadPrime C_NoInverse C_NoNumber C_BadTable C_BadCells C_TextError C_ShapeError C_PlanError C_CourseError C_KnowError C_PaperError C_BadStep C_BadBlind C_BadMove C_NotShut C_NotOpen C_NotTheft C_NotPrice fV fI_BadMove fI_BadCells : Addr}
variable (T : Txt P K mg C_VaultError C_TooMany C_NumberError C_BadPrime C_NoInverse C_NoNumber C_BadTable C_BadCells C_TextError C_ShapeError C_PlanError C_CourseError C_KnowError C_PaperError C_BadStep C_BadBlind C_BadMove C_NotShut C_NotOpen C_NotTheft C_NotPrice fV fI_BadMove fI_BadCells)
include T
omit T in
theorem minsub {n k : Nat} (hk : k ≤ n) : (if (n : Int) - k < k then (n : Int) - k else (k : Int)) = ((min k (n - k) : Nat) : Int) := by
  by_cases h : n - k < k
  · rw [if_pos (by omega), Nat.min_eq_right (by omega)]
    omega
  · rw [if_neg (by omega), Nat.min_eq_left (by omega)]
omit T in
theorem fdiv_nat (a b : Nat) : ((a : Int).fdiv (b : Int)) = ((a / b : Nat) : Int) := by
  rw [Int.fdiv_eq_ediv_of_nonneg _ (by omega)]
  rfl
omit T in
theorem binN {n j : Nat} (h : j ≤ n) : (((M11.bin n j : Nat) : Int) * ((n : Int) - j)).fdiv ((j : Int) + 1) = ((M11.bin n (j + 1) : Nat) : Int) := by
  have e : ((M11.bin n j : Nat) : Int) * ((n : Int) - j) = ((M11.bin n j * (n - j) : Nat) : Int) := by
    rw [Int.natCast_mul, Int.ofNat_sub h]
  rw [e, show (j : Int) + 1 = ((j + 1 : Nat) : Int) from rfl, fdiv_nat, M11.bin_step]
omit T in
theorem bN {c q : Nat} : (((M11.B c q : Nat) : Int) * ((c : Int) + q + 1)).fdiv ((q : Int) + 1) = ((M11.B c (q + 1) : Nat) : Int) := by
  have e : ((M11.B c q : Nat) : Int) * ((c : Int) + q + 1) = ((M11.B c q * (c + q + 1) : Nat) : Int) := by
    rw [Int.natCast_mul]
    rfl
  rw [e, show (q : Int) + 1 = ((q + 1 : Nat) : Int) from rfl, fdiv_nat, M11.B_step]
def spCh : Sp := fun vs H Q _ => ∃ a b : Int, vs = [.int a, .int b] ∧ ∃ n k : Nat, (a = n ∧ b = k) ∧ n ≤ 1000 ∧ Q (.int (M11.bin n k)) H
theorem ok_choose {f : Addr} {fd : FuncData} (F : Fun K "choose" "choose" s_choose f fd) : FnOk P w K mg base CX0 1 f fd p_choose spCh := by
  refine F.ok sc_choose (fun vs H Q E h => ?_) (fun cdv A outer s H vs Q E hr h => ?_)
  · obtain ⟨a, b, rfl, _⟩ := h
    rfl
  · obtain ⟨_, _, rfl, n, k, ⟨rfl, rfl⟩, hn, q⟩ := h
    refine ⟨_, (pss_cons (ps_if (PW.pt (pw_or (pt_cmpR op_lt (pv 1) pe_int (nomark _)) (pw_or1 (pt_cmpR op_gt (pv 1) (pv 0) (nomark _))))) (pss_one (ps_ret (by exact pe_int))) pss_nil)
      (pss_cons (ps_set (i := 2) sc_choose.nd rfl (Or.inl rfl) (by exact pe_int))
      (pss_cons (ps_for PassesOwn.never rfl (pi_range1 (by rfl) T.b_range (pa_cons (pe_callB (call_min2 rfl) (by rfl) T.b_min (by first | exact PySem.boot_min | decide +kernel) (pa_cons (pv 1) (pa_cons (pe_op op_sub (pv 0) (pv 1)) pa_nil))) pa_nil)) (pg_name (i := 3) sc_choose.nd rfl (Or.inl rfl)) (pss_one (ps_set (i := 2) sc_choose.nd rfl (Or.inl rfl) (by exact (pe_op op_fdivN (pe_op op_mul (pv 2) (pe_op op_sub (pv 0) (pv 3))) (pe_op op_add (pv 3) pe_int))))))
      (pss_one (ps_ret (by exact (pv 2))))))), ?_⟩
    walk_at "rd"
    refine ite2 (fun hc => ?_) (fun hc => ?_)
    · walk_at "rd"
      have := of_decide_eq_true hc
      rw [M11.bin_lt (by omega)] at q
      exact q
    have hk : k ≤ n := by
      have := of_ndec hc
      omega
    walk_at "rd"
    rw [minsub hk]
    have hm : min k (n - k) ≤ n := Nat.le_trans (Nat.min_le_left _ _) hk
    refine ⟨by omega, by omega, ?_⟩
    refine for_range (fun i σ H' => ∃ v : Option V, σ = [some (.int n), some (.int k), some (.int (M11.bin n i : Nat)), v] ∧ H' = H) ⟨none, by rw [M11.bin_0]; rfl, rfl⟩ ?_ ?_
    · rintro i σ H' hi ⟨v, rfl, rfl⟩
      have hi2 : i < min k (n - k) := hi
      walk_at "rd"
      refine ⟨some (.int (0 + i)), ?_, rfl⟩
      rw [show (0 : Int) + (i : Int) = i from Int.zero_add _]
      show [_, _, some (V.int ((((M11.bin n i : Nat) : Int) * ((n : Int) - (i : Int))).fdiv ((i : Int) + 1))), _] = _
      rw [binN (by omega)]
    · rintro σ H' ⟨v, rfl, rfl⟩
      walk_at "rd"
      show Q (.int ((M11.bin n (min k (n - k)) : Nat) : Int)) _
      rw [M11.bin_min hk]
      exact q
def spUps : Sp := fun vs H Q _ => ∃ a b : Int, vs = [.int a, .int b] ∧ ∃ n c : Nat, (a = n ∧ b = (c + 1 : Nat)) ∧ n ≤ 1000 ∧ c ≤ 1000 ∧ Q (.int (M11.T n (c + 1))) H
theorem ok_leastups {f : Addr} {fd : FuncData} (F : Fun K "_law_leastups" "_law_leastups" s_leastups f fd) : FnOk P w K mg base CX0 1 f fd p_leastups spUps := by
  refine F.ok sc_leastups (fun vs H Q E h => ?_) (fun cdv A outer s H vs Q E hr h => ?_)
  · obtain ⟨a, b, rfl, _⟩ := h
    rfl
  · obtain ⟨_, _, rfl, n, c, ⟨rfl, rfl⟩, hn, hc, q⟩ := h
    refine ⟨_, (pss_cons (ps_set (i := 2) sc_leastups.nd rfl (Or.inl rfl) (by exact pe_int))
      (pss_cons (ps_set (i := 3) sc_leastups.nd rfl (Or.inl rfl) (by exact pe_int))
      (pss_cons (ps_for PassesOwn.never rfl (pi_range1 (by rfl) T.b_range (pa_cons (pe_op op_add (pv 0) pe_int) pa_nil)) (pg_name (i := 4) sc_leastups.nd rfl (Or.inl rfl)) (pss_cons (ps_if (pt_cmpR op_le (pe_op op_add (pv 0) pe_int) (pv 3) (nomark _)) (pss_one ps_break) pss_nil)
          (pss_cons (ps_set (i := 2) sc_leastups.nd rfl (Or.inl rfl) (by exact (pe_op op_sub (pe_op op_add (pe_op op_add (pv 2) (pv 0)) pe_int) (pv 3))))
          (pss_one (ps_set (i := 3) sc_leastups.nd rfl (Or.inl rfl) (by exact (pe_op op_fdivN (pe_op op_mul (pv 3) (pe_op op_add (pe_op op_add (pv 1) (pv 4)) pe_int)) (pe_op op_add (pv 4) pe_int))))))))
      (pss_one (ps_ret (by exact (pv 2))))))), ?_⟩
    walk_at "rd"
    refine ⟨by omega, by omega, ?_⟩
    refine for_range (fun i σ H' => ∃ v : Option V, σ = [some (.int n), some (.int ((c + 1 : Nat) : Int)), some (.int (M11.S n (c + 1) i)), some (.int (M11.B (c + 1) i : Nat)), v] ∧ H' = H ∧ ∀ q, q < i → M11.B (c + 1) q ≤ n) ⟨none, by rw [M11.S_0, M11.B_0]; rfl, rfl, fun q h => absurd h (Nat.not_lt_zero _)⟩ ?_ ?_
    · rintro i σ H' hi ⟨v, rfl, rfl, hb⟩
      walk_at "rd"
      refine ite2 (fun hc => ?_) (fun hc => ?_)
      · have hr : M11.IsR n (c + 1) i := ⟨hb, by have := of_decide_eq_true hc; omega⟩
        walk_at "rd"
        show Q (.int (M11.S n (c + 1) i)) _
        rw [M11.IsT.eq ⟨i, hr, rfl⟩]
        exact q
      · have hlt := of_ndec hc
        walk_at "rd"
        refine ⟨some (.int (0 + i)), ?_, rfl, fun q hq => ?_⟩
        · rw [M11.S_succ, show (0 : Int) + (i : Int) = i from Int.zero_add _]
          show [_, _, some (V.int (M11.S n (c + 1) i + (n : Int) + 1 - (M11.B (c + 1) i : Nat))), some (V.int ((((M11.B (c + 1) i : Nat) : Int) * (((c + 1 : Nat) : Int) + (i : Int) + 1)).fdiv ((i : Int) + 1))), _] = _
          rw [bN]
          rw [show M11.S n (c + 1) i + ((n : Int) + 1 - (M11.B (c + 1) i : Nat)) = M11.S n (c + 1) i + (n : Int) + 1 - (M11.B (c + 1) i : Nat) by omega]
        · rcases Nat.lt_succ_iff_lt_or_eq.mp hq with a | a
          · exact hb q a
          · rw [a]
            omega
    · rintro σ H' ⟨v, rfl, rfl, hb⟩
      exfalso
      have h1 := hb n (by omega)
      have h2 := M11.B_ge c n
      omega
omit T in
theorem isi_ty {K : PySem.W.Frag} {H : Hp} {x : V} {n m : String} {b : Bool} {Q : VK} (h : TyX K H x (.type n)) (e : kitB n m = some b) (q : Q (.bl b) H) : rIsi K [x, .ty m] H Q := ⟨x, .ty m, _, _, b, rfl, .ty m, h, kit_ty e, q⟩
/-- no int: a bool, None, a string, a tuple or a list -/
inductive NotInt (H : Hp) : V → String → Prop
  | bl (b : Bool) : NotInt H (.bl b) "bool"
  | non : NotInt H .non "NoneType"
  | str (s : Str) : NotInt H (.str s) "str"
  | tup (a : Addr) (xs : List V) (h : H a = some (.tup xs)) : NotInt H (.ref a) "tuple"
  | lst (a : Addr) (xs : List V) (h : H a = some (.lst xs)) : NotInt H (.ref a) "list"
omit T in
theorem NotInt.ty {K : PySem.W.Frag} {H : Hp} {x : V} {n : String} (h : NotInt H x n) : TyX K H x (.type n) := by
  cases h with
  | bl b => exact .base (.bl b)
  | non => exact .base .non
  | str s => exact .base (.str s)
  | tup a xs h => exact .base (.tup h)
  | lst a xs h => exact .base (.lst h)
def spWhole : Sp := fun vs H Q _ => ∃ v : V, vs = [v] ∧ ((∃ i, v = .int i ∧ Q (.bl true) H) ∨ (∃ n, NotInt H v n ∧ Q (.bl false) H))
theorem ok_is_whole {f : Addr} {fd : FuncData} (F : Fun K "is_whole" "is_whole" s_is_whole f fd) : FnOk P w K mg base CX0 1 f fd p_is_whole spWhole := by
  refine F.ok sc_is_whole (fun vs H Q E h => ?_) (fun cdv A outer s H vs Q E hr h => ?_)
  · obtain ⟨a, rfl, _⟩ := h
    rfl
  · obtain ⟨v, rfl, q⟩ := h
    refine ⟨_, (pss_one (ps_ret (by exact (pe_and (pe_callB call_isi (by rfl) T.b_isinstance (by first | exact PySem.boot_isinstance | decide +kernel) (pa_cons (pv 0) (pa_cons (pe_bltn (v := .ty "int") (by rfl) T.b_int (by first | exact PySem.boot_int | decide +kernel) rfl) pa_nil))) (pe_one (pe_not (pe_callB call_isi (by rfl) T.b_isinstance (by first | exact PySem.boot_isinstance | decide +kernel) (pa_cons (pv 0) (pa_cons (pe_bltn (v := .ty "bool") (by rfl) T.b_bool (by first | exact PySem.boot_bool | decide +kernel) rfl) pa_nil))))))))), ?_⟩
    walk_at "rd"
    rcases q with ⟨i, rfl, q⟩ | ⟨n, h, q⟩
    · walk_at "rd"
      exact q
    · cases h <;> (walk_at "rd"; exact q)
theorem ok_isint {f : Addr} {fd : FuncData} (F : Fun K "_law_isint" "_law_isint" s_isint f fd) : FnOk P w K mg base CX0 1 f fd p_isint spWhole := by
  refine F.ok sc_isint (fun vs H Q E h => ?_) (fun cdv A outer s H vs Q E hr h => ?_)
  · obtain ⟨a, rfl, _⟩ := h
    rfl
  · obtain ⟨v, rfl, q⟩ := h
    refine ⟨_, (pss_one (ps_ret (by exact (pe_and (pe_callB call_isi (by rfl) T.b_isinstance (by first | exact PySem.boot_isinstance | decide +kernel) (pa_cons (pv 0) (pa_cons (pe_bltn (v := .ty "int") (by rfl) T.b_int (by first | exact PySem.boot_int | decide +kernel) rfl) pa_nil))) (pe_one (pe_not (pe_callB call_isi (by rfl) T.b_isinstance (by first | exact PySem.boot_isinstance | decide +kernel) (pa_cons (pv 0) (pa_cons (pe_bltn (v := .ty "bool") (by rfl) T.b_bool (by first | exact PySem.boot_bool | decide +kernel) rfl) pa_nil))))))))), ?_⟩
    walk_at "rd"
    rcases q with ⟨i, rfl, q⟩ | ⟨n, h, q⟩
    · walk_at "rd"
      exact q
    · cases h <;> (walk_at "rd"; exact q)
def spWithin : Sp := fun vs H Q _ => ∃ (v : V) (a b : Int), vs = [v, .int a, .int b] ∧ ((∃ i, v = .int i ∧ ∀ c : Bool, (c = true ↔ a ≤ i ∧ i ≤ b) → Q (.bl c) H) ∨ (∃ n, NotInt H v n ∧ Q (.bl false) H))
theorem ok_lies_within {f : Addr} {fd : FuncData} (F : Fun K "lies_within" "lies_within" s_lies_within f fd) {f_is_whole : Addr} {fd_is_whole : FuncData} (D_is_whole : Def K mg "is_whole" s_is_whole p_is_whole f_is_whole fd_is_whole) (G_is_whole : FnOk P w K mg base CX0 1 f_is_whole fd_is_whole p_is_whole spWhole) : FnOk P w K mg base CX0 2 f fd p_lies_within spWithin := by
  refine F.ok sc_lies_within (fun vs H Q E h => ?_) (fun cdv A outer s H vs Q E hr h => ?_)
  · obtain ⟨v, a, b, rfl, _⟩ := h
    rfl
  · obtain ⟨v, a, b, rfl, q⟩ := h
    refine ⟨_, (pss_one (ps_ret (by exact (pe_and (pe_call G_is_whole (hr.mono (by first | decide | omega)) rfl D_is_whole.g D_is_whole.fn.kp D_is_whole.b .nil pass0 (pa_cons (pv 0) pa_nil)) (pe_one (pe_chain op_le op_le (pv 1) (pv 0) (pv 2))))))), ?_⟩
    walk_at "rd"
    rcases q with ⟨i, rfl, q⟩ | ⟨n, h, q⟩
    · refine .inl ⟨i, rfl, ?_⟩
      walk_at "rd"
      refine ite2 (fun hc => ?_) (fun hc => ?_)
      · have h1 := of_decide_eq_true hc
        walk_at "rd"
        refine q _ ⟨fun z => ⟨h1, of_decide_eq_true z⟩, fun z => decide_eq_true z.2⟩
      · have h1 := of_ndec hc
        exact q false ⟨fun z => (nomatch z), fun z => absurd z.1 h1⟩
    · refine .inr ⟨n, h, ?_⟩
      walk_at "rd"
      exact q
def spNeed (C : Addr) : Sp := fun vs H Q E => ∃ v : V, vs = [v] ∧ ((∃ i, v = .int i ∧ 1 ≤ i ∧ Q .non H) ∨ ((∃ i, v = .int i ∧ i < 1) ∨ (∃ n, NotInt H v n)) ∧ ∀ d, H d = none → E (.ref C) (some d) (upd H d (.xd (excD ["cells"] "BadCells" [v]))))
theorem ok_need_cells {f : Addr} {fd : FuncData} (F : Fun K "need_cells" "need_cells" s_need_cells f fd) {f_is_whole : Addr} {fd_is_whole : FuncData} (D_is_whole : Def K mg "is_whole" s_is_whole p_is_whole f_is_whole fd_is_whole) (G_is_whole : FnOk P w K mg base CX0 1 f_is_whole fd_is_whole p_is_whole spWhole) : FnOk P w K mg base (L2N.CX P w) 3 f fd p_need_cells (spNeed C_BadCells) := by
  refine F.okN sc_need_cells (fun vs H Q E h => ?_) (fun cdv A outer s H vs Q E hr h => ?_)
  · obtain ⟨a, rfl, _⟩ := h
    rfl
  · obtain ⟨v, rfl, q⟩ := h
    refine ⟨_, (pss_one (ps_if (PW.pt (pw_or (pt_not (pt_val (pe_call G_is_whole (hr.mono (by first | decide | omega)) rfl D_is_whole.g D_is_whole.fn.kp D_is_whole.b .nil pass0 (pa_cons (pv 0) pa_nil)))) (pw_or1 (pt_cmpR op_lt (pv 0) pe_int (nomark _))))) (pss_one (ps_raiseN rfl T.lf_BadCells hr (L2N.takes_of rfl rfl rfl rfl) T.g_BadCells (pa_cons (pv 0) pa_nil))) pss_nil)), ?_⟩
    walk_at "rd"
    rcases q with ⟨i, rfl, hi, q⟩ | ⟨h | ⟨n, h⟩, q⟩
    · refine .inl ⟨i, rfl, ?_⟩
      walk_at "rd"
      refine ite2 (fun hc => ?_) (fun hc => ?_)
      · have := of_decide_eq_true hc
        omega
      · walk_at "rd"
        exact q
    · obtain ⟨i, rfl, hi⟩ := h
      refine .inl ⟨i, rfl, ?_⟩
      walk_at "rd"
      refine ite2 (fun hc => ?_) (fun hc => ?_)
      · walk_at "rd"
        exact ⟨rfl, fun d hd => q d hd⟩
      · have := of_ndec hc
        omega
    · refine .inr ⟨n, h, ?_⟩
      walk_at "rd"
      exact ⟨rfl, fun d hd => q d hd⟩
def spR (C : Addr) (sp : Nat → Nat → Hp → VK → Prop) : Sp := fun vs H Q E => ∃ a b : V, vs = [a, b] ∧ ((∃ n c : Nat, (a = .int n ∧ b = .int (c + 1 : Nat)) ∧ n ≤ 120 ∧ c < 120 ∧ sp n c H Q) ∨ ((∃ i, b = .int i ∧ i < 1) ∨ (∃ n, NotInt H b n)) ∧ ∀ d, H d = none → E (.ref C) (some d) (upd H d (.xd (excD ["cells"] "BadCells" [b]))))
def spRounds2 : Nat → Nat → Hp → VK → Prop := fun n c H Q => ∀ r, M11.IsR n (c + 1) r → Q (.int r) H
theorem ok_rounds {f : Addr} {fd : FuncData} (F : Fun K "rounds" "rounds" s_rounds f fd) {f_need_cells : Addr} {fd_need_cells : FuncData} (D_need_cells : Def K mg "need_cells" s_need_cells p_need_cells f_need_cells fd_need_cells) (G_need_cells : FnOk P w K mg base (L2N.CX P w) 3 f_need_cells fd_need_cells p_need_cells (spNeed C_BadCells)) {f_choose : Addr} {fd_choose : FuncData} (D_choose : Def K mg "choose" s_choose p_choose f_choose fd_choose) (G_choose : FnOk P w K mg base CX0 1 f_choose fd_choose p_choose spCh) : FnOk P w K mg base (L2N.CX P w) 4 f fd p_rounds (spR C_BadCells spRounds2) := by
  refine F.okN sc_rounds (fun vs H Q E h => ?_) (fun cdv A outer s H vs Q E hr h => ?_)
  · obtain ⟨a, b, rfl, _⟩ := h
    rfl
  · obtain ⟨a, b, rfl, q⟩ := h
    have passO := passes_of (X := cxOf (L2N.CX P w) P w K mg base N_rounds "rounds" (defScope s_rounds) f cdv A outer s H E) rfl
    have tk := L2N.takes_of (X := cxOf (L2N.CX P w) P w K mg base N_rounds "rounds" (defScope s_rounds) f cdv A outer s H E) rfl rfl rfl rfl
    refine ⟨_, (pss_cons (ps_expr (pe_callS G_need_cells (hr.mono (by first | decide | omega)) rfl D_need_cells.g D_need_cells.fn.kp D_need_cells.b (fun σ => L2N.passAt tk σ) (pa_cons (pv 1) pa_nil)))
      (pss_cons (ps_set (i := 2) sc_rounds.nd rfl (Or.inl rfl) (by exact pe_int))
      (pss_cons (ps_while passO (pt_cmpR op_le (pe_call G_choose (hr.mono (by first | decide | omega)) rfl D_choose.g D_choose.fn.kp D_choose.b .nil pass0 (pa_cons (pe_op op_add (pv 1) (pv 2)) (pa_cons (pv 1) pa_nil))) (pv 0) (nomark _)) (pss_one (ps_aug (i := 2) sc_rounds.nd rfl (Or.inl rfl) pe_int ip_add)))
      (pss_one (ps_ret (by exact (pv 2))))))), ?_⟩
    rcases q with ⟨n', c', ⟨rfl, rfl⟩, hn, hc, q⟩ | ⟨h, q⟩
    · obtain ⟨r, hr⟩ := M11.IsR.ex n' c'
      have q := q r hr
      walk_at "rd"
      refine ⟨by omega, ?_⟩
      walk_at "rd"
      refine ⟨fun m σ H' => ∃ k : Nat, m = r - k ∧ k ≤ r ∧ σ = [some (.int n'), some (.int (c' + 1 : Nat)), some (.int k)] ∧ H' = H, ⟨r, 0, rfl, Nat.zero_le r, rfl, rfl⟩, ?_⟩
      rintro m σ H' ⟨k, rfl, hk, rfl, rfl⟩
      have hrn := hr.le
      walk_at "rd"
      refine ⟨c' + 1 + k, c' + 1, ⟨by omega, rfl⟩, by omega, ?_⟩
      walk_at "rd"
      refine ite2 (fun hc => ?_) (fun hc => ?_)
      · have hle : M11.B (c' + 1) k ≤ n' := by
          have := of_decide_eq_true hc
          unfold M11.B
          omega
        have hlt : k < r := (Nat.lt_or_ge k r).elim id fun z => by
          have h2 := hr.2
          rw [show r = k by omega] at h2
          omega
        refine ⟨fun σ' H'' => ∃ m', m' < r - k ∧ ∃ k : Nat, m' = r - k ∧ k ≤ r ∧ σ' = [some (.int n'), some (.int (c' + 1 : Nat)), some (.int k)] ∧ H'' = H', fun _ _ h => h, ?_⟩
        walk_at "rd"
        exact ⟨r - (k + 1), by omega, k + 1, rfl, hlt, rfl, rfl⟩
      · have hgt := of_ndec hc
        have hkr : k = r := (Nat.lt_or_ge k r).elim (fun z => by
          have h2 := hr.1 k z
          unfold M11.B at h2
          omega) fun z => by omega
        subst hkr
        walk_at "rd"
        exact q
    · walk_at "rd"
      exact .inr ⟨h, q⟩
def spSteps2 : Nat → Nat → Hp → VK → Prop := fun n c H Q => Q (.int (M11.T n (c + 1))) H
theorem ok_least_steps {f : Addr} {fd : FuncData} (F : Fun K "least_steps" "least_steps" s_least_steps f fd) {f_rounds : Addr} {fd_rounds : FuncData} (D_rounds : Def K mg "rounds" s_rounds p_rounds f_rounds fd_rounds) (G_rounds : FnOk P w K mg base (L2N.CX P w) 4 f_rounds fd_rounds p_rounds (spR C_BadCells spRounds2)) {f_choose : Addr} {fd_choose : FuncData} (D_choose : Def K mg "choose" s_choose p_choose f_choose fd_choose) (G_choose : FnOk P w K mg base CX0 1 f_choose fd_choose p_choose spCh) : FnOk P w K mg base (L2N.CX P w) 5 f fd p_least_steps (spR C_BadCells spSteps2) := by
  refine F.okN sc_least_steps (fun vs H Q E h => ?_) (fun cdv A outer s H vs Q E hr h => ?_)
  · obtain ⟨a, b, rfl, _⟩ := h
    rfl
  · obtain ⟨a, b, rfl, q⟩ := h
    have tk := L2N.takes_of (X := cxOf (L2N.CX P w) P w K mg base N_least_steps "least_steps" (defScope s_least_steps) f cdv A outer s H E) rfl rfl rfl rfl
    refine ⟨_, (pss_cons (ps_set (i := 2) sc_least_steps.nd rfl (Or.inl rfl) (by exact (pe_callS G_rounds (hr.mono (by first | decide | omega)) rfl D_rounds.g D_rounds.fn.kp D_rounds.b (fun σ => L2N.passAt tk σ) (pa_cons (pv 0) (pa_cons (pv 1) pa_nil)))))
      (pss_one (ps_ret (by exact (pe_op op_sub (pe_op op_mul (pv 2) (pe_op op_add (pv 0) pe_int)) (pe_call G_choose (hr.mono (by first | decide | omega)) rfl D_choose.g D_choose.fn.kp D_choose.b .nil pass0 (pa_cons (pe_op op_add (pv 1) (pv 2)) (pa_cons (pe_op op_add (pv 1) pe_int) pa_nil)))))))), ?_⟩
    walk_at "rd"
    rcases q with ⟨n', c', ⟨rfl, rfl⟩, hn, hc, q⟩ | ⟨h, q⟩
    · refine .inl ⟨n', c', ⟨rfl, rfl⟩, hn, hc, fun r hr => ?_⟩
      walk_at "rd"
      have hrn := hr.le
      refine ⟨c' + 1 + r, c' + 1 + 1, ⟨by omega, by omega⟩, by omega, ?_⟩
      walk_at "rd"
      have e := M11.IsT.eq ⟨r, hr, rfl⟩
      have q : Q (.int (M11.T n' (c' + 1))) H := q
      rw [← e] at q
      exact q
    · exact .inr ⟨h, q⟩
def spStop2 : Nat → Nat → Hp → VK → Prop := fun n c H Q => 1 ≤ n ∧ ∀ m, M11.IsStop n c m → Q (.int m) H
theorem ok_best_stop {f : Addr} {fd : FuncData} (F : Fun K "best_stop" "best_stop" s_best_stop f fd) {f_need_cells : Addr} {fd_need_cells : FuncData} (D_need_cells : Def K mg "need_cells" s_need_cells p_need_cells f_need_cells fd_need_cells) (G_need_cells : FnOk P w K mg base (L2N.CX P w) 3 f_need_cells fd_need_cells p_need_cells (spNeed C_BadCells)) {f_least_steps : Addr} {fd_least_steps : FuncData} (D_least_steps : Def K mg "least_steps" s_least_steps p_least_steps f_least_steps fd_least_steps) (G_least_steps : FnOk P w K mg base (L2N.CX P w) 5 f_least_steps fd_least_steps p_least_steps (spR C_BadCells spSteps2)) : FnOk P w K mg base (L2N.CX P w) 6 f fd p_best_stop (spR C_BadCells spStop2) := by
  refine F.okN sc_best_stop (fun vs H Q E h => ?_) (fun cdv A outer s H vs Q E hr h => ?_)
  · obtain ⟨a, b, rfl, _⟩ := h
    rfl
  · obtain ⟨a, b, rfl, q⟩ := h
    have passO := passes_of (X := cxOf (L2N.CX P w) P w K mg base N_best_stop "best_stop" (defScope s_best_stop) f cdv A outer s H E) rfl
    have tk := L2N.takes_of (X := cxOf (L2N.CX P w) P w K mg base N_best_stop "best_stop" (defScope s_best_stop) f cdv A outer s H E) rfl rfl rfl rfl
    refine ⟨_, (pss_cons (ps_expr (pe_callS G_need_cells (hr.mono (by first | decide | omega)) rfl D_need_cells.g D_need_cells.fn.kp D_need_cells.b (fun σ => L2N.passAt tk σ) (pa_cons (pv 1) pa_nil)))
      (pss_cons (ps_if (pt_cmpR op_eq (pv 1) pe_int (nomark _)) (pss_one (ps_ret (by exact (pv 0)))) pss_nil)
      (pss_cons (ps_set (i := 2) sc_best_stop.nd rfl (Or.inl rfl) (by exact (pe_callS G_least_steps (hr.mono (by first | decide | omega)) rfl D_least_steps.g D_least_steps.fn.kp D_least_steps.b (fun σ => L2N.passAt tk σ) (pa_cons (pv 0) (pa_cons (pv 1) pa_nil)))))
      (pss_cons (ps_set (i := 3) sc_best_stop.nd rfl (Or.inl rfl) (by exact pe_int))
      (pss_cons (ps_while passO (pt_cmpR op_ne (pe_op op_add (pe_op op_add (pv 3) (pe_callS G_least_steps (hr.mono (by first | decide | omega)) rfl D_least_steps.g D_least_steps.fn.kp D_least_steps.b (fun σ => L2N.passAt tk σ) (pa_cons (pe_op op_sub (pv 0) (pv 3)) (pa_cons (pe_op op_sub (pv 1) pe_int) pa_nil)))) (pe_callS G_least_steps (hr.mono (by first | decide | omega)) rfl D_least_steps.g D_least_steps.fn.kp D_least_steps.b (fun σ => L2N.passAt tk σ) (pa_cons (pe_op op_sub (pv 3) pe_int) (pa_cons (pv 1) pa_nil)))) (pv 2) (nomark _)) (pss_one (ps_aug (i := 3) sc_best_stop.nd rfl (Or.inl rfl) pe_int ip_add)))
      (pss_one (ps_ret (by exact (pv 3))))))))), ?_⟩
    rcases q with ⟨n', c', ⟨rfl, rfl⟩, hn, hc, q⟩ | ⟨h, q⟩
    · obtain ⟨hn1, q⟩ := q
      walk_at "rd"
      refine ⟨by omega, ?_⟩
      walk_at "rd"
      refine ite2 (fun hc => ?_) (fun hc => ?_)
      · obtain rfl : c' = 0 := by
          have := V.int.inj (of_decide_eq_true hc)
          omega
        walk_at "rd"
        exact q n' (M11.stop_1 hn1)
      · have c0 : c' ≠ 0 := fun z => of_ndec hc (by rw [z]; rfl)
        obtain ⟨d, rfl⟩ : ∃ d, c' = d + 1 := ⟨c' - 1, by omega⟩
        walk_at "rd"
        refine .inl ⟨n', d + 1, ⟨rfl, rfl⟩, hn, by assumption, ?_⟩
        walk_at "rd"
        refine ⟨fun m σ H' => ∃ k : Nat, m = n' - k ∧ 1 ≤ k ∧ k ≤ n' ∧ (∀ j, 1 ≤ j → j < k → M11.sm n' (d + 1) j ≠ some (M11.T n' (d + 1 + 1))) ∧ σ = [some (.int n'), some (.int (d + 1 + 1 : Nat)), some (.int (M11.T n' (d + 1 + 1))), some (.int k)] ∧ H' = H, ⟨_, 1, rfl, Nat.le_refl 1, hn1, fun j h1 h2 => by omega, rfl, rfl⟩, ?_⟩
        rintro m σ H' ⟨k, rfl, k1, kn, hk, rfl, rfl⟩
        walk_at "rd"
        refine .inl ⟨n' - k, d, ⟨congrArg V.int (by omega), congrArg V.int (by omega)⟩, by omega, by omega, ?_⟩
        walk_at "rd"
        refine .inl ⟨k - 1, d + 1, ⟨congrArg V.int (by omega), rfl⟩, by omega, by omega, ?_⟩
        walk_at "rd"
        have hs : M11.sm n' (d + 1) k = some ((k : Int) + M11.T (n' - k) (d + 1) + M11.T (k - 1) (d + 1 + 1)) := by
          unfold M11.sm
          rw [if_neg (Nat.succ_ne_zero d)]
        refine ite2 (fun hc => ?_) (fun hc => ?_)
        · have hne : M11.sm n' (d + 1) k ≠ some (M11.T n' (d + 1 + 1)) := by
            rw [hs]
            intro z
            exact of_decide_eq_false (bnot_t hc) (congrArg V.int (Option.some.inj z))
          refine ⟨fun σ' H'' => ∃ m', m' < n' - k ∧ ∃ k : Nat, m' = n' - k ∧ 1 ≤ k ∧ k ≤ n' ∧ (∀ j, 1 ≤ j → j < k → M11.sm n' (d + 1) j ≠ some (M11.T n' (d + 1 + 1))) ∧ σ' = [some (.int n'), some (.int (d + 1 + 1 : Nat)), some (.int (M11.T n' (d + 1 + 1))), some (.int k)] ∧ H'' = H', fun _ _ h => h, ?_⟩
          have all : ∀ j, 1 ≤ j → j ≤ k → M11.sm n' (d + 1) j ≠ some (M11.T n' (d + 1 + 1)) := fun j h1 h2 => (Nat.lt_or_ge j k).elim (hk j h1) fun z => by rw [show j = k by omega]; exact hne
          have hlt := M11.stop_more hn1 all
          walk_at "rd"
          exact ⟨n' - (k + 1), by omega, k + 1, rfl, by omega, hlt, fun j h1 h2 => all j h1 (by omega), rfl, rfl⟩
        · have heq : M11.sm n' (d + 1) k = some (M11.T n' (d + 1 + 1)) := by
            rw [hs]
            exact congrArg some (V.int.inj (of_decide_eq_true (bnot_f hc)))
          walk_at "rd"
          exact q k ⟨k1, kn, heq, hk⟩
    · walk_at "rd"
      exact .inr ⟨h, q⟩
end
end K12

set_option Elab.async false
set_option linter.all false
set_option maxRecDepth 100000
set_option maxHeartbeats 4000000
set_option pp.deepTerms false
set_option pp.deepTerms.threshold 12
namespace K12
open PySem PySem.Spec PyProof.Rows L2
local macro_rules | `(tactic| walk_at "ty") => `(tactic| first | exact .base (.int _) | exact .base (.bl _) | exact .base (.str _) | exact .base .non | assumption | exact .base (.tup (by assumption)) | exact .base (.lst (by assumption)))
local macro_rules | `(tactic| walk_at "cm") => `(tactic| first | exact cm_r (by decide) (by decide) | exact cm_l (by decide) (by decide) | exact cm_fmod (by decide) (by decide) | exact cm_r (by omega) (by omega) | exact cm_l (by omega) (by omega))
local macro_rules | `(tactic| walk_at "dv") => `(tactic| first | exact ⟨by decide, by decide⟩ | exact ⟨by omega, by omega⟩)
local macro_rules | `(tactic| walk_at "r1") => `(tactic| first
  | refine ⟨_, rfl, ?_⟩ | refine ⟨_, _, rfl, rfl, ?_⟩ | refine Or.inl ⟨_, rfl, ?_⟩ | refine Or.inr ⟨_, rfl, ?_⟩
  | refine And.intro (a := CMul _ _) (by walk_at "cm") ?_ | refine And.intro (a := CDivN _ _) (by walk_at "dv") ?_ | refine And.intro (a := _ ≠ (0 : Int)) (by first | decide | omega) ?_ | refine And.intro (a := scal _ _ = true) rfl ?_ | refine ⟨_, _, _, _, rfl, rfl, SqL.of (by first | exact upd_same | assumption), rfl, ?_⟩ | refine ⟨_, _, _, _, rfl, rfl, (by first | exact upd_same | assumption), rfl, ?_⟩ | refine ⟨_, _, rfl, ?_⟩ | refine And.intro (a := (_ : V) = V.non) rfl ?_ | refine And.intro (a := CPow _ _) ⟨by decide, by decide, by decide⟩ ?_ | refine And.intro (a := (_ : List V) = []) rfl ?_ | refine ⟨_, _, rfl, SqT.of (by first | exact upd_same | assumption), rfl, ?_⟩
  | refine ⟨_, _, _, _, rfl, rfl, SqT.of (by first | exact upd_same | assumption), rfl, ?_⟩
  | refine ⟨_, _, _, _, true, rfl, ClsV.ty _, (by walk_at "ty"), kit_ty (by decide +kernel), ?_⟩ | refine ⟨_, _, _, _, false, rfl, ClsV.ty _, (by walk_at "ty"), kit_ty (by decide +kernel), ?_⟩)
local macro_rules | `(tactic| walk_at "rd") => `(tactic| repeat walk_at "r1")
local macro_rules | `(tactic| walk_at "yes") => `(tactic| (change (if true = true then _ else _); rw [if_pos rfl]))
local macro_rules | `(tactic| walk_at "no") => `(tactic| (change (if false = true then _ else _); rw [if_neg Bool.false_ne_true]))
local macro_rules | `(tactic| walk_at "nw") => `(tactic| refine And.intro (a := _ ≤ sizeLine) (sz_le (Nat.le_of_ble_eq_true rfl)) ?_)

section
variable {P : Program} {w : World} {K : PySem.W.Frag} {mg : Str → Option Value} {base : Heap}
variable {C_VaultError C_TooMany C_NumberError C_BadPrime C_NoInverse C_NoNumber C_BadTable C_BadCells C_TextError C_ShapeError C_PlanError C_CourseError C_KnowError C_PaperError C_BadStep C_BadBlind C_BadMove C_NotShut C_NotOpen C_NotTheft C_NotPrice fV fI_BadMove fI_BadCells : Addr}
variable (T : Txt P K mg C_VaultError C_TooMany C_NumberError C_BadPrime C_NoInverse C_NoNumber C_BadTable C_BadCells C_TextError C_ShapeError C_PlanError C_CourseError C_KnowError C_PaperError C_BadStep C_BadBlind C_BadMove C_NotShut C_NotOpen C_NotTheft C_NotPrice fV fI_BadMove fI_BadCells)
include T
def flatV : V → Bool
  | .int _ | .bl _ | .str _ | .non => true
  | _ => false
/-- the same data, not deeper than n -/
def SameD (H : Hp) : Nat → V → V → Prop
  | 0, _, _ => False
  | n + 1, x, y => (x = y ∧ flatV x = true) ∨ ∃ (a b : Addr) (xs ys : List V), x = .ref a ∧ y = .ref b ∧ (H a = some (.tup xs) ∧ H b = some (.tup ys) ∨ H a = some (.lst xs) ∧ H b = some (.lst ys)) ∧ xs.length = ys.length ∧ xs.length ≤ 100000 ∧ ∀ (i : Nat) (x y : V), xs[i]? = some x → ys[i]? = some y → SameD H n x y
def spSame : Nat → Sp
  | 0 => fun _ _ _ _ => False
  | n + 1 => fun vs H Q _ => ∃ x y : V, vs = [x, y] ∧ SameD H (n + 1) x y ∧ Q (.bl true) H
omit T in
theorem spSame_of {H : Hp} {n : Nat} {x y : V} {Q : VK} {E : XK} (h : SameD H n x y) (q : Q (.bl true) H) : spSame n [x, y] H Q E := by
  cases n with
  | zero => exact h.elim
  | succ m => exact ⟨x, y, rfl, h, q⟩
theorem ok_same {f : Addr} {fd : FuncData} (F : Fun K "_law_same" "_law_same" s_same f fd) (D_same : Def K mg "_law_same" s_same p_same f fd) : ∀ n, FnOk P w K mg base CX0 n f fd p_same (spSame n)
  | 0 => ⟨fun _ _ _ _ h => h.elim, fun _ _ _ _ _ _ _ _ _ _ _ _ _ h => h.elim⟩
  | n + 1 => by
    have G_same := ok_same F D_same n
    refine F.ok sc_same (fun vs H Q E h => ?_) (fun cdv A outer s H vs Q E hr h => ?_)
    · obtain ⟨a, b, rfl, _⟩ := h
      rfl
    · obtain ⟨x, y, rfl, hS, q⟩ := h
      refine ⟨_, (pss_cons (ps_if (PW.pt (pw_or (pt_cmpR op_isN (pv 0) pe_non (nomark _)) (pw_or1 (pt_cmpR op_isN (pv 1) pe_non (nomark _))))) (pss_one (ps_ret (by exact (pe_and (pe_cmpR op_isN (pv 0) pe_non (nomark _)) (pe_one (pe_cmpR op_isN (pv 1) pe_non (nomark _))))))) pss_nil)
      (pss_cons (ps_if (PW.pt (pw_or (pt_val (pe_callB call_isi (by rfl) T.b_isinstance (by first | exact PySem.boot_isinstance | decide +kernel) (pa_cons (pv 0) (pa_cons (pe_bltn (v := .ty "bool") (by rfl) T.b_bool (by first | exact PySem.boot_bool | decide +kernel) rfl) pa_nil)))) (pw_or1 (pt_val (pe_callB call_isi (by rfl) T.b_isinstance (by first | exact PySem.boot_isinstance | decide +kernel) (pa_cons (pv 1) (pa_cons (pe_bltn (v := .ty "bool") (by rfl) T.b_bool (by first | exact PySem.boot_bool | decide +kernel) rfl) pa_nil))))))) (pss_one (ps_ret (by exact (pe_and (pe_callB call_isi (by rfl) T.b_isinstance (by first | exact PySem.boot_isinstance | decide +kernel) (pa_cons (pv 0) (pa_cons (pe_bltn (v := .ty "bool") (by rfl) T.b_bool (by first | exact PySem.boot_bool | decide +kernel) rfl) pa_nil))) (pe_and (pe_callB call_isi (by rfl) T.b_isinstance (by first | exact PySem.boot_isinstance | decide +kernel) (pa_cons (pv 1) (pa_cons (pe_bltn (v := .ty "bool") (by rfl) T.b_bool (by first | exact PySem.boot_bool | decide +kernel) rfl) pa_nil))) (pe_one (pe_cmpR op_eq (pv 0) (pv 1) (nomark _)))))))) pss_nil)
      (pss_cons (ps_if (PW.pt (pw_or (pt_val (pe_callB call_isi (by rfl) T.b_isinstance (by first | exact PySem.boot_isinstance | decide +kernel) (pa_cons (pv 0) (pa_cons (pe_bltn (v := .ty "int") (by rfl) T.b_int (by first | exact PySem.boot_int | decide +kernel) rfl) pa_nil)))) (pw_or1 (pt_val (pe_callB call_isi (by rfl) T.b_isinstance (by first | exact PySem.boot_isinstance | decide +kernel) (pa_cons (pv 1) (pa_cons (pe_bltn (v := .ty "int") (by rfl) T.b_int (by first | exact PySem.boot_int | decide +kernel) rfl) pa_nil))))))) (pss_one (ps_ret (by exact (pe_and (pe_callB call_isi (by rfl) T.b_isinstance (by first | exact PySem.boot_isinstance | decide +kernel) (pa_cons (pv 0) (pa_cons (pe_bltn (v := .ty "int") (by rfl) T.b_int (by first | exact PySem.boot_int | decide +kernel) rfl) pa_nil))) (pe_and (pe_callB call_isi (by rfl) T.b_isinstance (by first | exact PySem.boot_isinstance | decide +kernel) (pa_cons (pv 1) (pa_cons (pe_bltn (v := .ty "int") (by rfl) T.b_int (by first | exact PySem.boot_int | decide +kernel) rfl) pa_nil))) (pe_one (pe_cmpR op_eq (pv 0) (pv 1) (nomark _)))))))) pss_nil)
      (pss_cons (ps_if (PW.pt (pw_or (pt_val (pe_callB call_isi (by rfl) T.b_isinstance (by first | exact PySem.boot_isinstance | decide +kernel) (pa_cons (pv 0) (pa_cons (pe_bltn (v := .ty "str") (by rfl) T.b_str (by first | exact PySem.boot_str | decide +kernel) rfl) pa_nil)))) (pw_or1 (pt_val (pe_callB call_isi (by rfl) T.b_isinstance (by first | exact PySem.boot_isinstance | decide +kernel) (pa_cons (pv 1) (pa_cons (pe_bltn (v := .ty "str") (by rfl) T.b_str (by first | exact PySem.boot_str | decide +kernel) rfl) pa_nil))))))) (pss_one (ps_ret (by exact (pe_and (pe_callB call_isi (by rfl) T.b_isinstance (by first | exact PySem.boot_isinstance | decide +kernel) (pa_cons (pv 0) (pa_cons (pe_bltn (v := .ty "str") (by rfl) T.b_str (by first | exact PySem.boot_str | decide +kernel) rfl) pa_nil))) (pe_and (pe_callB call_isi (by rfl) T.b_isinstance (by first | exact PySem.boot_isinstance | decide +kernel) (pa_cons (pv 1) (pa_cons (pe_bltn (v := .ty "str") (by rfl) T.b_str (by first | exact PySem.boot_str | decide +kernel) rfl) pa_nil))) (pe_one (pe_cmpR op_eq (pv 0) (pv 1) (nomark _)))))))) pss_nil)
      (pss_cons (ps_if (PW.pt (pw_or (pt_val (pe_callB call_isi (by rfl) T.b_isinstance (by first | exact PySem.boot_isinstance | decide +kernel) (pa_cons (pv 0) (pa_cons (pe_bltn (v := .ty "dict") (by rfl) T.b_dict (by first | exact PySem.boot_dict | decide +kernel) rfl) pa_nil)))) (pw_or1 (pt_val (pe_callB call_isi (by rfl) T.b_isinstance (by first | exact PySem.boot_isinstance | decide +kernel) (pa_cons (pv 1) (pa_cons (pe_bltn (v := .ty "dict") (by rfl) T.b_dict (by first | exact PySem.boot_dict | decide +kernel) rfl) pa_nil))))))) (pss_cons (ps_if (PW.pt (pw_or (pt_not (pt_val (pe_callB call_isi (by rfl) T.b_isinstance (by first | exact PySem.boot_isinstance | decide +kernel) (pa_cons (pv 0) (pa_cons (pe_bltn (v := .ty "dict") (by rfl) T.b_dict (by first | exact PySem.boot_dict | decide +kernel) rfl) pa_nil))))) (pw_or (pt_not (pt_val (pe_callB call_isi (by rfl) T.b_isinstance (by first | exact PySem.boot_isinstance | decide +kernel) (pa_cons (pv 1) (pa_cons (pe_bltn (v := .ty "dict") (by rfl) T.b_dict (by first | exact PySem.boot_dict | decide +kernel) rfl) pa_nil))))) (pw_or1 (pt_cmpR op_ne (pe_callB call_len_seq (by rfl) T.b_len (by first | exact PySem.boot_len | decide +kernel) (pa_cons (pv 0) pa_nil)) (pe_callB call_len_seq (by rfl) T.b_len (by first | exact PySem.boot_len | decide +kernel) (pa_cons (pv 1) pa_nil)) (nomark _)))))) (pss_one (ps_ret (by exact pe_bl))) pss_nil)
          (pss_cons (ps_for PassesOwn.never rfl (pi_list (pv 0)) (pg_name (i := 2) sc_same.nd rfl (Or.inl rfl)) (pss_one (ps_if (PW.pt (pw_or (pt_cmp (pc_dnotin (hu_of hr) (pv 2) (pv 1))) (pw_or1 (pt_not (pt_val (pe_call G_same hr rfl D_same.g D_same.fn.kp D_same.b .nil pass0 (pa_cons (pe_ix ix_list (pv 0) (pv 2) (fun _ _ => rfl)) (pa_cons (pe_ix ix_list (pv 1) (pv 2) (fun _ _ => rfl)) pa_nil)))))))) (pss_one (ps_ret (by exact pe_bl))) pss_nil)))
          (pss_one (ps_ret (by exact pe_bl))))) pss_nil)
      (pss_cons (ps_set (i := 3) sc_same.nd rfl (Or.inl rfl) (by exact (pe_and (pe_callB call_isi (by rfl) T.b_isinstance (by first | exact PySem.boot_isinstance | decide +kernel) (pa_cons (pv 0) (pa_cons (pe_bltn (v := .ty "list") (by rfl) T.b_list (by first | exact PySem.boot_list | decide +kernel) rfl) pa_nil))) (pe_one (pe_callB call_isi (by rfl) T.b_isinstance (by first | exact PySem.boot_isinstance | decide +kernel) (pa_cons (pv 1) (pa_cons (pe_bltn (v := .ty "list") (by rfl) T.b_list (by first | exact PySem.boot_list | decide +kernel) rfl) pa_nil)))))))
      (pss_cons (ps_set (i := 4) sc_same.nd rfl (Or.inl rfl) (by exact (pe_and (pe_callB call_isi (by rfl) T.b_isinstance (by first | exact PySem.boot_isinstance | decide +kernel) (pa_cons (pv 0) (pa_cons (pe_bltn (v := .ty "tuple") (by rfl) T.b_tuple (by first | exact PySem.boot_tuple | decide +kernel) rfl) pa_nil))) (pe_one (pe_callB call_isi (by rfl) T.b_isinstance (by first | exact PySem.boot_isinstance | decide +kernel) (pa_cons (pv 1) (pa_cons (pe_bltn (v := .ty "tuple") (by rfl) T.b_tuple (by first | exact PySem.boot_tuple | decide +kernel) rfl) pa_nil)))))))
      (pss_cons (ps_if (PW.pt (pw_or (PW.pt (pw_and (pt_not (pt_val (pv 3))) (pw_and1 (pt_not (pt_val (pv 4)))))) (pw_or1 (pt_cmpR op_ne (pe_callB call_len_seq (by rfl) T.b_len (by first | exact PySem.boot_len | decide +kernel) (pa_cons (pv 0) pa_nil)) (pe_callB call_len_seq (by rfl) T.b_len (by first | exact PySem.boot_len | decide +kernel) (pa_cons (pv 1) pa_nil)) (nomark _))))) (pss_one (ps_ret (by exact pe_bl))) pss_nil)
      (pss_cons (ps_for PassesOwn.never rfl (pi_range1 (by rfl) T.b_range (pa_cons (pe_callB call_len_seq (by rfl) T.b_len (by first | exact PySem.boot_len | decide +kernel) (pa_cons (pv 0) pa_nil)) pa_nil)) (pg_name (i := 5) sc_same.nd rfl (Or.inl rfl)) (pss_one (ps_if (pt_not (pt_val (pe_call G_same hr rfl D_same.g D_same.fn.kp D_same.b .nil pass0 (pa_cons (pe_ix ix_seq (pv 0) (pv 5) (fun _ _ => rfl)) (pa_cons (pe_ix ix_seq (pv 1) (pv 5) (fun _ _ => rfl)) pa_nil))))) (pss_one (ps_ret (by exact pe_bl))) pss_nil)))
      (pss_one (ps_ret (by exact pe_bl)))))))))))), ?_⟩
      rcases hS with ⟨rfl, hf⟩ | ⟨a, b, xs, ys, rfl, rfl, hab, hl, hz, hd⟩
      · cases x <;> try (exact absurd hf Bool.false_ne_true)
        all_goals walk_at "rd"
        all_goals first | exact q | (rw [decide_eq_true rfl]; exact q)
      · rcases hab with ⟨ha, hb⟩ | ⟨ha, hb⟩
        · walk_at "rd"
          refine ⟨a, xs, rfl, .inr (SqT.of ha), ?_⟩
          walk_at "rd"
          refine ⟨b, ys, rfl, .inr (SqT.of hb), ?_⟩
          walk_at "rd"
          refine ite2 (fun hc => absurd (congrArg (fun k : Nat => V.int k) hl) (of_decide_eq_false (bnot_t hc))) (fun hc => ?_)
          walk_at "rd"
          refine ⟨a, xs, rfl, .inr (SqT.of ha), ?_⟩
          walk_at "rd"
          refine ⟨by omega, by omega, ?_⟩
          have hsz : ((xs.length : Nat) : Int).toNat = xs.length := by omega
          rw [hsz]
          refine for_range (fun i σ H' => ∃ v : Option V, σ = [some (.ref a), some (.ref b), none, some (.bl false), some (.bl true), v] ∧ H' = H) ⟨none, rfl, rfl⟩ ?_ ?_
          · rintro i σ H' hi ⟨v, rfl, rfl⟩
            have hj : i < ys.length := by omega
            have e0 : (0 : Int) + (i : Int) = i := Int.zero_add _
            walk_at "rd"
            refine .inr (.inl ⟨a, xs, 0 + (i : Int), xs[i], rfl, rfl, SqT.of ha, by rw [e0]; exact atI_nat (List.getElem?_eq_getElem hi), ?_⟩)
            walk_at "rd"
            refine .inr (.inl ⟨b, ys, 0 + (i : Int), ys[i], rfl, rfl, SqT.of hb, by rw [e0]; exact atI_nat (List.getElem?_eq_getElem hj), ?_⟩)
            refine spSame_of (hd i _ _ (List.getElem?_eq_getElem hi) (List.getElem?_eq_getElem hj)) ?_
            walk_at "rd"
            rfl
          · rintro σ H' ⟨v, rfl, rfl⟩
            walk_at "rd"
            exact q
        · walk_at "rd"
          refine ⟨a, xs, rfl, .inl (SqL.of ha), ?_⟩
          walk_at "rd"
          refine ⟨b, ys, rfl, .inl (SqL.of hb), ?_⟩
          walk_at "rd"
          refine ite2 (fun hc => absurd (congrArg (fun k : Nat => V.int k) hl) (of_decide_eq_false (bnot_t hc))) (fun hc => ?_)
          walk_at "rd"
          refine ⟨a, xs, rfl, .inl (SqL.of ha), ?_⟩
          walk_at "rd"
          refine ⟨by omega, by omega, ?_⟩
          have hsz : ((xs.length : Nat) : Int).toNat = xs.length := by omega
          rw [hsz]
          refine for_range (fun i σ H' => ∃ v : Option V, σ = [some (.ref a), some (.ref b), none, some (.bl true), some (.bl false), v] ∧ H' = H) ⟨none, rfl, rfl⟩ ?_ ?_
          · rintro i σ H' hi ⟨v, rfl, rfl⟩
            have hj : i < ys.length := by omega
            have e0 : (0 : Int) + (i : Int) = i := Int.zero_add _
            walk_at "rd"
            refine (.inl ⟨a, xs, 0 + (i : Int), xs[i], rfl, rfl, SqL.of ha, by rw [e0]; exact atI_nat (List.getElem?_eq_getElem hi), ?_⟩)
            walk_at "rd"
            refine (.inl ⟨b, ys, 0 + (i : Int), ys[i], rfl, rfl, SqL.of hb, by rw [e0]; exact atI_nat (List.getElem?_eq_getElem hj), ?_⟩)
            refine spSame_of (hd i _ _ (List.getElem?_eq_getElem hi) (List.getElem?_eq_getElem hj)) ?_
            walk_at "rd"
            rfl
          · rintro σ H' ⟨v, rfl, rfl⟩
            walk_at "rd"
            exact q
/-- what is no count of cells -/
inductive BadV (st : Addr) (H : Hp) : V → Prop
  | int (i : Int) (h : i < 1) : BadV st H (.int i)
  | bl (b : Bool) : BadV st H (.bl b)
  | non : BadV st H .non
  | str (s : Str) : BadV st H (.str s)
  | tup (a : Addr) (n : a ≠ st) (h : H a = some (.tup [.int 1])) : BadV st H (.ref a)
  | lst (a : Addr) (n : a ≠ st) (h : H a = some (.lst [.int 1])) : BadV st H (.ref a)
omit T in
theorem BadV.keep {st : Addr} {H H' : Hp} {v : V} (b : BadV st H v) (h : ButS st H H') : BadV st H' v := by
  cases b with
  | int i q => exact .int i q
  | bl b => exact .bl b
  | non => exact .non
  | str s => exact .str s
  | tup a n e => exact .tup a n (h.1 _ _ n e)
  | lst a n e => exact .lst a n (h.1 _ _ n e)
omit T in
theorem BadV.cells {st : Addr} {H : Hp} {v : V} (b : BadV st H v) : (∃ i, v = .int i ∧ i < 1) ∨ (∃ n, NotInt H v n) := by
  cases b with
  | int i q => exact .inl ⟨i, rfl, q⟩
  | bl b => exact .inr ⟨_, .bl b⟩
  | non => exact .inr ⟨_, .non⟩
  | str s => exact .inr ⟨_, .str s⟩
  | tup a n e => exact .inr ⟨_, .tup a _ e⟩
  | lst a n e => exact .inr ⟨_, .lst a _ e⟩
omit T in
theorem SameD.flat {H : Hp} {n : Nat} {x : V} (h : flatV x = true) : SameD H (n + 1) x x := .inl ⟨rfl, h⟩
omit T in
theorem SameD.all {H : Hp} {n : Nat} {xs ys : List V} (h : Paired (SameD H n) xs ys) : ∀ (i : Nat) (x y : V), xs[i]? = some x → ys[i]? = some y → SameD H n x y := by
  induction h with
  | nil => intro i x y e; cases e
  | cons a k ih =>
    intro i x y e1 e2
    cases i with
    | zero => cases e1; cases e2; exact a
    | succ i => exact ih i x y e1 e2
omit T in
theorem SameD.tup {H : Hp} {n : Nat} {a b : Addr} {xs ys : List V} (ha : H a = some (.tup xs)) (hb : H b = some (.tup ys)) (hz : xs.length ≤ 100000) (h : Paired (SameD H n) xs ys) : SameD H (n + 1) (.ref a) (.ref b) :=
  .inr ⟨a, b, xs, ys, rfl, rfl, .inl ⟨ha, hb⟩, h.length, hz, SameD.all h⟩
omit T in
theorem SameD.lst {H : Hp} {n : Nat} {a b : Addr} {xs ys : List V} (ha : H a = some (.lst xs)) (hb : H b = some (.lst ys)) (hz : xs.length ≤ 100000) (h : Paired (SameD H n) xs ys) : SameD H (n + 1) (.ref a) (.ref b) :=
  .inr ⟨a, b, xs, ys, rfl, rfl, .inr ⟨ha, hb⟩, h.length, hz, SameD.all h⟩
omit T in
theorem BadV.same {st : Addr} {H : Hp} {v : V} (b : BadV st H v) (n : Nat) : SameD H (n + 2) v v := by
  cases b with
  | int i q => exact .flat rfl
  | bl b => exact .flat rfl
  | non => exact .flat rfl
  | str s => exact .flat rfl
  | tup a m e => exact .tup e e (by decide) (.cons (.flat rfl) .nil)
  | lst a m e => exact .lst e e (by decide) (.cons (.flat rfl) .nil)
def spBad : Sp := fun vs H Q _ => ∃ st : Addr, vs = [.ref st] ∧ Store H st ∧ ∀ v H', BadV st H' v → Store H' st → ButS st H H' → Q v H'
theorem ok_badcells {f : Addr} {fd : FuncData} (F : Fun K "_law_badcells" "_law_badcells" s_badcells f fd) {f_pick : Addr} {fd_pick : FuncData} (D_pick : Def K mg "_law_pick" s_pick p_pick f_pick fd_pick) (G_pick : FnOk P w K mg base CX0 3 f_pick fd_pick p_pick spPick) : FnOk P w K mg base CX0 4 f fd p_badcells spBad := by
  refine F.ok sc_badcells (fun vs H Q E h => ?_) (fun cdv A outer s H vs Q E hr h => ?_)
  · obtain ⟨a, rfl, _⟩ := h
    rfl
  · obtain ⟨st, rfl, S, q⟩ := h
    refine ⟨_, (pss_one (ps_ret (by exact (pe_call G_pick (hr.mono (by first | decide | omega)) rfl D_pick.g D_pick.fn.kp D_pick.b .nil pass0 (pa_cons (pv 0) (pa_cons (pe_lst (pa_cons pe_int (pa_cons (pe_op op_sub pe_int pe_int) (pa_cons pe_bl (pa_cons pe_bl (pa_cons pe_non (pa_cons pe_str (pa_cons (pe_tup (pa_cons pe_int pa_nil)) (pa_cons (pe_lst (pa_cons pe_int pa_nil)) (pa_cons pe_str (pa_cons (pe_op op_sub pe_int (pe_op op_pow pe_int pe_int)) pa_nil))))))))))) pa_nil)))))), ?_⟩
    walk_at "rd"
    walk_at "nw"
    intro p1 h1
    walk_at "rd"
    walk_at "nw"
    intro p2 h2
    walk_at "rd"
    walk_at "nw"
    intro l hl
    walk_at "rd"
    have s1 : Same H (upd H p1 (.tup [.int 1])) := same_new h1
    obtain ⟨u, hu⟩ := S.some
    refine ⟨st, l, _, rfl, upd_same, (ne_of_none (same_new h2 _ _ (s1 _ _ hu)) hl).symm, Nat.le_of_ble_eq_true rfl, Nat.le_of_ble_eq_true rfl, S.keep ((s1.trans (same_new h2)).trans (same_new hl)), fun v H' hv S' b => ?_⟩
    have c : ButS st H H' := (ButS.of ((s1.trans (same_new h2)).trans (same_new hl))).trans b
    refine q v H' ?_ S' c
    have n1 : p1 ≠ st := (ne_of_none hu h1).symm
    have n2 : p2 ≠ st := (ne_of_none (s1 _ _ hu) h2).symm
    have e1 : H' p1 = some (.tup [.int 1]) := b.1 _ _ n1 (same_new hl _ _ (same_new h2 _ _ upd_same))
    have e2 : H' p2 = some (.lst [.int 1]) := b.1 _ _ n2 (same_new hl _ _ upd_same)
    simp only [List.mem_cons, List.mem_nil_iff, or_false] at hv
    rcases hv with rfl | rfl | rfl | rfl | rfl | rfl | rfl | rfl | rfl | rfl
    · exact .int _ (by decide)
    · exact .int _ (by decide)
    · exact .bl _
    · exact .bl _
    · exact .non
    · exact .str _
    · exact .tup _ n1 e1
    · exact .lst _ n2 e2
    · exact .str _
    · exact .int _ (by decide)
end
end K12

set_option Elab.async false
set_option linter.all false
set_option maxRecDepth 100000
set_option maxHeartbeats 4000000
set_option pp.deepTerms false
set_option pp.deepTerms.threshold 12
namespace K12
open PySem PySem.Spec PyProof.Rows L2
local macro_rules | `(tactic| walk_at "ty") => `(tactic| first | exact .base (.int _) | exact .base (.bl _) | exact .base (.str _) | exact .base .non | assumption | exact .base (.tup (by assumption)) | exact .base (.lst (by assumption)))
local macro_rules | `(tactic| walk_at "cm") => `(tactic| first | exact cm_r (by decide) (by decide) | exact cm_l (by decide) (by decide) | exact cm_fmod (by decide) (by decide) | exact cm_r (by omega) (by omega) | exact cm_l (by omega) (by omega))
local macro_rules | `(tactic| walk_at "dv") => `(tactic| first | exact ⟨by decide, by decide⟩ | exact ⟨by omega, by omega⟩)
local macro_rules | `(tactic| walk_at "r1") => `(tactic| first
  | refine ⟨_, rfl, ?_⟩ | refine ⟨_, _, rfl, rfl, ?_⟩ | refine Or.inl ⟨_, rfl, ?_⟩ | refine Or.inr ⟨_, rfl, ?_⟩
  | refine And.intro (a := CMul _ _) (by walk_at "cm") ?_ | refine And.intro (a := CDivN _ _) (by walk_at "dv") ?_ | refine And.intro (a := _ ≠ (0 : Int)) (by first | decide | omega) ?_ | refine And.intro (a := scal _ _ = true) rfl ?_ | refine ⟨_, _, _, _, rfl, rfl, SqL.of (by first | exact upd_same | assumption), rfl, ?_⟩ | refine ⟨_, _, _, _, rfl, rfl, (by first | exact upd_same | assumption), rfl, ?_⟩ | refine ⟨_, _, rfl, ?_⟩ | refine And.intro (a := (_ : V) = V.non) rfl ?_ | refine And.intro (a := CPow _ _) ⟨by decide, by decide, by decide⟩ ?_ | refine And.intro (a := (_ : List V) = []) rfl ?_ | refine ⟨_, _, rfl, SqT.of (by first | exact upd_same | assumption), rfl, ?_⟩
  | refine ⟨_, _, _, _, rfl, rfl, SqT.of (by first | exact upd_same | assumption), rfl, ?_⟩
  | refine ⟨_, _, _, _, true, rfl, ClsV.ty _, (by walk_at "ty"), kit_ty (by decide +kernel), ?_⟩ | refine ⟨_, _, _, _, false, rfl, ClsV.ty _, (by walk_at "ty"), kit_ty (by decide +kernel), ?_⟩)
local macro_rules | `(tactic| walk_at "rd") => `(tactic| repeat walk_at "r1")
local macro_rules | `(tactic| walk_at "yes") => `(tactic| (change (if true = true then _ else _); rw [if_pos rfl]))
local macro_rules | `(tactic| walk_at "no") => `(tactic| (change (if false = true then _ else _); rw [if_neg Bool.false_ne_true]))
local macro_rules | `(tactic| walk_at "nw") => `(tactic| refine And.intro (a := _ ≤ sizeLine) (sz_le (Nat.le_of_ble_eq_true rfl)) ?_)

section
variable {P : Program} {w : World} {K : PySem.W.Frag} {mg : Str → Option Value} {base : Heap}
variable {C_VaultError C_TooMany C_NumberError C_BadPrime C_NoInverse C_NoNumber C_BadTable C_BadCells C_TextError C_ShapeError C_PlanError C_CourseError C_KnowError C_PaperError C_BadStep C_BadBlind C_BadMove C_NotShut C_NotOpen C_NotTheft C_NotPrice fV fI_BadMove fI_BadCells : Addr}
variable (T : Txt P K mg C_VaultError C_TooMany C_NumberError C_BadPrime C_NoInverse C_NoNumber C_BadTable C_BadCells C_TextError C_ShapeError C_PlanError C_CourseError C_KnowError C_PaperError C_BadStep C_BadBlind C_BadMove C_NotShut C_NotOpen C_NotTheft C_NotPrice fV fI_BadMove fI_BadCells)
include T
inductive Mv
  | up (a b : Int)
  | read (a : Int)
  | bad
/-- the value v is written as the move m; bad: as no move of any cells -/
inductive IsM (H : Hp) : V → Mv → Prop
  | up (t : Addr) (a b : Int) (h : H t = some (.tup [.str "up", .int a, .int b])) : IsM H (.ref t) (.up a b)
  | read (t : Addr) (a : Int) (h : H t = some (.tup [.str "read", .int a])) : IsM H (.ref t) (.read a)
  | flat (v : V) (h : flatV v = true) : IsM H v .bad
  | lst (a : Addr) (xs : List V) (h : H a = some (.lst xs)) : IsM H (.ref a) .bad
  | nil (t : Addr) (h : H t = some (.tup [])) : IsM H (.ref t) .bad
  | tup (t : Addr) (w : Str) (rest : List V) (h : H t = some (.tup (.str w :: rest))) (fl : ∀ x ∈ rest, flatV x = true) (h1 : w = "up" → ∀ a b, rest ≠ [.int a, .int b]) (h2 : w = "read" → ∀ a, rest ≠ [.int a]) : IsM H (.ref t) .bad
omit T in
theorem flat_int {H : Hp} {v : V} (h : flatV v = true) : (∃ i, v = .int i) ∨ ∃ n, NotInt H v n := by
  cases v with
  | int i => exact .inl ⟨i, rfl⟩
  | bl b => exact .inr ⟨_, .bl b⟩
  | non => exact .inr ⟨_, .non⟩
  | str s => exact .inr ⟨_, .str s⟩
  | _ => cases h
/-- the move's numbers are in range -/
def okM (c : Int) : Mv → Prop
  | .up a b => (0 ≤ a ∧ a ≤ c) ∧ 1 ≤ b ∧ b ≤ c
  | .read a => 1 ≤ a ∧ a ≤ c
  | .bad => False
def spIsM : Sp := fun vs H Q _ => ∃ (v : V) (c : Int), vs = [v, .int c] ∧ ∃ m, IsM H v m ∧ ∀ b : Bool, (b = true ↔ okM c m) → Q (.bl b) H
theorem ok_is_move {f : Addr} {fd : FuncData} (F : Fun K "_is_move" "_is_move" s_is_move f fd) {f_lies_within : Addr} {fd_lies_within : FuncData} (D_lies_within : Def K mg "lies_within" s_lies_within p_lies_within f_lies_within fd_lies_within) (G_lies_within : FnOk P w K mg base CX0 2 f_lies_within fd_lies_within p_lies_within spWithin) : FnOk P w K mg base CX0 3 f fd p_is_move spIsM := by
  refine F.ok sc_is_move (fun vs H Q E h => ?_) (fun cdv A outer s H vs Q E hr h => ?_)
  · obtain ⟨v, c, rfl, _⟩ := h
    rfl
  · obtain ⟨v, c, rfl, m, hm, q⟩ := h
    refine ⟨_, (pss_cons (ps_if (pt_not (pt_val (pe_callB call_isi (by rfl) T.b_isinstance (by first | exact PySem.boot_isinstance | decide +kernel) (pa_cons (pv 0) (pa_cons (pe_bltn (v := .ty "tuple") (by rfl) T.b_tuple (by first | exact PySem.boot_tuple | decide +kernel) rfl) pa_nil))))) (pss_one (ps_ret (by exact pe_bl))) pss_nil)
      (pss_cons (ps_if (PW.pt (pw_and (pt_cmpR op_eq (pe_callB call_len_seq (by rfl) T.b_len (by first | exact PySem.boot_len | decide +kernel) (pa_cons (pv 0) pa_nil)) pe_int (nomark _)) (pw_and1 (pt_cmpR op_eq (pe_ix ix_tup (pv 0) pe_int (fun _ _ => rfl)) pe_str (nomark _))))) (pss_one (ps_ret (by exact (pe_and (pe_call G_lies_within (hr.mono (by first | decide | omega)) rfl D_lies_within.g D_lies_within.fn.kp D_lies_within.b .nil pass0 (pa_cons (pe_ix ix_tup (pv 0) pe_int (fun _ _ => rfl)) (pa_cons pe_int (pa_cons (pv 1) pa_nil)))) (pe_one (pe_call G_lies_within (hr.mono (by first | decide | omega)) rfl D_lies_within.g D_lies_within.fn.kp D_lies_within.b .nil pass0 (pa_cons (pe_ix ix_tup (pv 0) pe_int (fun _ _ => rfl)) (pa_cons pe_int (pa_cons (pv 1) pa_nil))))))))) pss_nil)
      (pss_one (ps_ret (by exact (pe_and (pe_cmpR op_eq (pe_callB call_len_seq (by rfl) T.b_len (by first | exact PySem.boot_len | decide +kernel) (pa_cons (pv 0) pa_nil)) pe_int (nomark _)) (pe_and (pe_cmpR op_eq (pe_ix ix_tup (pv 0) pe_int (fun _ _ => rfl)) pe_str (nomark _)) (pe_one (pe_call G_lies_within (hr.mono (by first | decide | omega)) rfl D_lies_within.g D_lies_within.fn.kp D_lies_within.b .nil pass0 (pa_cons (pe_ix ix_tup (pv 0) pe_int (fun _ _ => rfl)) (pa_cons pe_int (pa_cons (pv 1) pa_nil)))))))))))), ?_⟩
    have no : Q (.bl false) H → True := fun _ => trivial
    cases hm with
    | up t a b h =>
      walk_at "rd"
      refine ⟨t, _, rfl, .inr (SqT.of h), ?_⟩
      walk_at "rd"
      refine ⟨_, _, _, rfl, .inl ⟨a, rfl, fun c1 k1 => ?_⟩⟩
      cases c1 with
      | false =>
        walk_at "rd"
        exact q false ⟨fun z => (nomatch z), fun z => absurd (k1.mpr z.1) Bool.false_ne_true⟩
      | true =>
        walk_at "rd"
        refine ⟨_, _, _, rfl, .inl ⟨b, rfl, fun c2 k2 => ?_⟩⟩
        exact q c2 ⟨fun z => ⟨k1.mp rfl, k2.mp z⟩, fun z => k2.mpr z.2⟩
    | read t a h =>
      walk_at "rd"
      refine ⟨t, _, rfl, .inr (SqT.of h), ?_⟩
      walk_at "rd"
      refine ⟨t, _, rfl, .inr (SqT.of h), ?_⟩
      walk_at "rd"
      refine ⟨_, _, _, rfl, .inl ⟨a, rfl, fun c2 k2 => ?_⟩⟩
      exact q c2 ⟨fun z => k2.mp z, fun z => k2.mpr z⟩
    | flat v h =>
      cases v <;> first | (exact absurd h Bool.false_ne_true) | (walk_at "rd"; exact q false ⟨fun z => (nomatch z), fun z => z.elim⟩)
    | lst a xs h =>
      walk_at "rd"
      exact q false ⟨fun z => (nomatch z), fun z => z.elim⟩
    | nil t h =>
      walk_at "rd"
      refine ⟨t, _, rfl, .inr (SqT.of h), ?_⟩
      walk_at "rd"
      refine ⟨t, _, rfl, .inr (SqT.of h), ?_⟩
      walk_at "rd"
      exact q false ⟨fun z => (nomatch z), fun z => z.elim⟩
    | tup t w rest h fl h1 h2 =>
      have nob : Q (.bl false) H := q false ⟨fun z => (nomatch z), fun z => z.elim⟩
      walk_at "rd"
      refine ⟨t, _, rfl, .inr (SqT.of h), ?_⟩
      rcases rest with _ | ⟨x, _ | ⟨y, _ | ⟨z, zs⟩⟩⟩
      · walk_at "rd"
        refine ⟨t, _, rfl, .inr (SqT.of h), ?_⟩
        walk_at "rd"
        exact nob
      · walk_at "rd"
        refine ⟨t, _, rfl, .inr (SqT.of h), ?_⟩
        walk_at "rd"
        refine ite2 (fun hc => ?_) (fun hc => nob)
        have hw := V.str.inj (of_decide_eq_true hc)
        walk_at "rd"
        refine ⟨_, _, _, rfl, ?_⟩
        rcases flat_int (H := H) (fl x List.mem_cons_self) with ⟨i, rfl⟩ | ⟨n, hn⟩
        · exact absurd rfl (h2 hw i)
        · exact .inr ⟨n, hn, nob⟩
      · walk_at "rd"
        refine ite2 (fun hc => ?_) (fun hc => ?_)
        · have hw := V.str.inj (of_decide_eq_true hc)
          walk_at "rd"
          refine ⟨_, _, _, rfl, ?_⟩
          rcases flat_int (H := H) (fl x List.mem_cons_self) with ⟨i, rfl⟩ | ⟨n, hn⟩
          · refine .inl ⟨i, rfl, fun c1 k1 => ?_⟩
            cases c1 with
            | false =>
              walk_at "rd"
              exact nob
            | true =>
              walk_at "rd"
              refine ⟨_, _, _, rfl, ?_⟩
              rcases flat_int (H := H) (fl y (List.mem_cons_of_mem _ List.mem_cons_self)) with ⟨j, rfl⟩ | ⟨n, hn⟩
              · exact absurd rfl (h1 hw i j)
              · exact .inr ⟨n, hn, nob⟩
          · refine .inr ⟨n, hn, ?_⟩
            walk_at "rd"
            exact nob
        · walk_at "rd"
          refine ⟨t, _, rfl, .inr (SqT.of h), ?_⟩
          walk_at "rd"
          exact nob
      · walk_at "rd"
        refine ⟨t, _, rfl, .inr (SqT.of h), ?_⟩
        walk_at "rd"
        exact nob
def okT (c : Int) (w : Str) (rest : List V) : Prop := (w = "up" ∧ ∃ a b, rest = [.int a, .int b] ∧ okM c (.up a b)) ∨ (w = "read" ∧ ∃ a, rest = [.int a] ∧ okM c (.read a))
omit T in
theorem IsM.kinds {H : Hp} {v : V} {m : Mv} (h : IsM H v m) : ((flatV v = true ∨ (∃ a xs, v = .ref a ∧ H a = some (.lst xs)) ∨ ∃ a, v = .ref a ∧ H a = some (.tup [])) ∧ m = .bad) ∨
    ∃ t w rest, v = .ref t ∧ H t = some (.tup (.str w :: rest)) ∧ (∀ x ∈ rest, flatV x = true) ∧ ∀ c, okM c m ↔ okT c w rest := by
  cases h with
  | up t a b h =>
    refine .inr ⟨t, _, _, rfl, h, fun x hx => ?_, fun c => ⟨fun z => .inl ⟨rfl, a, b, rfl, z⟩, fun z => ?_⟩⟩
    · simp only [List.mem_cons, List.mem_nil_iff, or_false] at hx
      rcases hx with rfl | rfl <;> rfl
    · rcases z with ⟨_, a', b', e, z⟩ | ⟨e, _⟩
      · injection e with e1 e2
        injection e2 with e2 _
        cases V.int.inj e1
        cases V.int.inj e2
        exact z
      · exact absurd e (by decide)
  | read t a h =>
    refine .inr ⟨t, _, _, rfl, h, fun x hx => ?_, fun c => ⟨fun z => .inr ⟨rfl, a, rfl, z⟩, fun z => ?_⟩⟩
    · simp only [List.mem_cons, List.mem_nil_iff, or_false] at hx
      rw [hx]
      rfl
    · rcases z with ⟨e, _⟩ | ⟨_, a', e, z⟩
      · exact absurd e (by decide)
      · injection e with e1 _
        cases V.int.inj e1
        exact z
  | flat v h => exact .inl ⟨.inl h, rfl⟩
  | lst a xs h => exact .inl ⟨.inr (.inl ⟨a, xs, rfl, h⟩), rfl⟩
  | nil t h => exact .inl ⟨.inr (.inr ⟨t, rfl, h⟩), rfl⟩
  | tup t w rest h fl h1 h2 =>
    refine .inr ⟨t, w, rest, rfl, h, fl, fun c => ⟨fun z => z.elim, fun z => ?_⟩⟩
    rcases z with ⟨e, a, b, e2, _⟩ | ⟨e, a, e2, _⟩
    · exact absurd e2 (h1 e a b)
    · exact absurd e2 (h2 e a)
omit T in
theorem cut1 (x : V) (xs : List V) : cutV (x :: xs) (some 1) none = xs := by
  unfold cutV
  rw [show (some (1 : Int)) = some ((1 : Nat) : Int) from rfl, HT.sIx_nat, HT.sIx_none]
  have e : min 1 (x :: xs).length = 1 := by rw [List.length_cons]; omega
  rw [e]
  show List.take ((xs.length + 1) - 1) xs = xs
  rw [Nat.add_sub_cancel, List.take_length]
omit T in
theorem at0 (x : V) (xs : List V) : atI (x :: xs) 0 = some x := atI_nat (xs := x :: xs) (j := 0) (v := x) rfl
def spShape : Sp := fun vs H Q _ => ∃ (v : V) (c : Int), vs = [v, .int c] ∧ ∃ m, IsM H v m ∧ ∀ b : Bool, (b = true ↔ okM c m) → ∀ H', Same H H' → Q (.bl b) H'
theorem ok_moveshape {f : Addr} {fd : FuncData} (F : Fun K "_law_moveshape" "_law_moveshape" s_moveshape f fd) {f_isint : Addr} {fd_isint : FuncData} (D_isint : Def K mg "_law_isint" s_isint p_isint f_isint fd_isint) (G_isint : FnOk P w K mg base CX0 1 f_isint fd_isint p_isint spWhole) : FnOk P w K mg base CX0 2 f fd p_moveshape spShape := by
  refine F.ok sc_moveshape (fun vs H Q E h => ?_) (fun cdv A outer s H vs Q E hr h => ?_)
  · obtain ⟨v, c, rfl, _⟩ := h
    rfl
  · obtain ⟨v, c, rfl, m, hm, q⟩ := h
    refine ⟨_, (pss_cons (ps_if (PW.pt (pw_or (pt_not (pt_val (pe_callB call_isi (by rfl) T.b_isinstance (by first | exact PySem.boot_isinstance | decide +kernel) (pa_cons (pv 0) (pa_cons (pe_bltn (v := .ty "tuple") (by rfl) T.b_tuple (by first | exact PySem.boot_tuple | decide +kernel) rfl) pa_nil))))) (pw_or (pt_cmpR op_lt (pe_callB call_len_seq (by rfl) T.b_len (by first | exact PySem.boot_len | decide +kernel) (pa_cons (pv 0) pa_nil)) pe_int (nomark _)) (pw_or1 (pt_not (pt_val (pe_callB call_isi (by rfl) T.b_isinstance (by first | exact PySem.boot_isinstance | decide +kernel) (pa_cons (pe_ix ix_tup (pv 0) pe_int (fun _ _ => rfl)) (pa_cons (pe_bltn (v := .ty "str") (by rfl) T.b_str (by first | exact PySem.boot_str | decide +kernel) rfl) pa_nil))))))))) (pss_one (ps_ret (by exact pe_bl))) pss_nil)
      (pss_cons (ps_for PassesOwn.never rfl (pi_tup (pe_slice sl_tup (pv 0) (po_some pe_int) po_none)) (pg_name (i := 2) sc_moveshape.nd rfl (Or.inl rfl)) (pss_one (ps_if (PW.pt (pw_or (pt_not (pt_val (pe_call G_isint (hr.mono (by first | decide | omega)) rfl D_isint.g D_isint.fn.kp D_isint.b .nil pass0 (pa_cons (pv 2) pa_nil)))) (pw_or (pt_cmpR op_lt (pv 2) pe_int (nomark _)) (pw_or1 (pt_cmpR op_gt (pv 2) (pv 1) (nomark _)))))) (pss_one (ps_ret (by exact pe_bl))) pss_nil)))
      (pss_cons (ps_if (pt_cmpR op_eq (pe_ix ix_tup (pv 0) pe_int (fun _ _ => rfl)) pe_str (nomark _)) (pss_one (ps_ret (by exact (pe_and (pe_cmpR op_eq (pe_callB call_len_seq (by rfl) T.b_len (by first | exact PySem.boot_len | decide +kernel) (pa_cons (pv 0) pa_nil)) pe_int (nomark _)) (pe_one (pe_cmpR op_gt (pe_ix ix_tup (pv 0) pe_int (fun _ _ => rfl)) pe_int (nomark _))))))) pss_nil)
      (pss_one (ps_ret (by exact (pe_and (pe_cmpR op_eq (pe_ix ix_tup (pv 0) pe_int (fun _ _ => rfl)) pe_str (nomark _)) (pe_and (pe_cmpR op_eq (pe_callB call_len_seq (by rfl) T.b_len (by first | exact PySem.boot_len | decide +kernel) (pa_cons (pv 0) pa_nil)) pe_int (nomark _)) (pe_one (pe_cmpR op_gt (pe_ix ix_tup (pv 0) pe_int (fun _ _ => rfl)) pe_int (nomark _))))))))))), ?_⟩
    rcases hm.kinds with ⟨hv, rfl⟩ | ⟨t, w, rest, rfl, h, fl, ok⟩
    · have nob : Q (.bl false) H := q false ⟨fun z => (nomatch z), fun z => z.elim⟩ H fun _ _ e => e
      rcases hv with hv | ⟨a, xs, rfl, ha⟩ | ⟨a, rfl, ha⟩
      · cases v <;> first | (exact absurd hv Bool.false_ne_true) | (walk_at "rd"; exact nob)
      · walk_at "rd"
        exact nob
      · walk_at "rd"
        refine ⟨a, _, rfl, .inr (SqT.of ha), ?_⟩
        walk_at "rd"
        exact nob
    · have q2 : ∀ b : Bool, (b = true ↔ okT c w rest) → ∀ H', Same H H' → Q (.bl b) H' := fun b hb => q b (hb.trans (ok c).symm)
      clear q ok hm
      have nob : ¬ okT c w rest → ∀ H', Same H H' → Q (.bl false) H' := fun n => q2 false ⟨fun z => (nomatch z), fun z => absurd z n⟩
      walk_at "rd"
      refine ⟨t, _, rfl, .inr (SqT.of h), ?_⟩
      walk_at "rd"
      refine ite2 (fun hc => ?_) (fun hc => ?_)
      · have hl := of_decide_eq_true hc
        have hr0 : rest = [] := by
          cases rest with
          | nil => rfl
          | cons _ _ => exact absurd hl (by rw [List.length_cons, List.length_cons]; omega)
        walk_at "rd"
        exact nob (by rw [hr0]; rintro (⟨_, _, _, e, _⟩ | ⟨_, _, e, _⟩) <;> cases e) H fun _ _ e => e
      walk_at "rd"
      refine ⟨t, _, 0, .str w, rfl, rfl, SqT.of h, at0 _ _, ?_⟩
      walk_at "rd"
      have hlen : 0 < rest.length := by
        have := of_ndec hc
        rw [List.length_cons] at this
        omega
      refine ⟨t, _, rfl, SqT.of h, ?_, fun p hp => ?_⟩
      · intro z
        have z1 := z.1
        rw [show (some (1 : Int)) = some ((1 : Nat) : Int) from rfl, HT.sIx_nat, List.length_cons] at z1
        omega
      rw [cut1]
      generalize hg : upd H p _ = H1
      have s1 : Same H H1 := by rw [← hg]; exact same_new hp
      have e1 : H1 p = some (.tup rest) := by rw [← hg]; exact upd_same
      clear hg
      have h' := s1 _ _ h
      walk_at "rd"
      refine ⟨⟨_, SqT.of e1⟩, for_tup (K := K) (a := p) (xs := rest) (fun i σ H' => (∃ v : Option V, σ = [some (.ref t), some (.int c), v]) ∧ H' = H1 ∧ ∀ (k : Nat) (x : V), k < i → rest[k]? = some x → ∃ j : Int, x = .int j ∧ 0 ≤ j ∧ j ≤ c) ⟨⟨_, rfl⟩, rfl, fun k x hk => absurd hk (Nat.not_lt_zero _)⟩ (fun i σ H' _ ⟨_, e, _⟩ => by rw [e]; exact SqT.of e1) ?_ ?_⟩
      · rintro i x σ H' hi ⟨⟨v, rfl⟩, rfl, hk⟩
        have outs : (∀ j : Int, x = .int j → ¬ (0 ≤ j ∧ j ≤ c)) → ¬ okT c w rest := by
          intro n z
          rcases z with ⟨_, a, b, rfl, ⟨z1, z2⟩, z3, z4⟩ | ⟨_, a, rfl, z1, z2⟩
          · rcases i with _ | _ | i
            · cases hi; exact n a rfl ⟨z1, z2⟩
            · cases hi; exact n b rfl ⟨by omega, z4⟩
            · cases hi
          · rcases i with _ | i
            · cases hi; exact n a rfl ⟨by omega, z2⟩
            · cases hi
        walk_at "rd"
        rcases flat_int (H := H') (fl x (List.mem_of_getElem? hi)) with ⟨j, rfl⟩ | ⟨n, hn⟩
        · refine .inl ⟨j, rfl, ?_⟩
          walk_at "rd"
          refine ite2 (fun hc => ?_) (fun hc => ?_)
          · have h0 := of_decide_eq_true hc
            walk_at "rd"
            exact nob (outs fun j' e z => by cases V.int.inj e; omega) _ s1
          walk_at "rd"
          refine ite2 (fun hc2 => ?_) (fun hc2 => ?_)
          · have h0 := of_decide_eq_true hc2
            walk_at "rd"
            exact nob (outs fun j' e z => by cases V.int.inj e; omega) _ s1
          · have a1 := of_ndec hc
            have a2 := of_ndec hc2
            refine ⟨⟨_, rfl⟩, rfl, fun k y hk2 hy => ?_⟩
            rcases Nat.lt_succ_iff_lt_or_eq.mp hk2 with z | z
            · exact hk k y z hy
            · rw [z, hi] at hy
              cases hy
              exact ⟨j, rfl, by omega, by omega⟩
        · refine .inr ⟨n, hn, ?_⟩
          walk_at "rd"
          exact nob (outs fun j e z => by subst e; cases hn) _ s1
      · rintro σ H' ⟨⟨v, rfl⟩, rfl, hk⟩
        have all : ∀ (k : Nat) (x : V), rest[k]? = some x → ∃ j : Int, x = .int j ∧ 0 ≤ j ∧ j ≤ c := fun k x hx => hk k x (by have := List.getElem?_eq_some_iff.mp hx; exact this.1) hx
        clear hk
        walk_at "rd"
        refine ⟨t, _, 0, .str w, rfl, rfl, SqT.of h', at0 _ _, ?_⟩
        walk_at "rd"
        refine ite2 (fun hc => ?_) (fun hc => ?_)
        · have hw := V.str.inj (of_decide_eq_true hc)
          walk_at "rd"
          refine ⟨t, _, rfl, .inr (SqT.of h'), ?_⟩
          walk_at "rd"
          refine ite2 (fun hc => ?_) (fun hc => nob ?_ _ s1)
          · have hl := V.int.inj (of_decide_eq_true hc)
            rw [List.length_cons] at hl
            obtain ⟨x, y, rfl⟩ : ∃ x y, rest = [x, y] := by
              rcases rest with _ | ⟨x, _ | ⟨y, _ | ⟨z, zs⟩⟩⟩
              · exact absurd hl (by decide)
              · rw [List.length_cons, List.length_nil] at hl
                omega
              · exact ⟨x, y, rfl⟩
              · rw [List.length_cons, List.length_cons, List.length_cons] at hl
                omega
            obtain ⟨a, rfl, a1, a2⟩ := all 0 x rfl
            obtain ⟨b, rfl, b1, b2⟩ := all 1 y rfl
            walk_at "rd"
            refine q2 _ ⟨fun z => .inl ⟨hw, a, b, rfl, ⟨a1, a2⟩, by have := of_decide_eq_true z; omega, b2⟩, fun z => decide_eq_true ?_⟩ _ s1
            rcases z with ⟨_, a', b', e, _, z3, _⟩ | ⟨e, _⟩
            · injection e with _ e2
              injection e2 with e2 _
              cases V.int.inj e2
              omega
            · rw [hw] at e
              exact absurd e (by decide)
          · rintro (⟨_, a, b, rfl, _⟩ | ⟨e, _⟩)
            · exact hc rfl
            · rw [hw] at e
              exact absurd e (by decide)
        · walk_at "rd"
          have hw := of_decide_eq_false (Bool.eq_false_iff.mpr hc)
          refine ⟨t, _, 0, .str w, rfl, rfl, SqT.of h', at0 _ _, ?_⟩
          walk_at "rd"
          refine ite2 (fun hc2 => ?_) (fun hc2 => nob ?_ _ s1)
          · have hw2 := V.str.inj (of_decide_eq_true hc2)
            walk_at "rd"
            refine ⟨t, _, rfl, .inr (SqT.of h'), ?_⟩
            walk_at "rd"
            refine ite2 (fun hc => ?_) (fun hc => nob ?_ _ s1)
            · have hl := V.int.inj (of_decide_eq_true hc)
              rw [List.length_cons] at hl
              obtain ⟨x, rfl⟩ : ∃ x, rest = [x] := by
                rcases rest with _ | ⟨x, _ | ⟨y, zs⟩⟩
                · exact absurd hl (by decide)
                · exact ⟨x, rfl⟩
                · rw [List.length_cons, List.length_cons] at hl
                  omega
              obtain ⟨a, rfl, a1, a2⟩ := all 0 x rfl
              walk_at "rd"
              refine q2 _ ⟨fun z => .inr ⟨hw2, a, rfl, by have := of_decide_eq_true z; show 1 ≤ a; omega, a2⟩, fun z => decide_eq_true ?_⟩ _ s1
              rcases z with ⟨e, _⟩ | ⟨_, a', e, z1, _⟩
              · rw [hw2] at e
                exact absurd e (by decide)
              · injection e with e1 _
                cases V.int.inj e1
                omega
            · rintro (⟨e, _⟩ | ⟨_, a, rfl, _⟩)
              · rw [hw2] at e
                exact absurd e (by decide)
              · exact hc rfl
          · rintro (⟨e, _⟩ | ⟨e, _⟩)
            · exact hw (congrArg V.str e)
            · exact hc2 (decide_eq_true (congrArg V.str e))
end
end K12

set_option Elab.async false
set_option linter.all false
set_option maxRecDepth 100000
set_option maxHeartbeats 4000000
set_option pp.deepTerms false
set_option pp.deepTerms.threshold 12
namespace K12
open PySem PySem.Spec PyProof.Rows L2
local macro_rules | `(tactic| walk_at "ty") => `(tactic| first | exact .base (.int _) | exact .base (.bl _) | exact .base (.str _) | exact .base .non | assumption | exact .base (.tup (by assumption)) | exact .base (.lst (by assumption)))
local macro_rules | `(tactic| walk_at "cm") => `(tactic| first | exact cm_r (by decide) (by decide) | exact cm_l (by decide) (by decide) | exact cm_fmod (by decide) (by decide) | exact cm_r (by omega) (by omega) | exact cm_l (by omega) (by omega))
local macro_rules | `(tactic| walk_at "dv") => `(tactic| first | exact ⟨by decide, by decide⟩ | exact ⟨by omega, by omega⟩)
local macro_rules | `(tactic| walk_at "r1") => `(tactic| first
  | refine ⟨_, rfl, ?_⟩ | refine ⟨_, _, rfl, rfl, ?_⟩ | refine Or.inl ⟨_, rfl, ?_⟩ | refine Or.inr ⟨_, rfl, ?_⟩
  | refine And.intro (a := CMul _ _) (by walk_at "cm") ?_ | refine And.intro (a := CDivN _ _) (by walk_at "dv") ?_ | refine And.intro (a := _ ≠ (0 : Int)) (by first | decide | omega) ?_ | refine And.intro (a := scal _ _ = true) rfl ?_ | refine ⟨_, _, _, _, rfl, rfl, SqL.of (by first | exact upd_same | assumption), rfl, ?_⟩ | refine ⟨_, _, _, _, rfl, rfl, (by first | exact upd_same | assumption), rfl, ?_⟩ | refine ⟨_, _, rfl, ?_⟩ | refine And.intro (a := (_ : V) = V.non) rfl ?_ | refine And.intro (a := CPow _ _) ⟨by decide, by decide, by decide⟩ ?_ | refine And.intro (a := (_ : List V) = []) rfl ?_ | refine ⟨_, _, rfl, SqT.of (by first | exact upd_same | assumption), rfl, ?_⟩
  | refine ⟨_, _, _, _, rfl, rfl, SqT.of (by first | exact upd_same | assumption), rfl, ?_⟩
  | refine ⟨_, _, _, _, true, rfl, ClsV.ty _, (by walk_at "ty"), kit_ty (by decide +kernel), ?_⟩ | refine ⟨_, _, _, _, false, rfl, ClsV.ty _, (by walk_at "ty"), kit_ty (by decide +kernel), ?_⟩)
local macro_rules | `(tactic| walk_at "rd") => `(tactic| repeat walk_at "r1")
local macro_rules | `(tactic| walk_at "yes") => `(tactic| (change (if true = true then _ else _); rw [if_pos rfl]))
local macro_rules | `(tactic| walk_at "no") => `(tactic| (change (if false = true then _ else _); rw [if_neg Bool.false_ne_true]))
local macro_rules | `(tactic| walk_at "nw") => `(tactic| refine And.intro (a := _ ≤ sizeLine) (sz_le (Nat.le_of_ble_eq_true rfl)) ?_)

section
variable {P : Program} {w : World} {K : PySem.W.Frag} {mg : Str → Option Value} {base : Heap}
variable {C_VaultError C_TooMany C_NumberError C_BadPrime C_NoInverse C_NoNumber C_BadTable C_BadCells C_TextError C_ShapeError C_PlanError C_CourseError C_KnowError C_PaperError C_BadStep C_BadBlind C_BadMove C_NotShut C_NotOpen C_NotTheft C_NotPrice fV fI_BadMove fI_BadCells : Addr}
variable (T : Txt P K mg C_VaultError C_TooMany C_NumberError C_BadPrime C_NoInverse C_NoNumber C_BadTable C_BadCells C_TextError C_ShapeError C_PlanError C_CourseError C_KnowError C_PaperError C_BadStep C_BadBlind C_BadMove C_NotShut C_NotOpen C_NotTheft C_NotPrice fV fI_BadMove fI_BadCells)
include T
/-- what the cells hold, the value that is due, the ups so far -/
structure PlaySt where
  h : Int → Option Int
  due : Int
  ups : Int
def setH (h : Int → Option Int) (b v : Int) : Int → Option Int := fun x => if x = b then some v else h x
/-- one move of n values and c cells; none: it is bad -/
noncomputable def stepM (n c : Int) (s : PlaySt) (m : Mv) : Option PlaySt := open Classical in
  if s.due = 0 ∨ ¬ okM c m then none else match m with
    | .up a b => match s.h a with
      | none => none
      | some i => if i < n then some ⟨setH s.h b (i + 1), s.due, s.ups + 1⟩ else none
    | .read a => if s.h a = some s.due then some ⟨s.h, s.due - 1, s.ups⟩ else none
    | .bad => none
def st0 (n : Int) : PlaySt := ⟨fun x => if x = 0 then some 0 else none, n, 0⟩
/-- the moves one behind another: the state, or the number of the first bad one -/
noncomputable def runM (n c : Int) : List Mv → Nat → PlaySt → PlaySt ⊕ Nat
  | [], _, s => .inl s
  | m :: ms, at_, s => match stepM n c s m with
    | none => .inr at_
    | some s' => runM n c ms (at_ + 1) s'
omit T in
theorem runM_at {n c : Int} : ∀ {ms : List Mv} {i k : Nat} {m : Mv} {s : PlaySt}, ms[i]? = some m → runM n c (ms.drop i) k s = (match stepM n c s m with | none => .inr k | some s' => runM n c (ms.drop (i + 1)) (k + 1) s')
  | m' :: ms, 0, k, m, s, h => by
    cases h
    rfl
  | m' :: ms, i + 1, k, m, s, h => runM_at (ms := ms) (i := i) h
/-- the answer: the ups, or the number of the bad move -/
noncomputable def verdict (n c : Int) (ms : List Mv) : Int ⊕ Nat :=
  match runM n c ms 0 (st0 n) with
  | .inr k => .inr k
  | .inl s => if s.due > 0 then .inr ms.length else .inl s.ups
/-- the law's list of what the cells hold -/
def Held (c : Int) (hs : List Int) (h : Int → Option Int) : Prop := (hs.length : Int) = c + 1 ∧ ∀ a : Nat, (a : Int) ≤ c → ∃ z, hs[a]? = some z ∧ ((h a = none ∧ z = -1) ∨ (h a = some z ∧ 0 ≤ z))
def IsMs (H : Hp) (xs : List V) (ms : List Mv) : Prop := Paired (IsM H) xs ms
omit T in
theorem IsM.keep {H H' : Hp} {v : V} {m : Mv} (h : IsM H v m) (s : Same H H') : IsM H' v m := by
  cases h with
  | up t a b h => exact .up t a b (s _ _ h)
  | read t a h => exact .read t a (s _ _ h)
  | flat v h => exact .flat v h
  | lst a xs h => exact .lst a xs (s _ _ h)
  | nil t h => exact .nil t (s _ _ h)
  | tup t w rest h fl h1 h2 => exact .tup t w rest (s _ _ h) fl h1 h2
omit T in
theorem Held.start (c : Nat) : Held c (0 :: List.replicate c (-1)) (st0 n).h := by
  refine ⟨by rw [List.length_cons, List.length_replicate]; omega, fun a ha => ?_⟩
  cases a with
  | zero => exact ⟨0, rfl, .inr ⟨rfl, Int.le_refl 0⟩⟩
  | succ a =>
    refine ⟨-1, ?_, .inl ⟨?_, rfl⟩⟩
    · rw [List.getElem?_cons_succ, List.getElem?_replicate, if_pos (by omega)]
    · show (if ((a + 1 : Nat) : Int) = 0 then some 0 else none) = none
      rw [if_neg (by omega)]
omit T in
theorem Held.set {c : Int} {hs : List Int} {h : Int → Option Int} (x : Held c hs h) {b : Nat} (hb : (b : Int) ≤ c) {v : Int} (hv : 0 ≤ v) : Held c (hs.set b v) (setH h b v) := by
  refine ⟨by rw [List.length_set]; exact x.1, fun a ha => ?_⟩
  by_cases e : a = b
  · subst e
    refine ⟨v, ?_, .inr ⟨if_pos rfl, hv⟩⟩
    rw [List.getElem?_set, if_pos rfl, if_pos (by have := x.1; omega)]
  · obtain ⟨z, z1, z2⟩ := x.2 a ha
    refine ⟨z, by rw [List.getElem?_set, if_neg (Ne.symm e)]; exact z1, ?_⟩
    have en : setH h b v a = h a := if_neg (by omega)
    rw [en]
    exact z2
omit T in
theorem same_free {H H' : Hp} {l : Addr} (e : H' l = none) (h : Same H H') : H l = none := by
  cases q : H l with
  | none => rfl
  | some o =>
    rw [h _ _ q] at e
    cases e
omit T in
theorem ixNat {n j : Nat} (hj : j < n) : ixN n (j : Int) = some j := by
  unfold ixN
  rw [if_pos (by omega), if_pos (by omega), Int.toNat_natCast]
def spPlay (K : PySem.W.Frag) : Sp := fun vs H Q _ => ∃ (n c : Int) (l : Addr), vs = [.int n, .int c, .ref l] ∧ (0 ≤ n ∧ n ≤ 120 ∧ 1 ≤ c ∧ c ≤ 120) ∧ ∃ (xs : List V) (ms : List Mv), H l = some (.lst xs) ∧ xs.length ≤ 20000 ∧ IsMs H xs ms ∧
  ∀ t H' b k, Same H H' → H' t = some (.tup [.bl b, .int k]) → (b = true ∧ verdict n c ms = .inl k ∨ b = false ∧ ∃ j : Nat, k = j ∧ verdict n c ms = .inr j) → Q (.ref t) H'
theorem ok_play {f : Addr} {fd : FuncData} (F : Fun K "_law_play" "_law_play" s_play f fd) {f_moveshape : Addr} {fd_moveshape : FuncData} (D_moveshape : Def K mg "_law_moveshape" s_moveshape p_moveshape f_moveshape fd_moveshape) (G_moveshape : FnOk P w K mg base CX0 2 f_moveshape fd_moveshape p_moveshape spShape) : FnOk P w K mg base CX0 3 f fd p_play (spPlay K) := by
  refine F.ok sc_play (fun vs H Q E h => ?_) (fun cdv A outer s H vs Q E hr h => ?_)
  · obtain ⟨n, c, l, rfl, _⟩ := h
    rfl
  · obtain ⟨n, c, l, rfl, ⟨n0, n1, c0, c1⟩, xs, ms, hl, hz, hm, q⟩ := h
    refine ⟨_, (pss_cons (ps_set (i := 3) sc_play.nd rfl (Or.inl rfl) (by exact (pe_op op_cat (pe_lst (pa_cons pe_int pa_nil)) (pe_op op_rep (pe_lst (pa_cons (pe_op op_sub pe_int pe_int) pa_nil)) (pv 1)))))
      (pss_cons (ps_set (i := 4) sc_play.nd rfl (Or.inl rfl) (by exact (pv 0)))
      (pss_cons (ps_set (i := 5) sc_play.nd rfl (Or.inl rfl) (by exact pe_int))
      (pss_cons (ps_for PassesOwn.never rfl (pi_range1 (by rfl) T.b_range (pa_cons (pe_callB call_len_seq (by rfl) T.b_len (by first | exact PySem.boot_len | decide +kernel) (pa_cons (pv 2) pa_nil)) pa_nil)) (pg_name (i := 6) sc_play.nd rfl (Or.inl rfl)) (pss_cons (ps_set (i := 7) sc_play.nd rfl (Or.inl rfl) (by exact (pe_ix ix_list (pv 2) (pv 6) (fun _ _ => rfl))))
          (pss_cons (ps_if (PW.pt (pw_or (pt_cmpR op_eq (pv 4) pe_int (nomark _)) (pw_or1 (pt_not (pt_val (pe_call G_moveshape (hr.mono (by first | decide | omega)) rfl D_moveshape.g D_moveshape.fn.kp D_moveshape.b .nil pass0 (pa_cons (pv 7) (pa_cons (pv 1) pa_nil)))))))) (pss_one (ps_ret (by exact (pe_tup (pa_cons pe_bl (pa_cons (pv 6) pa_nil)))))) pss_nil)
          (pss_one (ps_if (pt_cmpR op_eq (pe_ix ix_tup (pv 7) pe_int (fun _ _ => rfl)) pe_str (nomark _)) (pss_cons (ps_set (i := 8) sc_play.nd rfl (Or.inl rfl) (by exact (pe_ix ix_list (pv 3) (pe_ix ix_tup (pv 7) pe_int (fun _ _ => rfl)) (fun _ _ => rfl))))
              (pss_cons (ps_if (PW.pt (pw_or (pt_cmpR op_lt (pv 8) pe_int (nomark _)) (pw_or1 (pt_cmpR op_ge (pv 8) (pv 0) (nomark _))))) (pss_one (ps_ret (by exact (pe_tup (pa_cons pe_bl (pa_cons (pv 6) pa_nil)))))) pss_nil)
              (pss_cons (ps_asg (by exact (pe_op op_add (pv 8) pe_int)) (pg_sub (pv 3) (pe_ix ix_tup (pv 7) pe_int (fun _ _ => rfl)) set_list))
              (pss_one (ps_set (i := 5) sc_play.nd rfl (Or.inl rfl) (by exact (pe_op op_add (pv 5) pe_int))))))) (pss_cons (ps_if (pt_cmpR op_ne (pe_ix ix_list (pv 3) (pe_ix ix_tup (pv 7) pe_int (fun _ _ => rfl)) (fun _ _ => rfl)) (pv 4) (nomark _)) (pss_one (ps_ret (by exact (pe_tup (pa_cons pe_bl (pa_cons (pv 6) pa_nil)))))) pss_nil)
              (pss_one (ps_set (i := 4) sc_play.nd rfl (Or.inl rfl) (by exact (pe_op op_sub (pv 4) pe_int))))))))))
      (pss_cons (ps_if (pt_cmpR op_gt (pv 4) pe_int (nomark _)) (pss_one (ps_ret (by exact (pe_tup (pa_cons pe_bl (pa_cons (pe_callB call_len_seq (by rfl) T.b_len (by first | exact PySem.boot_len | decide +kernel) (pa_cons (pv 2) pa_nil)) pa_nil)))))) pss_nil)
      (pss_one (ps_ret (by exact (pe_tup (pa_cons pe_bl (pa_cons (pv 5) pa_nil))))))))))), ?_⟩
    obtain ⟨c, rfl⟩ : ∃ k : Nat, c = (k : Int) := ⟨c.toNat, by omega⟩
    walk_at "rd"
    walk_at "nw"
    intro p1 h1
    walk_at "rd"
    walk_at "nw"
    intro p2 h2
    walk_at "rd"
    refine ⟨p2, c, _, rfl, rfl, upd_same, by omega, by omega, sz_le (by show 1 * ((c : Int).toNat) ≤ 100000; omega), fun p3 h3 => ?_⟩
    generalize hg : upd (upd (upd H p1 _) p2 _) p3 _ = H3
    have s3 : Same H H3 := by rw [← hg]; exact ((same_new h1).trans (same_new h2)).trans (same_new h3)
    have e1 : H3 p1 = some (.lst [.int 0]) := by rw [← hg]; exact same_new h3 _ _ (same_new h2 _ _ upd_same)
    have e3 : H3 p3 = some (.lst (List.replicate c (V.int (-1)))) := by
      rw [← hg, upd_same]
      congr 2
      show (List.replicate ((c : Int).toNat) [V.int (-1)]).flatten = _
      rw [show ((c : Int).toNat) = c by omega, List.flatten_replicate_singleton]
    clear hg
    refine ⟨p1, p3, _, _, rfl, rfl, e1, e3, sz_le (by rw [List.length_replicate]; show 1 + c ≤ 100000; omega), fun d h4 => ?_⟩
    have nl : H3 d = none := h4
    have hd0 : H d = none := same_free nl s3
    generalize hg : upd H3 d _ = H4
    have s4 : Same H H4 := by rw [← hg]; exact s3.trans (same_new h4)
    have e4 : H4 d = some (.lst ((0 :: List.replicate c (-1)).map V.int)) := by
      rw [← hg, upd_same]
      congr 2
      show V.int 0 :: List.replicate c (V.int (-1)) = V.int 0 :: (List.replicate c (-1)).map V.int
      rw [List.map_replicate]
    clear hg
    walk_at "rd"
    refine ⟨l, xs, rfl, .inl (SqL.of (s4 _ _ hl)), ?_⟩
    walk_at "rd"
    refine ⟨by omega, by omega, ?_⟩
    rw [show ((xs.length : Nat) : Int).toNat = xs.length by omega]
    have hlen : ms.length = xs.length := hm.length.symm
    refine for_range (fun i σ H' => ∃ (hs : List Int) (s : PlaySt) (v7 v8 v6 : Option V), σ = [some (.int n), some (.int c), some (.ref l), some (.ref d), some (.int s.due), some (.int s.ups), v6, v7, v8] ∧ Same H H' ∧ H' d = some (.lst (hs.map V.int)) ∧ Held c hs s.h ∧ 0 ≤ s.due ∧ s.due ≤ n ∧ runM n c ms 0 (st0 n) = runM n c (ms.drop i) i s) ⟨_, st0 n, none, none, none, rfl, s4, e4, Held.start c, n0, Int.le_refl n, rfl⟩ ?_ ?_
    · rintro i σ H5 hi ⟨hs, s, v7, v8, v6, rfl, s5, e5, hh, d0, d1, hrun⟩
      have hi2 : i < xs.length := hi
      have hx : xs[i]? = some xs[i] := List.getElem?_eq_getElem hi2
      obtain ⟨m, hmi, him⟩ := pairedAt hm hx
      generalize xs[i] = x at hx him
      rw [runM_at hmi] at hrun
      walk_at "rd"
      refine ⟨l, xs, 0 + (i : Int), x, rfl, rfl, SqL.of (s5 _ _ hl), by rw [Int.zero_add]; exact atI_nat hx, ?_⟩
      walk_at "rd"
      have e0 : (0 : Int) + (i : Int) = (i : Int) := Int.zero_add _
      -- a bad move ends it
      have bad : stepM n c s m = none → ∀ t H6, Same H5 H6 → H6 t = some (.tup [.bl false, .int (0 + i)]) → Q (.ref t) H6 := by
        intro hn t H6 s6 e6
        rw [hn] at hrun
        refine q t H6 false (0 + i) (s5.trans s6) e6 (.inr ⟨rfl, i, e0, ?_⟩)
        unfold verdict
        rw [hrun]
      refine ite2 (fun hc => ?_) (fun hc => ?_)
      · have hd := V.int.inj (of_decide_eq_true hc)
        have hn : stepM n c s m = none := by
          unfold stepM
          rw [if_pos (.inl hd)]
        walk_at "rd"
        walk_at "nw"
        intro t ht
        exact bad hn t _ (same_new ht) upd_same
      have hdue : s.due ≠ 0 := fun z => of_ndec hc (congrArg V.int z)
      walk_at "rd"
      have him5 := him.keep s5
      refine ⟨m, him5, fun bb hb H6 s6 => ?_⟩
      cases bb with
      | false =>
        have hno : ¬ okM c m := fun z => absurd (hb.mpr z) Bool.false_ne_true
        have hn : stepM n c s m = none := by
          unfold stepM
          rw [if_pos (.inr hno)]
        walk_at "rd"
        walk_at "nw"
        intro t ht
        exact bad hn t _ (s6.trans (same_new ht)) upd_same
      | true =>
        have hok := hb.mp rfl
        have hif : ¬ (s.due = 0 ∨ ¬ okM c m) := fun z => z.elim hdue fun w => w hok
        have him6 := him5.keep s6
        have e6 := s6 _ _ e5
        clear him him5 hb
        cases him6 with
        | up t a b ht =>
          obtain ⟨⟨a0, a1⟩, b0, b1⟩ := hok
          obtain ⟨a, rfl⟩ : ∃ k : Nat, a = (k : Int) := ⟨a.toNat, by omega⟩
          obtain ⟨b, rfl⟩ : ∃ k : Nat, b = (k : Int) := ⟨b.toNat, by omega⟩
          obtain ⟨z, z1, z2⟩ := hh.2 a a1
          walk_at "rd"
          refine ⟨d, _, _, .int z, rfl, rfl, SqL.of e6, atI_nat (by rw [List.getElem?_map, z1]; rfl), ?_⟩
          walk_at "rd"
          refine ite2 (fun hc => ?_) (fun hc => ?_)
          · have hz := of_decide_eq_true hc
            have hn : stepM n c s (.up a b) = none := by
              unfold stepM
              rw [if_neg hif]
              rcases z2 with ⟨z2, _⟩ | ⟨_, z3⟩
              · simp only [z2]
              · omega
            walk_at "rd"
            walk_at "nw"
            intro t ht
            exact bad hn t _ (s6.trans (same_new ht)) upd_same
          walk_at "rd"
          refine ite2 (fun hc2 => ?_) (fun hc2 => ?_)
          · have hz := of_decide_eq_true hc2
            have hn : stepM n c s (.up a b) = none := by
              unfold stepM
              rw [if_neg hif]
              rcases z2 with ⟨z2, _⟩ | ⟨z2, z3⟩
              · simp only [z2]
              · simp only [z2]
                rw [if_neg (by omega)]
            walk_at "rd"
            walk_at "nw"
            intro t ht
            exact bad hn t _ (s6.trans (same_new ht)) upd_same
          · have y1 := of_ndec hc
            have y2 := of_ndec hc2
            have z3 : s.h a = some z := by
              rcases z2 with ⟨_, z3⟩ | ⟨z3, _⟩
              · omega
              · exact z3
            have hn : stepM n c s (.up a b) = some ⟨setH s.h b (z + 1), s.due, s.ups + 1⟩ := by
              unfold stepM
              rw [if_neg hif]
              simp only [z3]
              rw [if_pos (by omega)]
            rw [hn] at hrun
            walk_at "rd"
            have hlb : b < (hs.map V.int).length := by
              rw [List.length_map]
              have := hh.1
              omega
            refine ⟨d, _, b, b, rfl, rfl, e6, ixNat hlb, ?_⟩
            walk_at "rd"
            refine ⟨hs.set b (z + 1), ⟨setH s.h b (z + 1), s.due, s.ups + 1⟩, _, _, _, rfl, (s5.trans s6).mut hd0, ?_, hh.set b1 (by omega), d0, d1, hrun⟩
            rw [upd_same, List.map_set]
        | read t a ht =>
          obtain ⟨a0, a1⟩ := hok
          obtain ⟨a, rfl⟩ : ∃ k : Nat, a = (k : Int) := ⟨a.toNat, by omega⟩
          obtain ⟨z, z1, z2⟩ := hh.2 a a1
          walk_at "rd"
          refine ⟨d, _, _, .int z, rfl, rfl, SqL.of e6, atI_nat (by rw [List.getElem?_map, z1]; rfl), ?_⟩
          walk_at "rd"
          refine ite2 (fun hc => ?_) (fun hc => ?_)
          · have hz : z ≠ s.due := fun w => of_decide_eq_false (bnot_t hc) (congrArg V.int w)
            have hn : stepM n c s (.read a) = none := by
              unfold stepM
              rw [if_neg hif]
              show (if s.h a = some s.due then _ else _) = none
              rw [if_neg fun w => by
                rcases z2 with ⟨z2, _⟩ | ⟨z2, _⟩
                · rw [z2] at w
                  cases w
                · rw [z2] at w
                  exact hz (Option.some.inj w)]
            walk_at "rd"
            walk_at "nw"
            intro t ht
            exact bad hn t _ (s6.trans (same_new ht)) upd_same
          · have hz : z = s.due := V.int.inj (of_decide_eq_true (bnot_f hc))
            have hn : stepM n c s (.read a) = some ⟨s.h, s.due - 1, s.ups⟩ := by
              unfold stepM
              rw [if_neg hif]
              show (if s.h a = some s.due then _ else _) = _
              rw [if_pos (by
                rcases z2 with ⟨_, z3⟩ | ⟨z2, _⟩
                · omega
                · rw [z2, hz])]
            rw [hn] at hrun
            walk_at "rd"
            exact ⟨hs, ⟨s.h, s.due - 1, s.ups⟩, _, _, _, rfl, s5.trans s6, e6, hh, by show 0 ≤ s.due - 1; omega, by show s.due - 1 ≤ n; omega, hrun⟩
        | _ => exact hok.elim
    · rintro σ H5 ⟨hs, s, v7, v8, v6, rfl, s5, e5, hh, d0, d1, hrun⟩
      walk_at "rd"
      refine ite2 (fun hc => ?_) (fun hc => ?_)
      · have hz := of_decide_eq_true hc
        walk_at "rd"
        refine ⟨l, xs, rfl, .inl (SqL.of (s5 _ _ hl)), ?_⟩
        walk_at "rd"
        walk_at "nw"
        intro t ht
        refine q t _ false _ (s5.trans (same_new ht)) upd_same (.inr ⟨rfl, xs.length, rfl, ?_⟩)
        unfold verdict
        rw [hrun, ← hlen, List.drop_length]
        show (if s.due > 0 then (Sum.inr ms.length : Int ⊕ Nat) else _) = _
        rw [if_pos hz]
      · have hz := of_ndec hc
        walk_at "rd"
        walk_at "nw"
        intro t ht
        refine q t _ true _ (s5.trans (same_new ht)) upd_same (.inl ⟨rfl, ?_⟩)
        unfold verdict
        rw [hrun, ← hlen, List.drop_length]
        show (if s.due > 0 then _ else (Sum.inl s.ups : Int ⊕ Nat)) = _
        rw [if_neg hz]
end
end K12

set_option Elab.async false
set_option linter.all false
set_option maxRecDepth 100000
set_option maxHeartbeats 4000000
set_option pp.deepTerms false
set_option pp.deepTerms.threshold 12
namespace K12
open PySem PySem.Spec PyProof.Rows L2
local macro_rules | `(tactic| walk_at "ty") => `(tactic| first | exact .base (.int _) | exact .base (.bl _) | exact .base (.str _) | exact .base .non | assumption | exact .base (.tup (by assumption)) | exact .base (.lst (by assumption)))
local macro_rules | `(tactic| walk_at "cm") => `(tactic| first | exact cm_r (by decide) (by decide) | exact cm_l (by decide) (by decide) | exact cm_fmod (by decide) (by decide) | exact cm_r (by omega) (by omega) | exact cm_l (by omega) (by omega))
local macro_rules | `(tactic| walk_at "dv") => `(tactic| first | exact ⟨by decide, by decide⟩ | exact ⟨by omega, by omega⟩)
local macro_rules | `(tactic| walk_at "r1") => `(tactic| first
  | refine ⟨_, rfl, ?_⟩ | refine ⟨_, _, rfl, rfl, ?_⟩ | refine Or.inl ⟨_, rfl, ?_⟩ | refine Or.inr ⟨_, rfl, ?_⟩
  | refine And.intro (a := CMul _ _) (by walk_at "cm") ?_ | refine And.intro (a := CDivN _ _) (by walk_at "dv") ?_ | refine And.intro (a := _ ≠ (0 : Int)) (by first | decide | omega) ?_ | refine And.intro (a := scal _ _ = true) rfl ?_ | refine ⟨_, _, _, _, rfl, rfl, SqL.of (by first | exact upd_same | assumption), rfl, ?_⟩ | refine ⟨_, _, _, _, rfl, rfl, (by first | exact upd_same | assumption), rfl, ?_⟩ | refine ⟨_, _, rfl, ?_⟩ | refine And.intro (a := (_ : V) = V.non) rfl ?_ | refine And.intro (a := CPow _ _) ⟨by decide, by decide, by decide⟩ ?_ | refine And.intro (a := (_ : List V) = []) rfl ?_ | refine ⟨_, _, rfl, SqT.of (by first | exact upd_same | assumption), rfl, ?_⟩
  | refine ⟨_, _, _, _, rfl, rfl, SqT.of (by first | exact upd_same | assumption), rfl, ?_⟩
  | refine ⟨_, _, _, _, true, rfl, ClsV.ty _, (by walk_at "ty"), kit_ty (by decide +kernel), ?_⟩ | refine ⟨_, _, _, _, false, rfl, ClsV.ty _, (by walk_at "ty"), kit_ty (by decide +kernel), ?_⟩)
local macro_rules | `(tactic| walk_at "rd") => `(tactic| repeat walk_at "r1")
local macro_rules | `(tactic| walk_at "yes") => `(tactic| (change (if true = true then _ else _); rw [if_pos rfl]))
local macro_rules | `(tactic| walk_at "no") => `(tactic| (change (if false = true then _ else _); rw [if_neg Bool.false_ne_true]))
local macro_rules | `(tactic| walk_at "nw") => `(tactic| refine And.intro (a := _ ≤ sizeLine) (sz_le (Nat.le_of_ble_eq_true rfl)) ?_)

section
variable {P : Program} {w : World} {K : PySem.W.Frag} {mg : Str → Option Value} {base : Heap}
variable {C_VaultError C_TooMany C_NumberError C_BadPrime C_NoInverse C_NoNumber C_BadTable C_BadCells C_TextError C_ShapeError C_PlanError C_CourseError C_KnowError C_PaperError C_BadStep C_BadBlind C_BadMove C_NotShut C_NotOpen C_NotTheft C_NotPrice fV fI_BadMove fI_BadCells : Addr}
variable (T : Txt P K mg C_VaultError C_TooMany C_NumberError C_BadPrime C_NoInverse C_NoNumber C_BadTable C_BadCells C_TextError C_ShapeError C_PlanError C_CourseError C_KnowError C_PaperError C_BadStep C_BadBlind C_BadMove C_NotShut C_NotOpen C_NotTheft C_NotPrice fV fI_BadMove fI_BadCells)
include T
omit T in
theorem stop_ex {n c : Nat} (hn : 1 ≤ n) : ∃ m, M11.IsStop n c m := by
  have key : ∀ N, (∃ m, M11.IsStop n c m) ∨ ∀ j, 1 ≤ j → j ≤ N → M11.sm n c j ≠ some (M11.T n (c + 1)) := by
    intro N
    induction N with
    | zero => exact .inr fun j h1 h2 => by omega
    | succ N ih =>
      rcases ih with h | h
      · exact .inl h
      · by_cases e : M11.sm n c (N + 1) = some (M11.T n (c + 1))
        · have hlt := M11.stop_more (i := N) hn h
          exact .inl ⟨N + 1, by omega, by omega, e, fun j h1 h2 => h j h1 (by omega)⟩
        · exact .inr fun j h1 h2 => (Nat.lt_or_ge j (N + 1)).elim (fun z => h j h1 (by omega)) fun z => by rw [show j = N + 1 by omega]; exact e
  rcases key n with h | h
  · exact h
  · exact absurd (M11.stop_more hn h) (Nat.lt_irrefl n)
/-- the best list: n values behind those of the cell o, into the cells f to f + c -/
inductive Best : Nat → Nat → Int → Int → List Mv → Prop
  | nil (c : Nat) (o f : Int) : Best 0 c o f []
  | last (n s : Nat) (o f : Int) (ys : List Mv) (h : M11.IsStop n 0 s) (b : Best (s - 1) 0 o f ys) : Best n 0 o f (.up o f :: (List.replicate (s - 1) (.up f f) ++ (.read f :: ys)))
  | more (n c s : Nat) (o f : Int) (xs ys : List Mv) (h : M11.IsStop n (c + 1) s) (a : Best (n - s) c f (f + 1) xs) (b : Best (s - 1) (c + 1) o f ys) : Best n (c + 1) o f (.up o f :: (List.replicate (s - 1) (.up f f) ++ (xs ++ (.read f :: ys))))
omit T in
theorem Best.uniq {n c : Nat} {o f : Int} {xs ys : List Mv} (a : Best n c o f xs) (b : Best n c o f ys) : xs = ys := by
  induction a generalizing ys with
  | nil c o f =>
    cases b with
    | nil => rfl
    | last _ s _ _ _ h _ => have := h.lo; have := h.hi; omega
    | more _ _ s _ _ _ _ h _ _ => have := h.lo; have := h.hi; omega
  | last n s o f zs h a ih =>
    cases b with
    | nil => have := h.lo; have := h.hi; omega
    | last _ s' _ _ zs' h' b =>
      obtain rfl := h.uniq h'
      rw [ih b]
  | more n c s o f xs zs h a1 a2 ih1 ih2 =>
    cases b with
    | nil => have := h.lo; have := h.hi; omega
    | more _ _ s' _ _ xs' zs' h' b1 b2 =>
      obtain rfl := h.uniq h'
      rw [ih1 b1, ih2 b2]
def Runs (n c : Int) (ms : List Mv) (s s' : PlaySt) : Prop := ∀ k, runM n c ms k s = .inl s'
omit T in
theorem Runs.nil {n c : Int} {s : PlaySt} : Runs n c [] s s := fun _ => rfl
omit T in
theorem Runs.cons {n c : Int} {m : Mv} {ms : List Mv} {s s1 s' : PlaySt} (h : stepM n c s m = some s1) (r : Runs n c ms s1 s') : Runs n c (m :: ms) s s' := fun k => by
  unfold runM
  rw [h]
  exact r (k + 1)
omit T in
theorem Runs.append {n c : Int} {xs ys : List Mv} {s s1 s' : PlaySt} (a : Runs n c xs s s1) (b : Runs n c ys s1 s') : Runs n c (xs ++ ys) s s' := by
  induction xs generalizing s with
  | nil =>
    have e := a 0
    injection e with e
    rw [e]
    exact b
  | cons m ms ih =>
    cases e : stepM n c s m with
    | none =>
      have q := a 0
      unfold runM at q
      rw [e] at q
      cases q
    | some s2 =>
      refine Runs.cons e (ih fun k => ?_)
      have q : ∀ k, runM n c (m :: ms) k s = .inl s1 := a
      have w : ∀ k, runM n c ms (k + 1) s2 = .inl s1 := fun k => by
        have z := q k
        unfold runM at z
        rw [e] at z
        exact z
      have shift : ∀ (ms : List Mv) (s2 s1 : PlaySt) (i j : Nat), runM n c ms i s2 = .inl s1 → runM n c ms j s2 = .inl s1 := by
        intro ms
        induction ms with
        | nil => intro s2 s1 i j h; exact h
        | cons m ms ih =>
          intro s2 s1 i j h
          unfold runM at h ⊢
          cases e : stepM n c s2 m with
          | none => rw [e] at h; cases h
          | some s3 => rw [e] at h; exact ih s3 s1 _ _ h
      exact shift _ _ _ _ _ (w 0)
omit T in
theorem step_up {n c a b i : Int} {s : PlaySt} (hd : s.due ≠ 0) (ha : 0 ≤ a ∧ a ≤ c) (hb : 1 ≤ b ∧ b ≤ c) (h : s.h a = some i) (hi : i < n) : stepM n c s (.up a b) = some ⟨setH s.h b (i + 1), s.due, s.ups + 1⟩ := by
  unfold stepM
  rw [if_neg (fun z => z.elim hd fun w => w ⟨ha, hb⟩)]
  simp only [h]
  rw [if_pos hi]
omit T in
theorem step_read {n c a : Int} {s : PlaySt} (hd : s.due ≠ 0) (ha : 1 ≤ a ∧ a ≤ c) (h : s.h a = some s.due) : stepM n c s (.read a) = some ⟨s.h, s.due - 1, s.ups⟩ := by
  unfold stepM
  rw [if_neg (fun z => z.elim hd fun w => w ha)]
  show (if s.h a = some s.due then _ else _) = _
  rw [if_pos h]
omit T in
theorem runs_ups {n c f : Int} (hf : 1 ≤ f ∧ f ≤ c) : ∀ (j : Nat) (s : PlaySt) (v : Int), s.due ≠ 0 → s.h f = some v → v + j ≤ n → ∃ h', Runs n c (List.replicate j (.up f f)) s ⟨h', s.due, s.ups + j⟩ ∧ h' f = some (v + j) ∧ ∀ a, a ≠ f → h' a = s.h a
  | 0, s, v, hd, h, hv => ⟨s.h, by rw [show s.ups + ((0 : Nat) : Int) = s.ups from Int.add_zero _]; exact Runs.nil, by rw [h]; congr 1; omega, fun _ _ => rfl⟩
  | j + 1, s, v, hd, h, hv => by
    have st := step_up (n := n) (c := c) (a := f) (b := f) (i := v) hd ⟨by omega, hf.2⟩ hf h (by omega)
    obtain ⟨h', r, e1, e2⟩ := runs_ups (n := n) hf j ⟨setH s.h f (v + 1), s.due, s.ups + 1⟩ (v + 1) hd (if_pos rfl) (by omega)
    refine ⟨h', ?_, by rw [e1]; congr 1; omega, fun a ha => by rw [e2 a ha]; exact if_neg ha⟩
    have e3 : s.ups + ((j + 1 : Nat) : Int) = s.ups + 1 + (j : Int) := by omega
    rw [e3]
    exact Runs.cons st r
omit T in
theorem Best.runs {N C : Int} {l k : Nat} {o f : Int} {ms : List Mv} (x : Best l k o f ms) : ∀ (s : PlaySt) (b : Int), s.h o = some b → s.due = b + l → 0 ≤ b → b + l ≤ N → 0 ≤ o → o < f → 1 ≤ f → f + k ≤ C →
    ∃ h', Runs N C ms s ⟨h', b, s.ups + M11.T l (k + 1)⟩ ∧ ∀ a, a < f → h' a = s.h a := by
  induction x with
  | nil k o f =>
    intro s b h1 h2 h3 h4 h5 h6 h7 h8
    refine ⟨s.h, ?_, fun _ _ => rfl⟩
    rw [M11.T_0, Int.add_zero, show b = s.due by omega]
    exact Runs.nil
  | last n s o f ys h bb ih =>
    intro S b h1 h2 h3 h4 h5 h6 h7 h8
    have lo := h.lo
    have hi := h.hi
    obtain rfl : s = n := h.uniq (M11.stop_1 (by omega))
    have hsum : M11.T s 1 = (s : Int) + M11.T (s - 1) 1 := by
      have z := h.at_
      unfold M11.sm at z
      rw [if_pos rfl, if_neg (Nat.lt_irrefl s)] at z
      exact (Option.some.inj z).symm
    have st := step_up (n := N) (c := C) (a := o) (b := f) (i := b) (s := S) (by omega) ⟨h5, by omega⟩ ⟨h7, by omega⟩ h1 (by omega)
    obtain ⟨g1, r1, e1, e2⟩ := runs_ups (n := N) (c := C) (f := f) ⟨h7, by omega⟩ (s - 1) ⟨setH S.h f (b + 1), S.due, S.ups + 1⟩ (b + 1) (by show S.due ≠ 0; omega) (if_pos rfl) (by omega)
    have sr := step_read (n := N) (c := C) (a := f) (s := ⟨g1, S.due, S.ups + 1 + ((s - 1 : Nat) : Int)⟩) (by show S.due ≠ 0; omega) ⟨h7, by omega⟩ (by show g1 f = some S.due; rw [e1]; congr 1; omega)
    have e3 : ∀ a, a < f → g1 a = S.h a := fun a ha => by rw [e2 a (by omega)]; exact if_neg (by omega)
    obtain ⟨g2, r2, e4⟩ := ih ⟨g1, S.due - 1, S.ups + 1 + ((s - 1 : Nat) : Int)⟩ b (by rw [← h1]; exact e3 o h6) (by show S.due - 1 = _; omega) h3 (by omega) h5 h6 h7 h8
    refine ⟨g2, Runs.cons st (Runs.append r1 (Runs.cons sr ?_)), fun a ha => (e4 a ha).trans (e3 a ha)⟩
    have e5 : S.ups + M11.T s (0 + 1) = S.ups + 1 + ((s - 1 : Nat) : Int) + M11.T (s - 1) (0 + 1) := by
      show S.ups + M11.T s 1 = _ + M11.T (s - 1) 1
      rw [hsum]
      omega
    rw [e5]
    exact r2
  | more n k s o f xs ys h aa bb iha ihb =>
    intro S b h1 h2 h3 h4 h5 h6 h7 h8
    have lo := h.lo
    have hi := h.hi
    have hsum : M11.T n (k + 2) = (s : Int) + M11.T (n - s) (k + 1) + M11.T (s - 1) (k + 2) := by
      have z := h.at_
      unfold M11.sm at z
      rw [if_neg (Nat.succ_ne_zero k)] at z
      exact (Option.some.inj z).symm
    have st := step_up (n := N) (c := C) (a := o) (b := f) (i := b) (s := S) (by omega) ⟨h5, by omega⟩ ⟨h7, by omega⟩ h1 (by omega)
    obtain ⟨g1, r1, e1, e2⟩ := runs_ups (n := N) (c := C) (f := f) ⟨h7, by omega⟩ (s - 1) ⟨setH S.h f (b + 1), S.due, S.ups + 1⟩ (b + 1) (by show S.due ≠ 0; omega) (if_pos rfl) (by omega)
    have e3 : ∀ a, a < f → g1 a = S.h a := fun a ha => by rw [e2 a (by omega)]; exact if_neg (by omega)
    obtain ⟨g2, r2, e4⟩ := iha ⟨g1, S.due, S.ups + 1 + ((s - 1 : Nat) : Int)⟩ (b + s) (by show g1 f = _; rw [e1]; congr 1; omega) (by show S.due = _; omega) (by omega) (by omega) (by omega) (by omega) (by omega) (by omega)
    have e5 : g2 f = some (b + s) := by
      rw [e4 f (by omega)]
      show g1 f = _
      rw [e1]
      congr 1
      omega
    have sr := step_read (n := N) (c := C) (a := f) (s := ⟨g2, b + s, S.ups + 1 + ((s - 1 : Nat) : Int) + M11.T (n - s) (k + 1)⟩) (by show b + s ≠ 0; omega) ⟨h7, by omega⟩ e5
    have e6 : ∀ a, a < f → g2 a = S.h a := fun a ha => (e4 a (by omega)).trans (e3 a ha)
    obtain ⟨g3, r3, e7⟩ := ihb ⟨g2, b + s - 1, S.ups + 1 + ((s - 1 : Nat) : Int) + M11.T (n - s) (k + 1)⟩ b (by rw [← h1]; exact e6 o h6) (by show b + s - 1 = _; omega) h3 (by omega) h5 h6 h7 h8
    refine ⟨g3, Runs.cons st (Runs.append r1 (Runs.append r2 (Runs.cons sr ?_))), fun a ha => (e7 a ha).trans (e6 a ha)⟩
    have e8 : S.ups + M11.T n (k + 1 + 1) = S.ups + 1 + ((s - 1 : Nat) : Int) + M11.T (n - s) (k + 1) + M11.T (s - 1) (k + 1 + 1) := by
      show S.ups + M11.T n (k + 2) = _ + M11.T (s - 1) (k + 2)
      rw [hsum]
      omega
    rw [e8]
    exact r3
omit T in
/-- the best list is right, with the least steps -/
theorem Best.verdict {n k : Nat} {ms : List Mv} (x : Best n k 0 1 ms) : verdict n ((k + 1 : Nat) : Int) ms = .inl (M11.T n (k + 1)) := by
  obtain ⟨h', r, _⟩ := x.runs (N := n) (C := ((k + 1 : Nat) : Int)) (st0 n) 0 rfl (by show (n : Int) = _; omega) (Int.le_refl 0) (by omega) (Int.le_refl 0) (by omega) (Int.le_refl 1) (by omega)
  have r0 := r 0
  unfold K12.verdict
  rw [r0]
  show (if (0 : Int) > 0 then _ else (Sum.inl ((st0 n).ups + M11.T n (k + 1)) : Int ⊕ Nat)) = _
  rw [if_neg (by omega)]
  show (Sum.inl (0 + M11.T n (k + 1)) : Int ⊕ Nat) = _
  rw [Int.zero_add]
end
end K12

set_option Elab.async false
set_option linter.all false
set_option maxRecDepth 100000
set_option maxHeartbeats 4000000
set_option pp.deepTerms false
set_option pp.deepTerms.threshold 12
namespace K12
open PySem PySem.Spec PyProof.Rows L2
local macro_rules | `(tactic| walk_at "ty") => `(tactic| first | exact .base (.int _) | exact .base (.bl _) | exact .base (.str _) | exact .base .non | assumption | exact .base (.tup (by assumption)) | exact .base (.lst (by assumption)))
local macro_rules | `(tactic| walk_at "cm") => `(tactic| first | exact cm_r (by decide) (by decide) | exact cm_l (by decide) (by decide) | exact cm_fmod (by decide) (by decide) | exact cm_r (by omega) (by omega) | exact cm_l (by omega) (by omega))
local macro_rules | `(tactic| walk_at "dv") => `(tactic| first | exact ⟨by decide, by decide⟩ | exact ⟨by omega, by omega⟩)
local macro_rules | `(tactic| walk_at "r1") => `(tactic| first
  | refine ⟨_, rfl, ?_⟩ | refine ⟨_, _, rfl, rfl, ?_⟩ | refine Or.inl ⟨_, rfl, ?_⟩ | refine Or.inr ⟨_, rfl, ?_⟩
  | refine And.intro (a := CMul _ _) (by walk_at "cm") ?_ | refine And.intro (a := CDivN _ _) (by walk_at "dv") ?_ | refine And.intro (a := _ ≠ (0 : Int)) (by first | decide | omega) ?_ | refine And.intro (a := scal _ _ = true) rfl ?_ | refine ⟨_, _, _, _, rfl, rfl, SqL.of (by first | exact upd_same | assumption), rfl, ?_⟩ | refine ⟨_, _, _, _, rfl, rfl, (by first | exact upd_same | assumption), rfl, ?_⟩ | refine ⟨_, _, rfl, ?_⟩ | refine And.intro (a := (_ : V) = V.non) rfl ?_ | refine And.intro (a := CPow _ _) ⟨by decide, by decide, by decide⟩ ?_ | refine And.intro (a := (_ : List V) = []) rfl ?_ | refine ⟨_, _, rfl, SqT.of (by first | exact upd_same | assumption), rfl, ?_⟩
  | refine ⟨_, _, _, _, rfl, rfl, SqT.of (by first | exact upd_same | assumption), rfl, ?_⟩
  | refine ⟨_, _, _, _, true, rfl, ClsV.ty _, (by walk_at "ty"), kit_ty (by decide +kernel), ?_⟩ | refine ⟨_, _, _, _, false, rfl, ClsV.ty _, (by walk_at "ty"), kit_ty (by decide +kernel), ?_⟩)
local macro_rules | `(tactic| walk_at "rd") => `(tactic| repeat walk_at "r1")
local macro_rules | `(tactic| walk_at "yes") => `(tactic| (change (if true = true then _ else _); rw [if_pos rfl]))
local macro_rules | `(tactic| walk_at "no") => `(tactic| (change (if false = true then _ else _); rw [if_neg Bool.false_ne_true]))
local macro_rules | `(tactic| walk_at "nw") => `(tactic| refine And.intro (a := _ ≤ sizeLine) (sz_le (Nat.le_of_ble_eq_true rfl)) ?_)

section
variable {P : Program} {w : World} {K : PySem.W.Frag} {mg : Str → Option Value} {base : Heap}
variable {C_VaultError C_TooMany C_NumberError C_BadPrime C_NoInverse C_NoNumber C_BadTable C_BadCells C_TextError C_ShapeError C_PlanError C_CourseError C_KnowError C_PaperError C_BadStep C_BadBlind C_BadMove C_NotShut C_NotOpen C_NotTheft C_NotPrice fV fI_BadMove fI_BadCells : Addr}
variable (T : Txt P K mg C_VaultError C_TooMany C_NumberError C_BadPrime C_NoInverse C_NoNumber C_BadTable C_BadCells C_TextError C_ShapeError C_PlanError C_CourseError C_KnowError C_PaperError C_BadStep C_BadBlind C_BadMove C_NotShut C_NotOpen C_NotTheft C_NotPrice fV fI_BadMove fI_BadCells)
include T
omit T in
theorem Best.zero {k : Nat} {o f : Int} {ms : List Mv} (x : Best 0 k o f ms) : ms = [] := by
  cases x with
  | nil => rfl
  | last _ s _ _ _ h _ => have := h.lo; have := h.hi; omega
  | more _ _ s _ _ _ _ h _ _ => have := h.lo; have := h.hi; omega
/-- a move that is written right -/
inductive IsU (H : Hp) : V → Mv → Prop
  | up (t : Addr) (a b : Int) (h : H t = some (.tup [.str "up", .int a, .int b])) : IsU H (.ref t) (.up a b)
  | read (t : Addr) (a : Int) (h : H t = some (.tup [.str "read", .int a])) : IsU H (.ref t) (.read a)
omit T in
theorem IsU.isM {H : Hp} {v : V} {m : Mv} (h : IsU H v m) : IsM H v m := by
  cases h with
  | up t a b h => exact .up t a b h
  | read t a h => exact .read t a h
omit T in
theorem IsU.keep {H H' : Hp} {v : V} {m : Mv} (h : IsU H v m) (s : Same H H') : IsU H' v m := by
  cases h with
  | up t a b h => exact .up t a b (s _ _ h)
  | read t a h => exact .read t a (s _ _ h)
omit T in
theorem IsU.but {H H' : Hp} {v : V} {m : Mv} {l : Addr} {xs : List V} (h : IsU H v m) (hl : H l = some (.lst xs)) (s : But l H H') : IsU H' v m := by
  cases h with
  | up t a b h => exact .up t a b (s _ _ (fun z => by rw [z, hl] at h; cases h) h)
  | read t a h => exact .read t a (s _ _ (fun z => by rw [z, hl] at h; cases h) h)
omit T in
theorem Us.map {H H' : Hp} {xs : List V} {ms : List Mv} (h : Paired (IsU H) xs ms) (f : ∀ v m, IsU H v m → IsU H' v m) : Paired (IsU H') xs ms := by
  induction h with
  | nil => exact .nil
  | cons a k ih => exact .cons (f _ _ a) ih
omit T in
theorem Us.app {H : Hp} {xs ys : List V} {ms ns : List Mv} (h : Paired (IsU H) xs ms) (k : Paired (IsU H) ys ns) : Paired (IsU H) (xs ++ ys) (ms ++ ns) := by
  induction h with
  | nil => exact k
  | cons a _ ih => exact .cons a ih
/-- the list at l, with moves added behind -/
def spWr : Nat → Sp
  | 0 => fun _ _ _ _ => False
  | d + 1 => fun vs H Q _ => ∃ (left o f c : Int) (l : Addr), vs = [.int left, .int o, .int f, .int c, .ref l] ∧ ∃ (n kk : Nat) (xs : List V) (ms : List Mv), (left = n ∧ f + kk = c + 1 ∧ kk ≤ d ∧ (n = 0 ∨ 1 ≤ kk)) ∧ n ≤ 120 ∧ c ≤ 120 ∧ 1 ≤ f ∧ H l = some (.lst xs) ∧ Best n (kk - 1) o f ms ∧ xs.length + ms.length ≤ 50000 ∧
    ∀ ys H', H' l = some (.lst (xs ++ ys)) → Paired (IsU H') ys ms → But l H H' → Q .non H'
theorem ok_write {f : Addr} {fd : FuncData} (F : Fun K "_write_moves" "_write_moves" s_write_moves f fd) (D_write_moves : Def K mg "_write_moves" s_write_moves p_write_moves f fd) {f_best_stop : Addr} {fd_best_stop : FuncData} (D_best_stop : Def K mg "best_stop" s_best_stop p_best_stop f_best_stop fd_best_stop) (G_best_stop : FnOk P w K mg base (L2N.CX P w) 6 f_best_stop fd_best_stop p_best_stop (spR C_BadCells spStop2)) : ∀ d, FnOk P w K mg base (L2N.CX P w) (d + 6) f fd p_write_moves (spWr d)
  | 0 => ⟨fun _ _ _ _ h => h.elim, fun _ _ _ _ _ _ _ _ _ _ _ _ _ h => h.elim⟩
  | d + 1 => by
    have G_write_moves := ok_write F D_write_moves D_best_stop G_best_stop d
    refine F.okN sc_write_moves (fun vs H Q E h => ?_) (fun cdv A outer s H vs Q E hr h => ?_)
    · obtain ⟨a, b, c, e, g, rfl, _⟩ := h
      rfl
    · obtain ⟨_, o, ff, c, l, rfl, n, kk, xs, ms, ⟨rfl, hk, hd, hn0⟩, hn, hc, hf, hl, hb, hz, q⟩ := h
      have passO := passes_of (X := cxOf (L2N.CX P w) P w K mg base N_write_moves "_write_moves" (defScope s_write_moves) f cdv A outer s H E) rfl
      have tk := L2N.takes_of (X := cxOf (L2N.CX P w) P w K mg base N_write_moves "_write_moves" (defScope s_write_moves) f cdv A outer s H E) rfl rfl rfl rfl
      refine ⟨_, (pss_cons (ps_set (i := 5) sc_write_moves.nd rfl (Or.inl rfl) (by exact (pv 0)))
      (pss_one (ps_while passO (pt_cmpR op_gt (pv 5) pe_int (nomark _)) (pss_cons (ps_set (i := 6) sc_write_moves.nd rfl (Or.inl rfl) (by exact (pe_callS G_best_stop (hr.mono (by first | decide | omega)) rfl D_best_stop.g D_best_stop.fn.kp D_best_stop.b (fun σ => L2N.passAt tk σ) (pa_cons (pv 5) (pa_cons (pe_op op_add (pe_op op_sub (pv 3) (pv 2)) pe_int) pa_nil)))))
          (pss_cons (ps_expr (pe_bm PySem.F.plainAttrs_list PySem.F.slot_list_append PySem.F.type_list_append mt_append (pv 4) (pa_cons (pe_tup (pa_cons pe_str (pa_cons (pv 1) (pa_cons (pv 2) pa_nil)))) pa_nil)))
          (pss_cons (ps_expr (pe_bm PySem.F.plainAttrs_list PySem.F.slot_list_extend PySem.F.type_list_extend mt_extend (pv 4) (pa_cons (pe_lc (own := [("_", 7)]) (g := gName 7) rfl sc_write_moves.nd (pi_range1 (by rfl) T.b_range (pa_cons (pe_op op_sub (pv 6) pe_int) pa_nil)) (blkOk_by (own := [("_", 7)]) (N := N_write_moves) (sc := defScope s_write_moves) (by decide +kernel)) (fun _ _ _ _ _ => pg_name (i := 7) sc_write_moves.nd rfl (Or.inl rfl)) (fun _ _ _ _ _ => pts_nil) (fun _ _ _ _ _ => (pe_tup (pa_cons pe_str (pa_cons (pv 2) (pa_cons (pv 2) pa_nil)))))) pa_nil)))
          (pss_cons (ps_expr (pe_callS G_write_moves hr rfl D_write_moves.g D_write_moves.fn.kp D_write_moves.b (fun σ => L2N.passAt tk σ) (pa_cons (pe_op op_sub (pv 5) (pv 6)) (pa_cons (pv 2) (pa_cons (pe_op op_add (pv 2) pe_int) (pa_cons (pv 3) (pa_cons (pv 4) pa_nil)))))))
          (pss_cons (ps_expr (pe_bm PySem.F.plainAttrs_list PySem.F.slot_list_append PySem.F.type_list_append mt_append (pv 4) (pa_cons (pe_tup (pa_cons pe_str (pa_cons (pv 2) pa_nil))) pa_nil)))
          (pss_one (ps_set (i := 5) sc_write_moves.nd rfl (Or.inl rfl) (by exact (pe_op op_sub (pv 6) pe_int)))))))))))), ?_⟩
      walk_at "rd"
      refine ⟨fun m σ H' => ∃ (n' : Nat) (zs : List V) (done rest : List Mv) (v6 v7 : Option V), m = n' ∧ σ = [some (.int n), some (.int o), some (.int ff), some (.int c), some (.ref l), some (.int n'), v6, v7] ∧ n' ≤ 120 ∧ (n' = 0 ∨ 1 ≤ kk) ∧ H' l = some (.lst (xs ++ zs)) ∧ Paired (IsU H') zs done ∧ But l H H' ∧ Best n' (kk - 1) o ff rest ∧ ms = done ++ rest, ⟨n, n, [], [], ms, none, none, rfl, rfl, hn, hn0, by rw [List.append_nil]; exact hl, .nil, .refl, hb, rfl⟩, ?_⟩
      rintro n' σ H1 ⟨_, zs, done, rest, v6, v7, rfl, rfl, hn', hk', h1, i1, b1, hb1, rfl⟩
      walk_at "rd"
      refine ite2 (fun hcnd => ?_) (fun hcnd => ?_)
      · have hpos : 0 < (n' : Int) := of_decide_eq_true hcnd
        have hk1 : 1 ≤ kk := by omega
        obtain ⟨k, rfl⟩ : ∃ k, kk = k + 1 := ⟨kk - 1, by omega⟩
        have hb1 : Best n' k o ff rest := hb1
        refine ⟨fun σ' H'' => ∃ m', m' < n' ∧ ∃ (n' : Nat) (zs : List V) (done' rest' : List Mv) (v6 v7 : Option V), m' = n' ∧ σ' = [some (.int n), some (.int o), some (.int ff), some (.int c), some (.ref l), some (.int n'), v6, v7] ∧ n' ≤ 120 ∧ (n' = 0 ∨ 1 ≤ k + 1) ∧ H'' l = some (.lst (xs ++ zs)) ∧ Paired (IsU H'') zs done' ∧ But l H H'' ∧ Best n' (k + 1 - 1) o ff rest' ∧ done ++ rest = done' ++ rest', fun _ _ h => h, ?_⟩
        -- the stop, and what the list has behind it
        obtain ⟨s, inner, tail, hs, hin, htail, hrest⟩ : ∃ (s : Nat) (inner tail : List Mv), M11.IsStop n' k s ∧ Best (n' - s) (k - 1) ff (ff + 1) inner ∧ Best (s - 1) k o ff tail ∧ rest = .up o ff :: (List.replicate (s - 1) (.up ff ff) ++ (inner ++ (.read ff :: tail))) := by
          cases hb1 with
          | nil => omega
          | last _ s _ _ ys h b =>
            obtain rfl := h.uniq (M11.stop_1 (by omega))
            exact ⟨_, [], ys, h, by rw [Nat.sub_self]; exact .nil _ _ _, b, by rw [List.nil_append]⟩
          | more _ k' s _ _ xs' ys h a b => exact ⟨s, xs', ys, h, a, b, rfl⟩
        have slo := hs.lo
        have shi := hs.hi
        walk_at "rd"
        refine .inl ⟨n', k, ⟨rfl, congrArg V.int (by omega)⟩, hn', by omega, by omega, fun s' hs' => ?_⟩
        rw [hs'.uniq hs]
        walk_at "rd"
        refine ⟨.inl ⟨rfl, _, SqL.of h1⟩, ?_⟩
        walk_at "rd"
        walk_at "nw"
        intro t1 ht1
        generalize hg : upd H1 t1 _ = H2
        have s2 : Same H1 H2 := by rw [← hg]; exact same_new ht1
        have e2 : H2 t1 = some (.tup [.str "up", .int o, .int ff]) := by rw [← hg]; exact upd_same
        clear hg
        have hzl : zs.length = done.length := i1.length
        have hml : (done ++ rest).length = done.length + (1 + ((s - 1) + (inner.length + (1 + tail.length)))) := by
          rw [hrest, List.length_append, List.length_cons, List.length_append, List.length_replicate, List.length_append, List.length_cons]
          omega
        refine ⟨l, _, _, rfl, rfl, s2 _ _ h1, sz_lt (by rw [List.length_append]; omega), ?_⟩
        generalize hg : upd H2 l _ = H3
        have b3 : But l H2 H3 := by rw [← hg]; exact .set
        have e3 : H3 l = some (.lst (xs ++ zs ++ [.ref t1])) := by rw [← hg]; exact upd_same
        clear hg
        have l2 := s2 _ _ h1
        have u3 : Paired (IsU H3) (zs ++ [.ref t1]) (done ++ [.up o ff]) := Us.app (Us.map i1 fun v m h => (h.keep s2).but l2 b3) (.cons ((IsU.up t1 o ff e2).but l2 b3) .nil)
        have b13 : But l H H3 := (b1.trans (.of s2)).trans b3
        clear e2 b3 s2 l2 i1 b1 h1
        walk_at "rd"
        refine ⟨.inl ⟨rfl, _, SqL.of e3⟩, ?_⟩
        walk_at "rd"
        refine ⟨by omega, by omega, fun D hD => ?_⟩
        rw [show ((s : Int) - 1).toNat = s - 1 by omega]
        refine lc_range (lo := 0) (n := s - 1) (fun i H' => Same H3 H' ∧ ∃ ts : List V, H' D = some (.lst ts) ∧ ts.length = i ∧ Paired (IsU H') ts (List.replicate i (.up ff ff))) ⟨same_new hD, [], upd_same, rfl, .nil⟩ ?_ ?_
        · rintro i H4 hi ⟨s4, ts, ed, hts, us⟩
          refine ⟨rfl, ?_⟩
          walk_at "rd"
          walk_at "nw"
          intro t2 ht2
          have s5 : Same H4 (upd H4 t2 (.tup [.str "up", .int ff, .int ff])) := same_new ht2
          refine ⟨ts, s5 _ _ ed, sz_lt (by omega), (s4.trans s5).mut hD, ts ++ [.ref t2], upd_same, by rw [List.length_append, hts]; rfl, ?_⟩
          rw [List.replicate_succ']
          exact Us.app (Us.map us fun v m h => (h.keep s5).but (s5 _ _ ed) .set) (.cons ((IsU.up t2 ff ff upd_same).but (s5 _ _ ed) .set) .nil)
        rintro H4 ⟨s4, ts, ed, hts, us⟩
        walk_at "rd"
        refine ⟨l, D, _, _, rfl, rfl, s4 _ _ e3, ed, sz_le (by rw [List.length_append, List.length_append, hts]; show xs.length + zs.length + 1 + (s - 1) ≤ 100000; omega), ?_⟩
        generalize hg : upd H4 l _ = H5
        have b5 : But l H4 H5 := by rw [← hg]; exact .set
        have e5 : H5 l = some (.lst (xs ++ zs ++ [.ref t1] ++ ts)) := by rw [← hg]; exact upd_same
        clear hg
        have l4 := s4 _ _ e3
        have u5 : Paired (IsU H5) (zs ++ [.ref t1] ++ ts) (done ++ [.up o ff] ++ List.replicate (s - 1) (.up ff ff)) := Us.app (Us.map u3 fun v m h => (h.keep s4).but l4 b5) (Us.map us fun v m h => h.but l4 b5)
        have b15 : But l H H5 := (b13.trans (.of s4)).trans b5
        clear u3 us b13 b5 l4 ed s4 e3
        walk_at "rd"
        obtain ⟨d', rfl⟩ : ∃ d', d = d' + 1 := ⟨d - 1, by omega⟩
        have hk0 : n' - s = 0 ∨ 1 ≤ k := by
          rcases Nat.eq_zero_or_pos k with z | z
          · subst z
            have := hs.uniq (M11.stop_1 (by omega))
            omega
          · exact .inr z
        refine ⟨_, _, _, _, _, rfl, n' - s, k, xs ++ zs ++ [.ref t1] ++ ts, inner, ⟨by omega, by omega, by omega, hk0⟩, by omega, hc, by omega, e5, hin, by rw [List.length_append, List.length_append, List.length_append, hts]; show xs.length + zs.length + 1 + (s - 1) + inner.length ≤ 50000; omega, fun ys H6 h6 u6 b6 => ?_⟩
        walk_at "rd"
        refine ⟨.inl ⟨rfl, _, SqL.of h6⟩, ?_⟩
        walk_at "rd"
        walk_at "nw"
        intro t3 ht3
        generalize hg : upd H6 t3 _ = H7
        have s7 : Same H6 H7 := by rw [← hg]; exact same_new ht3
        have e7 : H7 t3 = some (.tup [.str "read", .int ff]) := by rw [← hg]; exact upd_same
        clear hg
        have hyl : ys.length = inner.length := u6.length
        refine ⟨l, _, _, rfl, rfl, s7 _ _ h6, sz_lt (by rw [List.length_append, List.length_append, List.length_append, List.length_append, hts]; show xs.length + zs.length + 1 + (s - 1) + ys.length < 100000; omega), ?_⟩
        generalize hg : upd H7 l _ = H8
        have b8 : But l H7 H8 := by rw [← hg]; exact .set
        have e8 : H8 l = some (.lst (xs ++ zs ++ [.ref t1] ++ ts ++ ys ++ [.ref t3])) := by rw [← hg]; exact upd_same
        clear hg
        have l7 := s7 _ _ h6
        have u8 : Paired (IsU H8) (zs ++ [.ref t1] ++ ts ++ ys ++ [.ref t3]) (done ++ [.up o ff] ++ List.replicate (s - 1) (.up ff ff) ++ inner ++ [.read ff]) :=
          Us.app (Us.app (Us.map u5 fun v m h => ((h.but e5 b6).keep s7).but l7 b8) (Us.map u6 fun v m h => (h.keep s7).but l7 b8)) (.cons ((IsU.read t3 ff e7).but l7 b8) .nil)
        walk_at "rd"
        refine ⟨s - 1, by omega, s - 1, zs ++ [.ref t1] ++ ts ++ ys ++ [.ref t3], done ++ [.up o ff] ++ List.replicate (s - 1) (.up ff ff) ++ inner ++ [.read ff], tail, some (.int s), v7, rfl, ?_, by omega, .inr (by omega), ?_, u8, ((b15.trans b6).trans (.of s7)).trans b8, htail, ?_⟩
        · rw [show ((s - 1 : Nat) : Int) = (s : Int) - 1 by omega]
          rfl
        · rw [e8]
          simp only [List.append_assoc]
        · rw [hrest]
          simp only [List.append_assoc, List.cons_append, List.nil_append]
      · have h0 : n' = 0 := by
          have := of_ndec hcnd
          omega
        subst h0
        obtain rfl := hb1.zero
        walk_at "rd"
        rw [List.append_nil] at q
        exact q zs H1 h1 i1 b1
def spMoves : Nat → Nat → Hp → VK → Prop := fun n c H Q => ∀ l zs ms H', Same H H' → H l = none → H' l = some (.lst zs) → Paired (IsU H') zs ms → Best n c 0 1 ms → Q (.ref l) H'
end
end K12

set_option Elab.async false
set_option linter.all false
set_option maxRecDepth 100000
set_option maxHeartbeats 4000000
set_option pp.deepTerms false
set_option pp.deepTerms.threshold 12
namespace K12
open PySem PySem.Spec PyProof.Rows L2
local macro_rules | `(tactic| walk_at "ty") => `(tactic| first | exact .base (.int _) | exact .base (.bl _) | exact .base (.str _) | exact .base .non | assumption | exact .base (.tup (by assumption)) | exact .base (.lst (by assumption)))
local macro_rules | `(tactic| walk_at "cm") => `(tactic| first | exact cm_r (by decide) (by decide) | exact cm_l (by decide) (by decide) | exact cm_fmod (by decide) (by decide) | exact cm_r (by omega) (by omega) | exact cm_l (by omega) (by omega))
local macro_rules | `(tactic| walk_at "dv") => `(tactic| first | exact ⟨by decide, by decide⟩ | exact ⟨by omega, by omega⟩)
local macro_rules | `(tactic| walk_at "r1") => `(tactic| first
  | refine ⟨_, rfl, ?_⟩ | refine ⟨_, _, rfl, rfl, ?_⟩ | refine Or.inl ⟨_, rfl, ?_⟩ | refine Or.inr ⟨_, rfl, ?_⟩
  | refine And.intro (a := CMul _ _) (by walk_at "cm") ?_ | refine And.intro (a := CDivN _ _) (by walk_at "dv") ?_ | refine And.intro (a := _ ≠ (0 : Int)) (by first | decide | omega) ?_ | refine And.intro (a := scal _ _ = true) rfl ?_ | refine ⟨_, _, _, _, rfl, rfl, SqL.of (by first | exact upd_same | assumption), rfl, ?_⟩ | refine ⟨_, _, _, _, rfl, rfl, (by first | exact upd_same | assumption), rfl, ?_⟩ | refine ⟨_, _, rfl, ?_⟩ | refine And.intro (a := (_ : V) = V.non) rfl ?_ | refine And.intro (a := CPow _ _) ⟨by decide, by decide, by decide⟩ ?_ | refine And.intro (a := (_ : List V) = []) rfl ?_ | refine ⟨_, _, rfl, SqT.of (by first | exact upd_same | assumption), rfl, ?_⟩
  | refine ⟨_, _, _, _, rfl, rfl, SqT.of (by first | exact upd_same | assumption), rfl, ?_⟩
  | refine ⟨_, _, _, _, true, rfl, ClsV.ty _, (by walk_at "ty"), kit_ty (by decide +kernel), ?_⟩ | refine ⟨_, _, _, _, false, rfl, ClsV.ty _, (by walk_at "ty"), kit_ty (by decide +kernel), ?_⟩)
local macro_rules | `(tactic| walk_at "rd") => `(tactic| repeat walk_at "r1")
local macro_rules | `(tactic| walk_at "yes") => `(tactic| (change (if true = true then _ else _); rw [if_pos rfl]))
local macro_rules | `(tactic| walk_at "no") => `(tactic| (change (if false = true then _ else _); rw [if_neg Bool.false_ne_true]))
local macro_rules | `(tactic| walk_at "nw") => `(tactic| refine And.intro (a := _ ≤ sizeLine) (sz_le (Nat.le_of_ble_eq_true rfl)) ?_)

section
variable {P : Program} {w : World} {K : PySem.W.Frag} {mg : Str → Option Value} {base : Heap}
variable {C_VaultError C_TooMany C_NumberError C_BadPrime C_NoInverse C_NoNumber C_BadTable C_BadCells C_TextError C_ShapeError C_PlanError C_CourseError C_KnowError C_PaperError C_BadStep C_BadBlind C_BadMove C_NotShut C_NotOpen C_NotTheft C_NotPrice fV fI_BadMove fI_BadCells : Addr}
variable (T : Txt P K mg C_VaultError C_TooMany C_NumberError C_BadPrime C_NoInverse C_NoNumber C_BadTable C_BadCells C_TextError C_ShapeError C_PlanError C_CourseError C_KnowError C_PaperError C_BadStep C_BadBlind C_BadMove C_NotShut C_NotOpen C_NotTheft C_NotPrice fV fI_BadMove fI_BadCells)
include T
omit T in
theorem Best.ex : ∀ (N n : Nat), n ≤ N → ∀ (c : Nat) (o f : Int), ∃ ms, Best n c o f ms
  | 0, n, h, c, o, f => by
    obtain rfl : n = 0 := by omega
    exact ⟨[], .nil c o f⟩
  | N + 1, n, h, c, o, f => by
    by_cases h0 : n = 0
    · subst h0
      exact ⟨[], .nil c o f⟩
    · obtain ⟨s, hs⟩ := stop_ex (n := n) (c := c) (by omega)
      have lo := hs.lo
      have hi := hs.hi
      obtain ⟨ys, hy⟩ := Best.ex N (s - 1) (by omega) c o f
      cases c with
      | zero => exact ⟨_, .last n s o f ys hs hy⟩
      | succ c =>
        obtain ⟨xs, hx⟩ := Best.ex N (n - s) (by omega) c f (f + 1)
        exact ⟨_, .more n c s o f xs ys hs hx hy⟩
omit T in
theorem Best.len {n c : Nat} {o f : Int} {ms : List Mv} (x : Best n c o f ms) : (ms.length : Int) = M11.T n (c + 1) + n := by
  induction x with
  | nil c o f =>
    rw [M11.T_0]
    rfl
  | last n s o f ys h bb ih =>
    have lo := h.lo
    have hi := h.hi
    obtain rfl : s = n := h.uniq (M11.stop_1 (by omega))
    have z := h.at_
    unfold M11.sm at z
    rw [if_pos rfl, if_neg (Nat.lt_irrefl s)] at z
    have z := Option.some.inj z
    rw [List.length_cons, List.length_append, List.length_replicate, List.length_cons]
    have ih : (ys.length : Int) = M11.T (s - 1) 1 + ((s - 1 : Nat) : Int) := ih
    show _ = M11.T s 1 + (s : Int)
    have z : (s : Int) + M11.T (s - 1) 1 = M11.T s 1 := z
    omega
  | more n k s o f xs ys h aa bb iha ihb =>
    have lo := h.lo
    have hi := h.hi
    have z := h.at_
    unfold M11.sm at z
    rw [if_neg (Nat.succ_ne_zero k)] at z
    have z := Option.some.inj z
    rw [List.length_cons, List.length_append, List.length_replicate, List.length_append, List.length_cons]
    omega
omit T in
theorem T_small {n c : Nat} (hn : n ≤ 120) : M11.T n (c + 1) ≤ 14520 := by
  obtain ⟨r, hr, e⟩ := M11.T_is n c
  have hle := hr.le
  rw [e]
  unfold M11.S
  have h1 : (r : Int) * ((n : Int) + 1) ≤ 120 * 121 := Int.mul_le_mul (by omega) (by omega) (by omega) (by omega)
  omega
theorem ok_move_list {f : Addr} {fd : FuncData} (F : Fun K "move_list" "move_list" s_move_list f fd) {f_need_cells : Addr} {fd_need_cells : FuncData} (D_need_cells : Def K mg "need_cells" s_need_cells p_need_cells f_need_cells fd_need_cells) (G_need_cells : FnOk P w K mg base (L2N.CX P w) 3 f_need_cells fd_need_cells p_need_cells (spNeed C_BadCells)) {f_write_moves : Addr} {fd_write_moves : FuncData} (D_write_moves : Def K mg "_write_moves" s_write_moves p_write_moves f_write_moves fd_write_moves) (G_write_moves : FnOk P w K mg base (L2N.CX P w) 130 f_write_moves fd_write_moves p_write_moves (spWr 124)) : FnOk P w K mg base (L2N.CX P w) 131 f fd p_move_list (spR C_BadCells spMoves) := by
  refine F.okN sc_move_list (fun vs H Q E h => ?_) (fun cdv A outer s H vs Q E hr h => ?_)
  · obtain ⟨a, b, rfl, _⟩ := h
    rfl
  · obtain ⟨a, b, rfl, q⟩ := h
    have tk := L2N.takes_of (X := cxOf (L2N.CX P w) P w K mg base N_move_list "move_list" (defScope s_move_list) f cdv A outer s H E) rfl rfl rfl rfl
    refine ⟨_, (pss_cons (ps_expr (pe_callS G_need_cells (hr.mono (by first | decide | omega)) rfl D_need_cells.g D_need_cells.fn.kp D_need_cells.b (fun σ => L2N.passAt tk σ) (pa_cons (pv 1) pa_nil)))
      (pss_cons (ps_set (i := 2) sc_move_list.nd rfl (Or.inl rfl) (by exact (pe_lst pa_nil)))
      (pss_cons (ps_expr (pe_callS G_write_moves (hr.mono (by first | decide | omega)) rfl D_write_moves.g D_write_moves.fn.kp D_write_moves.b (fun σ => L2N.passAt tk σ) (pa_cons (pv 0) (pa_cons pe_int (pa_cons pe_int (pa_cons (pv 1) (pa_cons (pv 2) pa_nil)))))))
      (pss_one (ps_ret (by exact (pv 2))))))), ?_⟩
    walk_at "rd"
    rcases q with ⟨n', c', ⟨rfl, rfl⟩, hn, hc, q⟩ | ⟨h, q⟩
    · refine .inl ⟨_, rfl, by omega, ?_⟩
      walk_at "rd"
      walk_at "nw"
      intro l hl
      walk_at "rd"
      obtain ⟨ms, hb⟩ := Best.ex n' n' (Nat.le_refl _) c' 0 1
      have hlen := hb.len
      have hT := T_small (c := c') hn
      refine ⟨_, _, _, _, _, rfl, n', c' + 1, [], ms, ⟨rfl, by omega, by show c' + 1 ≤ 123; omega, .inr (by omega)⟩, hn, by omega, by omega, upd_same, hb, by show 0 + ms.length ≤ 50000; omega, fun ys H1 h1 u1 b1 => ?_⟩
      walk_at "rd"
      refine q l ys ms H1 (fun b o e => b1 b o (fun z => by rw [z, hl] at e; cases e) (same_new hl b o e)) hl ?_ u1 hb
      rw [h1, List.nil_append]
    · exact .inr ⟨h, q⟩
end
end K12

set_option Elab.async false
set_option linter.all false
set_option maxRecDepth 100000
set_option maxHeartbeats 4000000
set_option pp.deepTerms false
set_option pp.deepTerms.threshold 12
namespace K12
open PySem PySem.Spec PyProof.Rows L2
local macro_rules | `(tactic| walk_at "ty") => `(tactic| first | exact .base (.int _) | exact .base (.bl _) | exact .base (.str _) | exact .base .non | assumption | exact .base (.tup (by assumption)) | exact .base (.lst (by assumption)))
local macro_rules | `(tactic| walk_at "cm") => `(tactic| first | exact cm_r (by decide) (by decide) | exact cm_l (by decide) (by decide) | exact cm_fmod (by decide) (by decide) | exact cm_r (by omega) (by omega) | exact cm_l (by omega) (by omega))
local macro_rules | `(tactic| walk_at "dv") => `(tactic| first | exact ⟨by decide, by decide⟩ | exact ⟨by omega, by omega⟩)
local macro_rules | `(tactic| walk_at "r1") => `(tactic| first
  | refine ⟨_, rfl, ?_⟩ | refine ⟨_, _, rfl, rfl, ?_⟩ | refine Or.inl ⟨_, rfl, ?_⟩ | refine Or.inr ⟨_, rfl, ?_⟩
  | refine And.intro (a := CMul _ _) (by walk_at "cm") ?_ | refine And.intro (a := CDivN _ _) (by walk_at "dv") ?_ | refine And.intro (a := _ ≠ (0 : Int)) (by first | decide | omega) ?_ | refine And.intro (a := scal _ _ = true) rfl ?_ | refine ⟨_, _, _, _, rfl, rfl, SqL.of (by first | exact upd_same | assumption), rfl, ?_⟩ | refine ⟨_, _, _, _, rfl, rfl, (by first | exact upd_same | assumption), rfl, ?_⟩ | refine ⟨_, _, rfl, ?_⟩ | refine And.intro (a := (_ : V) = V.non) rfl ?_ | refine And.intro (a := CPow _ _) ⟨by decide, by decide, by decide⟩ ?_ | refine And.intro (a := (_ : List V) = []) rfl ?_ | refine ⟨_, _, rfl, SqT.of (by first | exact upd_same | assumption), rfl, ?_⟩
  | refine ⟨_, _, _, _, rfl, rfl, SqT.of (by first | exact upd_same | assumption), rfl, ?_⟩
  | refine ⟨_, _, _, _, true, rfl, ClsV.ty _, (by walk_at "ty"), kit_ty (by decide +kernel), ?_⟩ | refine ⟨_, _, _, _, false, rfl, ClsV.ty _, (by walk_at "ty"), kit_ty (by decide +kernel), ?_⟩)
local macro_rules | `(tactic| walk_at "rd") => `(tactic| repeat walk_at "r1")
local macro_rules | `(tactic| walk_at "yes") => `(tactic| (change (if true = true then _ else _); rw [if_pos rfl]))
local macro_rules | `(tactic| walk_at "no") => `(tactic| (change (if false = true then _ else _); rw [if_neg Bool.false_ne_true]))
local macro_rules | `(tactic| walk_at "nw") => `(tactic| refine And.intro (a := _ ≤ sizeLine) (sz_le (Nat.le_of_ble_eq_true rfl)) ?_)

section
variable {P : Program} {w : World} {K : PySem.W.Frag} {mg : Str → Option Value} {base : Heap}
variable {C_VaultError C_TooMany C_NumberError C_BadPrime C_NoInverse C_NoNumber C_BadTable C_BadCells C_TextError C_ShapeError C_PlanError C_CourseError C_KnowError C_PaperError C_BadStep C_BadBlind C_BadMove C_NotShut C_NotOpen C_NotTheft C_NotPrice fV fI_BadMove fI_BadCells : Addr}
variable (T : Txt P K mg C_VaultError C_TooMany C_NumberError C_BadPrime C_NoInverse C_NoNumber C_BadTable C_BadCells C_TextError C_ShapeError C_PlanError C_CourseError C_KnowError C_PaperError C_BadStep C_BadBlind C_BadMove C_NotShut C_NotOpen C_NotTheft C_NotPrice fV fI_BadMove fI_BadCells)
include T
open L2H
def spSameE : Addr × Obj → Sp := fun _ vs H Q _ => ∃ z : Str, vs = [.str z, .str z] ∧ Q (.bl true) H
theorem okE_same {f : Addr} {fd : FuncData} (F : Fun K "_law_same" "_law_same" s_same f fd) : FnE P w K mg base 1 f fd p_same spSameE := by
  refine F.okE sc_same (fun p vs H Q E h => ?_) (fun cdv A outer s H vs Q E p hot hr h => ?_)
  · obtain ⟨z, rfl, _⟩ := h
    rfl
  · obtain ⟨z, rfl, q⟩ := h
    refine ⟨_, (pss_cons (ps_if (PW.pt (pw_or (pt_cmpR op_isN (pv 0) pe_non (nomark _)) (pw_or1 (pt_cmpR op_isN (pv 1) pe_non (nomark _))))) (pss_one (ps_ret (by exact (pe_and (pe_cmpR op_isN (pv 0) pe_non (nomark _)) (pe_one (pe_cmpR op_isN (pv 1) pe_non (nomark _))))))) pss_nil)
      (pss_cons (ps_if (PW.pt (pw_or (pt_val (pe_callB call_isi (by rfl) T.b_isinstance (by first | exact PySem.boot_isinstance | decide +kernel) (pa_cons (pv 0) (pa_cons (pe_bltn (v := .ty "bool") (by rfl) T.b_bool (by first | exact PySem.boot_bool | decide +kernel) rfl) pa_nil)))) (pw_or1 (pt_val (pe_callB call_isi (by rfl) T.b_isinstance (by first | exact PySem.boot_isinstance | decide +kernel) (pa_cons (pv 1) (pa_cons (pe_bltn (v := .ty "bool") (by rfl) T.b_bool (by first | exact PySem.boot_bool | decide +kernel) rfl) pa_nil))))))) (pss_one (ps_ret (by exact (pe_and (pe_callB call_isi (by rfl) T.b_isinstance (by first | exact PySem.boot_isinstance | decide +kernel) (pa_cons (pv 0) (pa_cons (pe_bltn (v := .ty "bool") (by rfl) T.b_bool (by first | exact PySem.boot_bool | decide +kernel) rfl) pa_nil))) (pe_and (pe_callB call_isi (by rfl) T.b_isinstance (by first | exact PySem.boot_isinstance | decide +kernel) (pa_cons (pv 1) (pa_cons (pe_bltn (v := .ty "bool") (by rfl) T.b_bool (by first | exact PySem.boot_bool | decide +kernel) rfl) pa_nil))) (pe_one (pe_cmpR op_eq (pv 0) (pv 1) (nomark _)))))))) pss_nil)
      (pss_cons (ps_if (PW.pt (pw_or (pt_val (pe_callB call_isi (by rfl) T.b_isinstance (by first | exact PySem.boot_isinstance | decide +kernel) (pa_cons (pv 0) (pa_cons (pe_bltn (v := .ty "int") (by rfl) T.b_int (by first | exact PySem.boot_int | decide +kernel) rfl) pa_nil)))) (pw_or1 (pt_val (pe_callB call_isi (by rfl) T.b_isinstance (by first | exact PySem.boot_isinstance | decide +kernel) (pa_cons (pv 1) (pa_cons (pe_bltn (v := .ty "int") (by rfl) T.b_int (by first | exact PySem.boot_int | decide +kernel) rfl) pa_nil))))))) (pss_one (ps_ret (by exact (pe_and (pe_callB call_isi (by rfl) T.b_isinstance (by first | exact PySem.boot_isinstance | decide +kernel) (pa_cons (pv 0) (pa_cons (pe_bltn (v := .ty "int") (by rfl) T.b_int (by first | exact PySem.boot_int | decide +kernel) rfl) pa_nil))) (pe_and (pe_callB call_isi (by rfl) T.b_isinstance (by first | exact PySem.boot_isinstance | decide +kernel) (pa_cons (pv 1) (pa_cons (pe_bltn (v := .ty "int") (by rfl) T.b_int (by first | exact PySem.boot_int | decide +kernel) rfl) pa_nil))) (pe_one (pe_cmpR op_eq (pv 0) (pv 1) (nomark _)))))))) pss_nil)
      (pss_cut (ps_if (PW.pt (pw_or (pt_val (pe_callB call_isi (by rfl) T.b_isinstance (by first | exact PySem.boot_isinstance | decide +kernel) (pa_cons (pv 0) (pa_cons (pe_bltn (v := .ty "str") (by rfl) T.b_str (by first | exact PySem.boot_str | decide +kernel) rfl) pa_nil)))) (pw_or1 (pt_val (pe_callB call_isi (by rfl) T.b_isinstance (by first | exact PySem.boot_isinstance | decide +kernel) (pa_cons (pv 1) (pa_cons (pe_bltn (v := .ty "str") (by rfl) T.b_str (by first | exact PySem.boot_str | decide +kernel) rfl) pa_nil))))))) (pss_one (ps_ret (by exact (pe_and (pe_callB call_isi (by rfl) T.b_isinstance (by first | exact PySem.boot_isinstance | decide +kernel) (pa_cons (pv 0) (pa_cons (pe_bltn (v := .ty "str") (by rfl) T.b_str (by first | exact PySem.boot_str | decide +kernel) rfl) pa_nil))) (pe_and (pe_callB call_isi (by rfl) T.b_isinstance (by first | exact PySem.boot_isinstance | decide +kernel) (pa_cons (pv 1) (pa_cons (pe_bltn (v := .ty "str") (by rfl) T.b_str (by first | exact PySem.boot_str | decide +kernel) rfl) pa_nil))) (pe_one (pe_cmpR op_eq (pv 0) (pv 1) (nomark _)))))))) pss_nil))))), ?_⟩
    walk_at "rd"
    rw [decide_eq_true rfl]
    exact q
/-- the handled exception: of the class at C, with the one field's value v -/
def IsX (C d : Addr) (nm fl : Str) (p : Addr × Obj) (H : Hp) (v : V) : Prop := ExP C d p ∧ H d = some (.xd (excD [fl] nm [v]))
def spKinds (C : Addr) (nm fl bs wd : Str) : Addr × Obj → Sp := fun p vs H Q _ => ∃ (d : Addr) (v : V), vs = [.ref p.1] ∧ IsX C d nm fl p H v ∧ ∀ l H', Same H H' → H' l = some (.lst [.str bs, .str wd]) → Q (.ref l) H'
def spClean (C : Addr) (nm fl bs wd : Str) : Addr × Obj → Sp := fun p vs H Q _ => ∃ (d : Addr) (v : V), vs = [.ref p.1, .str bs, .str wd] ∧ IsX C d nm fl p H v ∧ ∀ H', Same H H' → Q (.bl true) H'
def spRefusal (C : Addr) (nm fl wd : Str) : Addr × Obj → Sp := fun p vs H Q _ => ∃ (d : Addr) (v : V), vs = [.ref p.1] ∧ IsX C d nm fl p H v ∧ ∀ t H', Same H H' → H' t = some (.tup [.str wd, v]) → Q (.ref t) H'
def kRows_BadMove : List (Str × Bool) := [("numbererror", false), ("texterror", false), ("shapeerror", false), ("planerror", false), ("courseerror", false), ("knowerror", false), ("papererror", true), ("toomany", false), ("badprime", false), ("noinverse", false), ("nonumber", false), ("badtable", false), ("badcells", false), ("badstep", false), ("badblind", false), ("badmove", true), ("notshut", false), ("notopen", false), ("nottheft", false), ("notprice", false)]
theorem ok_kinds_BadMove {f : Addr} {fd : FuncData} (F : Fun K "_law_kinds" "_law_kinds" s_kinds f fd) : FnE P w K mg base 2 f fd p_kinds (spKinds C_BadMove "BadMove" "at" "papererror" "badmove") := by
  refine F.okE sc_kinds (fun p vs H Q E h => ?_) (fun cdv A outer s H vs Q E p hot hr h => ?_)
  · obtain ⟨d, v, rfl, _⟩ := h
    rfl
  · obtain ⟨d, v, rfl, ⟨z, hd⟩, q⟩ := h
    have hp : p ∈ [p] := List.mem_singleton.mpr rfl
    have kC := T.lf_BadMove.kind
    refine ⟨_, (pss_cons (ps_set (i := 1) sc_kinds.nd rfl (Or.inl rfl) (by exact (pe_lst (pa_cons (pe_tup (pa_cons pe_str (pa_cons (pe_callB (call_isP hp kC z) (by rfl) T.b_isinstance (by first | exact PySem.boot_isinstance | decide +kernel) (pa_cons (pv 0) (pa_cons (pe_glob (v := .ref C_NumberError) rfl T.g_NumberError rfl) pa_nil))) pa_nil))) (pa_cons (pe_tup (pa_cons pe_str (pa_cons (pe_callB (call_isP hp kC z) (by rfl) T.b_isinstance (by first | exact PySem.boot_isinstance | decide +kernel) (pa_cons (pv 0) (pa_cons (pe_glob (v := .ref C_TextError) rfl T.g_TextError rfl) pa_nil))) pa_nil))) (pa_cons (pe_tup (pa_cons pe_str (pa_cons (pe_callB (call_isP hp kC z) (by rfl) T.b_isinstance (by first | exact PySem.boot_isinstance | decide +kernel) (pa_cons (pv 0) (pa_cons (pe_glob (v := .ref C_ShapeError) rfl T.g_ShapeError rfl) pa_nil))) pa_nil))) (pa_cons (pe_tup (pa_cons pe_str (pa_cons (pe_callB (call_isP hp kC z) (by rfl) T.b_isinstance (by first | exact PySem.boot_isinstance | decide +kernel) (pa_cons (pv 0) (pa_cons (pe_glob (v := .ref C_PlanError) rfl T.g_PlanError rfl) pa_nil))) pa_nil))) (pa_cons (pe_tup (pa_cons pe_str (pa_cons (pe_callB (call_isP hp kC z) (by rfl) T.b_isinstance (by first | exact PySem.boot_isinstance | decide +kernel) (pa_cons (pv 0) (pa_cons (pe_glob (v := .ref C_CourseError) rfl T.g_CourseError rfl) pa_nil))) pa_nil))) (pa_cons (pe_tup (pa_cons pe_str (pa_cons (pe_callB (call_isP hp kC z) (by rfl) T.b_isinstance (by first | exact PySem.boot_isinstance | decide +kernel) (pa_cons (pv 0) (pa_cons (pe_glob (v := .ref C_KnowError) rfl T.g_KnowError rfl) pa_nil))) pa_nil))) (pa_cons (pe_tup (pa_cons pe_str (pa_cons (pe_callB (call_isP hp kC z) (by rfl) T.b_isinstance (by first | exact PySem.boot_isinstance | decide +kernel) (pa_cons (pv 0) (pa_cons (pe_glob (v := .ref C_PaperError) rfl T.g_PaperError rfl) pa_nil))) pa_nil))) (pa_cons (pe_tup (pa_cons pe_str (pa_cons (pe_callB (call_isP hp kC z) (by rfl) T.b_isinstance (by first | exact PySem.boot_isinstance | decide +kernel) (pa_cons (pv 0) (pa_cons (pe_glob (v := .ref C_TooMany) rfl T.g_TooMany rfl) pa_nil))) pa_nil))) (pa_cons (pe_tup (pa_cons pe_str (pa_cons (pe_callB (call_isP hp kC z) (by rfl) T.b_isinstance (by first | exact PySem.boot_isinstance | decide +kernel) (pa_cons (pv 0) (pa_cons (pe_glob (v := .ref C_BadPrime) rfl T.g_BadPrime rfl) pa_nil))) pa_nil))) (pa_cons (pe_tup (pa_cons pe_str (pa_cons (pe_callB (call_isP hp kC z) (by rfl) T.b_isinstance (by first | exact PySem.boot_isinstance | decide +kernel) (pa_cons (pv 0) (pa_cons (pe_glob (v := .ref C_NoInverse) rfl T.g_NoInverse rfl) pa_nil))) pa_nil))) (pa_cons (pe_tup (pa_cons pe_str (pa_cons (pe_callB (call_isP hp kC z) (by rfl) T.b_isinstance (by first | exact PySem.boot_isinstance | decide +kernel) (pa_cons (pv 0) (pa_cons (pe_glob (v := .ref C_NoNumber) rfl T.g_NoNumber rfl) pa_nil))) pa_nil))) (pa_cons (pe_tup (pa_cons pe_str (pa_cons (pe_callB (call_isP hp kC z) (by rfl) T.b_isinstance (by first | exact PySem.boot_isinstance | decide +kernel) (pa_cons (pv 0) (pa_cons (pe_glob (v := .ref C_BadTable) rfl T.g_BadTable rfl) pa_nil))) pa_nil))) (pa_cons (pe_tup (pa_cons pe_str (pa_cons (pe_callB (call_isP hp kC z) (by rfl) T.b_isinstance (by first | exact PySem.boot_isinstance | decide +kernel) (pa_cons (pv 0) (pa_cons (pe_glob (v := .ref C_BadCells) rfl T.g_BadCells rfl) pa_nil))) pa_nil))) (pa_cons (pe_tup (pa_cons pe_str (pa_cons (pe_callB (call_isP hp kC z) (by rfl) T.b_isinstance (by first | exact PySem.boot_isinstance | decide +kernel) (pa_cons (pv 0) (pa_cons (pe_glob (v := .ref C_BadStep) rfl T.g_BadStep rfl) pa_nil))) pa_nil))) (pa_cons (pe_tup (pa_cons pe_str (pa_cons (pe_callB (call_isP hp kC z) (by rfl) T.b_isinstance (by first | exact PySem.boot_isinstance | decide +kernel) (pa_cons (pv 0) (pa_cons (pe_glob (v := .ref C_BadBlind) rfl T.g_BadBlind rfl) pa_nil))) pa_nil))) (pa_cons (pe_tup (pa_cons pe_str (pa_cons (pe_callB (call_isP hp kC z) (by rfl) T.b_isinstance (by first | exact PySem.boot_isinstance | decide +kernel) (pa_cons (pv 0) (pa_cons (pe_glob (v := .ref C_BadMove) rfl T.g_BadMove rfl) pa_nil))) pa_nil))) (pa_cons (pe_tup (pa_cons pe_str (pa_cons (pe_callB (call_isP hp kC z) (by rfl) T.b_isinstance (by first | exact PySem.boot_isinstance | decide +kernel) (pa_cons (pv 0) (pa_cons (pe_glob (v := .ref C_NotShut) rfl T.g_NotShut rfl) pa_nil))) pa_nil))) (pa_cons (pe_tup (pa_cons pe_str (pa_cons (pe_callB (call_isP hp kC z) (by rfl) T.b_isinstance (by first | exact PySem.boot_isinstance | decide +kernel) (pa_cons (pv 0) (pa_cons (pe_glob (v := .ref C_NotOpen) rfl T.g_NotOpen rfl) pa_nil))) pa_nil))) (pa_cons (pe_tup (pa_cons pe_str (pa_cons (pe_callB (call_isP hp kC z) (by rfl) T.b_isinstance (by first | exact PySem.boot_isinstance | decide +kernel) (pa_cons (pv 0) (pa_cons (pe_glob (v := .ref C_NotTheft) rfl T.g_NotTheft rfl) pa_nil))) pa_nil))) (pa_cons (pe_tup (pa_cons pe_str (pa_cons (pe_callB (call_isP hp kC z) (by rfl) T.b_isinstance (by first | exact PySem.boot_isinstance | decide +kernel) (pa_cons (pv 0) (pa_cons (pe_glob (v := .ref C_NotPrice) rfl T.g_NotPrice rfl) pa_nil))) pa_nil))) pa_nil)))))))))))))))))))))))
      (pss_one (ps_ret (by exact (pe_lcE (own := [("row", 2)]) (g := gName 2) hot hp sc_kinds.nd (pv 1) (blkOk_by (own := [("row", 2)]) (N := N_kinds) (sc := defScope s_kinds) (by decide +kernel)) (fun _ _ _ _ _ => pg_name (i := 2) sc_kinds.nd rfl (Or.inl rfl)) (fun _ _ _ _ _ => (pts_one (pt_val (pe_ix (show IxR _ (rIxT K) from ix_tup) (pv 2) pe_int (fun _ _ => rfl))))) (fun _ _ _ _ _ => (pe_ix (show IxR _ (rIxT K) from ix_tup) (pv 2) pe_int (fun _ _ => rfl)))))))), ?_⟩
    walk_at "rd"
    refine ⟨_, _, false, _, rfl, fun _ h => h, T.k_BadMove_NumberError, hd, ?_⟩
    walk_at "rd"
    walk_at "nw"
    intro t1 h1
    generalize hg1 : upd H t1 _ = H1
    have s1 : Same H H1 := by rw [← hg1]; exact same_new h1
    have e1 : H1 t1 = some (.tup [.str "numbererror", .bl false]) := by rw [← hg1]; exact upd_same
    have sd1 : Same H H1 := s1
    walk_at "rd"
    refine ⟨_, _, false, _, rfl, fun _ h => h, T.k_BadMove_TextError, sd1 _ _ hd, ?_⟩
    walk_at "rd"
    walk_at "nw"
    intro t2 h2
    generalize hg2 : upd H1 t2 _ = H2
    have s2 : Same H1 H2 := by rw [← hg2]; exact same_new h2
    have e2 : H2 t2 = some (.tup [.str "texterror", .bl false]) := by rw [← hg2]; exact upd_same
    have sd2 : Same H H2 := sd1.trans s2
    walk_at "rd"
    refine ⟨_, _, false, _, rfl, fun _ h => h, T.k_BadMove_ShapeError, sd2 _ _ hd, ?_⟩
    walk_at "rd"
    walk_at "nw"
    intro t3 h3
    generalize hg3 : upd H2 t3 _ = H3
    have s3 : Same H2 H3 := by rw [← hg3]; exact same_new h3
    have e3 : H3 t3 = some (.tup [.str "shapeerror", .bl false]) := by rw [← hg3]; exact upd_same
    have sd3 : Same H H3 := sd2.trans s3
    walk_at "rd"
    refine ⟨_, _, false, _, rfl, fun _ h => h, T.k_BadMove_PlanError, sd3 _ _ hd, ?_⟩
    walk_at "rd"
    walk_at "nw"
    intro t4 h4
    generalize hg4 : upd H3 t4 _ = H4
    have s4 : Same H3 H4 := by rw [← hg4]; exact same_new h4
    have e4 : H4 t4 = some (.tup [.str "planerror", .bl false]) := by rw [← hg4]; exact upd_same
    have sd4 : Same H H4 := sd3.trans s4
    walk_at "rd"
    refine ⟨_, _, false, _, rfl, fun _ h => h, T.k_BadMove_CourseError, sd4 _ _ hd, ?_⟩
    walk_at "rd"
    walk_at "nw"
    intro t5 h5
    generalize hg5 : upd H4 t5 _ = H5
    have s5 : Same H4 H5 := by rw [← hg5]; exact same_new h5
    have e5 : H5 t5 = some (.tup [.str "courseerror", .bl false]) := by rw [← hg5]; exact upd_same
    have sd5 : Same H H5 := sd4.trans s5
    walk_at "rd"
    refine ⟨_, _, false, _, rfl, fun _ h => h, T.k_BadMove_KnowError, sd5 _ _ hd, ?_⟩
    walk_at "rd"
    walk_at "nw"
    intro t6 h6
    generalize hg6 : upd H5 t6 _ = H6
    have s6 : Same H5 H6 := by rw [← hg6]; exact same_new h6
    have e6 : H6 t6 = some (.tup [.str "knowerror", .bl false]) := by rw [← hg6]; exact upd_same
    have sd6 : Same H H6 := sd5.trans s6
    walk_at "rd"
    refine ⟨_, _, true, _, rfl, fun _ h => h, T.k_BadMove_PaperError, sd6 _ _ hd, ?_⟩
    walk_at "rd"
    walk_at "nw"
    intro t7 h7
    generalize hg7 : upd H6 t7 _ = H7
    have s7 : Same H6 H7 := by rw [← hg7]; exact same_new h7
    have e7 : H7 t7 = some (.tup [.str "papererror", .bl true]) := by rw [← hg7]; exact upd_same
    have sd7 : Same H H7 := sd6.trans s7
    walk_at "rd"
    refine ⟨_, _, false, _, rfl, fun _ h => h, T.k_BadMove_TooMany, sd7 _ _ hd, ?_⟩
    walk_at "rd"
    walk_at "nw"
    intro t8 h8
    generalize hg8 : upd H7 t8 _ = H8
    have s8 : Same H7 H8 := by rw [← hg8]; exact same_new h8
    have e8 : H8 t8 = some (.tup [.str "toomany", .bl false]) := by rw [← hg8]; exact upd_same
    have sd8 : Same H H8 := sd7.trans s8
    walk_at "rd"
    refine ⟨_, _, false, _, rfl, fun _ h => h, T.k_BadMove_BadPrime, sd8 _ _ hd, ?_⟩
    walk_at "rd"
    walk_at "nw"
    intro t9 h9
    generalize hg9 : upd H8 t9 _ = H9
    have s9 : Same H8 H9 := by rw [← hg9]; exact same_new h9
    have e9 : H9 t9 = some (.tup [.str "badprime", .bl false]) := by rw [← hg9]; exact upd_same
    have sd9 : Same H H9 := sd8.trans s9
    walk_at "rd"
    refine ⟨_, _, false, _, rfl, fun _ h => h, T.k_BadMove_NoInverse, sd9 _ _ hd, ?_⟩
    walk_at "rd"
    walk_at "nw"
    intro t10 h10
    generalize hg10 : upd H9 t10 _ = H10
    have s10 : Same H9 H10 := by rw [← hg10]; exact same_new h10
    have e10 : H10 t10 = some (.tup [.str "noinverse", .bl false]) := by rw [← hg10]; exact upd_same
    have sd10 : Same H H10 := sd9.trans s10
    walk_at "rd"
    refine ⟨_, _, false, _, rfl, fun _ h => h, T.k_BadMove_NoNumber, sd10 _ _ hd, ?_⟩
    walk_at "rd"
    walk_at "nw"
    intro t11 h11
    generalize hg11 : upd H10 t11 _ = H11
    have s11 : Same H10 H11 := by rw [← hg11]; exact same_new h11
    have e11 : H11 t11 = some (.tup [.str "nonumber", .bl false]) := by rw [← hg11]; exact upd_same
    have sd11 : Same H H11 := sd10.trans s11
    walk_at "rd"
    refine ⟨_, _, false, _, rfl, fun _ h => h, T.k_BadMove_BadTable, sd11 _ _ hd, ?_⟩
    walk_at "rd"
    walk_at "nw"
    intro t12 h12
    generalize hg12 : upd H11 t12 _ = H12
    have s12 : Same H11 H12 := by rw [← hg12]; exact same_new h12
    have e12 : H12 t12 = some (.tup [.str "badtable", .bl false]) := by rw [← hg12]; exact upd_same
    have sd12 : Same H H12 := sd11.trans s12
    walk_at "rd"
    refine ⟨_, _, false, _, rfl, fun _ h => h, T.k_BadMove_BadCells, sd12 _ _ hd, ?_⟩
    walk_at "rd"
    walk_at "nw"
    intro t13 h13
    generalize hg13 : upd H12 t13 _ = H13
    have s13 : Same H12 H13 := by rw [← hg13]; exact same_new h13
    have e13 : H13 t13 = some (.tup [.str "badcells", .bl false]) := by rw [← hg13]; exact upd_same
    have sd13 : Same H H13 := sd12.trans s13
    walk_at "rd"
    refine ⟨_, _, false, _, rfl, fun _ h => h, T.k_BadMove_BadStep, sd13 _ _ hd, ?_⟩
    walk_at "rd"
    walk_at "nw"
    intro t14 h14
    generalize hg14 : upd H13 t14 _ = H14
    have s14 : Same H13 H14 := by rw [← hg14]; exact same_new h14
    have e14 : H14 t14 = some (.tup [.str "badstep", .bl false]) := by rw [← hg14]; exact upd_same
    have sd14 : Same H H14 := sd13.trans s14
    walk_at "rd"
    refine ⟨_, _, false, _, rfl, fun _ h => h, T.k_BadMove_BadBlind, sd14 _ _ hd, ?_⟩
    walk_at "rd"
    walk_at "nw"
    intro t15 h15
    generalize hg15 : upd H14 t15 _ = H15
    have s15 : Same H14 H15 := by rw [← hg15]; exact same_new h15
    have e15 : H15 t15 = some (.tup [.str "badblind", .bl false]) := by rw [← hg15]; exact upd_same
    have sd15 : Same H H15 := sd14.trans s15
    walk_at "rd"
    refine ⟨_, _, true, _, rfl, fun _ h => h, T.k_BadMove_BadMove, sd15 _ _ hd, ?_⟩
    walk_at "rd"
    walk_at "nw"
    intro t16 h16
    generalize hg16 : upd H15 t16 _ = H16
    have s16 : Same H15 H16 := by rw [← hg16]; exact same_new h16
    have e16 : H16 t16 = some (.tup [.str "badmove", .bl true]) := by rw [← hg16]; exact upd_same
    have sd16 : Same H H16 := sd15.trans s16
    walk_at "rd"
    refine ⟨_, _, false, _, rfl, fun _ h => h, T.k_BadMove_NotShut, sd16 _ _ hd, ?_⟩
    walk_at "rd"
    walk_at "nw"
    intro t17 h17
    generalize hg17 : upd H16 t17 _ = H17
    have s17 : Same H16 H17 := by rw [← hg17]; exact same_new h17
    have e17 : H17 t17 = some (.tup [.str "notshut", .bl false]) := by rw [← hg17]; exact upd_same
    have sd17 : Same H H17 := sd16.trans s17
    walk_at "rd"
    refine ⟨_, _, false, _, rfl, fun _ h => h, T.k_BadMove_NotOpen, sd17 _ _ hd, ?_⟩
    walk_at "rd"
    walk_at "nw"
    intro t18 h18
    generalize hg18 : upd H17 t18 _ = H18
    have s18 : Same H17 H18 := by rw [← hg18]; exact same_new h18
    have e18 : H18 t18 = some (.tup [.str "notopen", .bl false]) := by rw [← hg18]; exact upd_same
    have sd18 : Same H H18 := sd17.trans s18
    walk_at "rd"
    refine ⟨_, _, false, _, rfl, fun _ h => h, T.k_BadMove_NotTheft, sd18 _ _ hd, ?_⟩
    walk_at "rd"
    walk_at "nw"
    intro t19 h19
    generalize hg19 : upd H18 t19 _ = H19
    have s19 : Same H18 H19 := by rw [← hg19]; exact same_new h19
    have e19 : H19 t19 = some (.tup [.str "nottheft", .bl false]) := by rw [← hg19]; exact upd_same
    have sd19 : Same H H19 := sd18.trans s19
    walk_at "rd"
    refine ⟨_, _, false, _, rfl, fun _ h => h, T.k_BadMove_NotPrice, sd19 _ _ hd, ?_⟩
    walk_at "rd"
    walk_at "nw"
    intro t20 h20
    generalize hg20 : upd H19 t20 _ = H20
    have s20 : Same H19 H20 := by rw [← hg20]; exact same_new h20
    have e20 : H20 t20 = some (.tup [.str "notprice", .bl false]) := by rw [← hg20]; exact upd_same
    have sd20 : Same H H20 := sd19.trans s20
    walk_at "rd"
    walk_at "nw"
    intro l hl
    generalize hgl : upd H20 l _ = H'
    have sl : Same H20 H' := by rw [← hgl]; exact same_new hl
    have el : H' l = some (.lst [V.ref t1, V.ref t2, V.ref t3, V.ref t4, V.ref t5, V.ref t6, V.ref t7, V.ref t8, V.ref t9, V.ref t10, V.ref t11, V.ref t12, V.ref t13, V.ref t14, V.ref t15, V.ref t16, V.ref t17, V.ref t18, V.ref t19, V.ref t20]) := by rw [← hgl]; exact upd_same
    have sd : Same H H' := sd20.trans sl
    have pr : Paired (fun (x : V) (y : Str × Bool) => ∃ t : Addr, x = .ref t ∧ H' t = some (.tup [.str y.1, .bl y.2])) [V.ref t1, V.ref t2, V.ref t3, V.ref t4, V.ref t5, V.ref t6, V.ref t7, V.ref t8, V.ref t9, V.ref t10, V.ref t11, V.ref t12, V.ref t13, V.ref t14, V.ref t15, V.ref t16, V.ref t17, V.ref t18, V.ref t19, V.ref t20] kRows_BadMove := (.cons ⟨t1, rfl, sl _ _ (s20 _ _ (s19 _ _ (s18 _ _ (s17 _ _ (s16 _ _ (s15 _ _ (s14 _ _ (s13 _ _ (s12 _ _ (s11 _ _ (s10 _ _ (s9 _ _ (s8 _ _ (s7 _ _ (s6 _ _ (s5 _ _ (s4 _ _ (s3 _ _ (s2 _ _ (e1))))))))))))))))))))⟩ (.cons ⟨t2, rfl, sl _ _ (s20 _ _ (s19 _ _ (s18 _ _ (s17 _ _ (s16 _ _ (s15 _ _ (s14 _ _ (s13 _ _ (s12 _ _ (s11 _ _ (s10 _ _ (s9 _ _ (s8 _ _ (s7 _ _ (s6 _ _ (s5 _ _ (s4 _ _ (s3 _ _ (e2)))))))))))))))))))⟩ (.cons ⟨t3, rfl, sl _ _ (s20 _ _ (s19 _ _ (s18 _ _ (s17 _ _ (s16 _ _ (s15 _ _ (s14 _ _ (s13 _ _ (s12 _ _ (s11 _ _ (s10 _ _ (s9 _ _ (s8 _ _ (s7 _ _ (s6 _ _ (s5 _ _ (s4 _ _ (e3))))))))))))))))))⟩ (.cons ⟨t4, rfl, sl _ _ (s20 _ _ (s19 _ _ (s18 _ _ (s17 _ _ (s16 _ _ (s15 _ _ (s14 _ _ (s13 _ _ (s12 _ _ (s11 _ _ (s10 _ _ (s9 _ _ (s8 _ _ (s7 _ _ (s6 _ _ (s5 _ _ (e4)))))))))))))))))⟩ (.cons ⟨t5, rfl, sl _ _ (s20 _ _ (s19 _ _ (s18 _ _ (s17 _ _ (s16 _ _ (s15 _ _ (s14 _ _ (s13 _ _ (s12 _ _ (s11 _ _ (s10 _ _ (s9 _ _ (s8 _ _ (s7 _ _ (s6 _ _ (e5))))))))))))))))⟩ (.cons ⟨t6, rfl, sl _ _ (s20 _ _ (s19 _ _ (s18 _ _ (s17 _ _ (s16 _ _ (s15 _ _ (s14 _ _ (s13 _ _ (s12 _ _ (s11 _ _ (s10 _ _ (s9 _ _ (s8 _ _ (s7 _ _ (e6)))))))))))))))⟩ (.cons ⟨t7, rfl, sl _ _ (s20 _ _ (s19 _ _ (s18 _ _ (s17 _ _ (s16 _ _ (s15 _ _ (s14 _ _ (s13 _ _ (s12 _ _ (s11 _ _ (s10 _ _ (s9 _ _ (s8 _ _ (e7))))))))))))))⟩ (.cons ⟨t8, rfl, sl _ _ (s20 _ _ (s19 _ _ (s18 _ _ (s17 _ _ (s16 _ _ (s15 _ _ (s14 _ _ (s13 _ _ (s12 _ _ (s11 _ _ (s10 _ _ (s9 _ _ (e8)))))))))))))⟩ (.cons ⟨t9, rfl, sl _ _ (s20 _ _ (s19 _ _ (s18 _ _ (s17 _ _ (s16 _ _ (s15 _ _ (s14 _ _ (s13 _ _ (s12 _ _ (s11 _ _ (s10 _ _ (e9))))))))))))⟩ (.cons ⟨t10, rfl, sl _ _ (s20 _ _ (s19 _ _ (s18 _ _ (s17 _ _ (s16 _ _ (s15 _ _ (s14 _ _ (s13 _ _ (s12 _ _ (s11 _ _ (e10)))))))))))⟩ (.cons ⟨t11, rfl, sl _ _ (s20 _ _ (s19 _ _ (s18 _ _ (s17 _ _ (s16 _ _ (s15 _ _ (s14 _ _ (s13 _ _ (s12 _ _ (e11))))))))))⟩ (.cons ⟨t12, rfl, sl _ _ (s20 _ _ (s19 _ _ (s18 _ _ (s17 _ _ (s16 _ _ (s15 _ _ (s14 _ _ (s13 _ _ (e12)))))))))⟩ (.cons ⟨t13, rfl, sl _ _ (s20 _ _ (s19 _ _ (s18 _ _ (s17 _ _ (s16 _ _ (s15 _ _ (s14 _ _ (e13))))))))⟩ (.cons ⟨t14, rfl, sl _ _ (s20 _ _ (s19 _ _ (s18 _ _ (s17 _ _ (s16 _ _ (s15 _ _ (e14)))))))⟩ (.cons ⟨t15, rfl, sl _ _ (s20 _ _ (s19 _ _ (s18 _ _ (s17 _ _ (s16 _ _ (e15))))))⟩ (.cons ⟨t16, rfl, sl _ _ (s20 _ _ (s19 _ _ (s18 _ _ (s17 _ _ (e16)))))⟩ (.cons ⟨t17, rfl, sl _ _ (s20 _ _ (s19 _ _ (s18 _ _ (e17))))⟩ (.cons ⟨t18, rfl, sl _ _ (s20 _ _ (s19 _ _ (e18)))⟩ (.cons ⟨t19, rfl, sl _ _ (s20 _ _ (e19))⟩ (.cons ⟨t20, rfl, sl _ _ (e20)⟩ .nil))))))))))))))))))))
    generalize ([V.ref t1, V.ref t2, V.ref t3, V.ref t4, V.ref t5, V.ref t6, V.ref t7, V.ref t8, V.ref t9, V.ref t10, V.ref t11, V.ref t12, V.ref t13, V.ref t14, V.ref t15, V.ref t16, V.ref t17, V.ref t18, V.ref t19, V.ref t20] : List V) = xs at el pr
    walk_at "rd"
    clear e1 e2 e3 e4 e5 e6 e7 e8 e9 e10 e11 e12 e13 e14 e15 e16 e17 e18 e19 e20
    refine ⟨⟨_, SqL.of el⟩, fun D hD => lc_list (K := K) (a := l) (xs := xs) (fun i H2 => Same H' H2 ∧ H2 D = some (.lst (((kRows_BadMove.take i).filter (·.2)).map fun z => V.str z.1))) ⟨same_new hD, upd_same⟩ (fun i H2 _ ⟨e, _⟩ => SqL.of (e _ _ el)) ?_ ?_⟩
    · rintro i y H2 hi ⟨e3, e4⟩
      obtain ⟨wb, hwb, t, rfl, ht⟩ := pairedAt pr hi
      obtain ⟨wd, b⟩ := wb
      refine ⟨rfl, ?_⟩
      have ht2 := e3 _ _ ht
      have htk := take_one hwb
      refine ⟨_, rfl, t, _, 1, .bl b, rfl, rfl, SqT.of ht2, rfl, ?_⟩
      have hlen : ((((kRows_BadMove.take i).filter (·.2)).map fun z => V.str z.1)).length ≤ 20 := by
        rw [List.length_map]
        exact Nat.le_trans (List.length_filter_le _ _) (by rw [List.length_take]; exact Nat.min_le_right _ _)
      cases b with
      | true =>
        refine ⟨true, rfl, ?_⟩
        walk_at "rd"
        refine ⟨_, e4, sz_lt (Nat.lt_of_le_of_lt hlen (by decide)), e3.mut hD, ?_⟩
        rw [htk, List.filter_append, List.map_append]
        exact upd_same
      | false =>
        refine ⟨false, rfl, e3, ?_⟩
        rw [htk, List.filter_append, List.map_append]
        rw [e4]
        show _ = some (HO.lst (_ ++ []))
        rw [List.append_nil]
    · rintro H2 ⟨e3, e4⟩
      have hl13 : xs.length = 20 := pr.length
      rw [hl13] at e4
      exact q D H2 (sd.trans e3) e4
omit T in
theorem xd_word_BadMove (v : V) : (excD ["at"] "BadMove" [v]).lookup ("word" : Str) = some (.str "badmove") := by
  first | rfl | decide +kernel
omit T in
theorem xd_at_BadMove (v : V) : (excD ["at"] "BadMove" [v]).lookup ("at" : Str) = some v := by
  first | rfl | decide +kernel
theorem ok_clean_BadMove {f : Addr} {fd : FuncData} (F : Fun K "_law_clean" "_law_clean" s_clean f fd) {f_same : Addr} {fd_same : FuncData} (D_same : Def K mg "_law_same" s_same p_same f_same fd_same) (E_same : FnE P w K mg base 1 f_same fd_same p_same spSameE) {f_kinds : Addr} {fd_kinds : FuncData} (D_kinds : Def K mg "_law_kinds" s_kinds p_kinds f_kinds fd_kinds) (E_kinds : FnE P w K mg base 2 f_kinds fd_kinds p_kinds (spKinds C_BadMove "BadMove" "at" "papererror" "badmove")) : FnE P w K mg base 3 f fd p_clean (spClean C_BadMove "BadMove" "at" "papererror" "badmove") := by
  refine F.okE sc_clean (fun p vs H Q E h => ?_) (fun cdv A outer s H vs Q E p hot hr h => ?_)
  · obtain ⟨d, v, rfl, _⟩ := h
    rfl
  · obtain ⟨d, v, rfl, ⟨z, hd⟩, q⟩ := h
    have hp : p ∈ [p] := List.mem_singleton.mpr rfl
    have kC := T.lf_BadMove.kind
    have no_word := kC.nw
    refine ⟨_, (pss_one (ps_ret (by exact (pe_and (pe_callB (call_isP hp kC z) (by rfl) T.b_isinstance (by first | exact PySem.boot_isinstance | decide +kernel) (pa_cons (pv 0) (pa_cons (pe_bltn (v := .ty "ValueError") (by rfl) T.b_ValueError (by first | exact PySem.boot_ValueError | decide +kernel) rfl) pa_nil))) (pe_and (pe_callE E_same (hr.mono (by first | decide | omega)) hot hp rfl D_same.g D_same.fn.kp D_same.b (pa_cons (pe_xp hp kC z no_word (pv 0)) (pa_cons (pv 2) pa_nil))) (pe_one (pe_cmpR (op_eqV (hu64 hr)) (pe_callE E_kinds (hr.mono (by first | decide | omega)) hot hp rfl D_kinds.g D_kinds.fn.kp D_kinds.b (pa_cons (pv 0) pa_nil)) (pe_lst (pa_cons (pv 1) (pa_cons (pv 2) pa_nil))) (nomark _)))))))), ?_⟩
    walk_at "rd"
    refine ⟨_, _, true, _, rfl, fun _ h => h, T.k_BadMove_ValueError, hd, ?_⟩
    walk_at "rd"
    refine ⟨rfl, _, _, hd, xd_word_BadMove v, ?_⟩
    walk_at "rd"
    refine ⟨d, v, rfl, ⟨z, hd⟩, fun l H' s1 hl => ?_⟩
    walk_at "rd"
    walk_at "nw"
    intro u hu
    refine ⟨2, by decide, .inl ⟨_, _, _, _, rfl, rfl, SqL.of (same_new hu _ _ hl), SqL.of upd_same, .cons (.inl ⟨rfl, rfl⟩) (.cons (.inl ⟨rfl, rfl⟩) .nil)⟩, ?_⟩
    exact q _ (s1.trans (same_new hu))
theorem ok_refusal_BadMove {f : Addr} {fd : FuncData} (F : Fun K "_law_refusal" "_law_refusal" s_refusal f fd) {f_clean : Addr} {fd_clean : FuncData} (D_clean : Def K mg "_law_clean" s_clean p_clean f_clean fd_clean) (E_clean : FnE P w K mg base 3 f_clean fd_clean p_clean (spClean C_BadMove "BadMove" "at" "papererror" "badmove")) : FnE P w K mg base 4 f fd p_refusal (spRefusal C_BadMove "BadMove" "at" "badmove") := by
  refine F.okE sc_refusal (fun p vs H Q E h => ?_) (fun cdv A outer s H vs Q E p hot hr h => ?_)
  · obtain ⟨d, v, rfl, _⟩ := h
    rfl
  · obtain ⟨d, v, rfl, ⟨z, hd⟩, q⟩ := h
    have hp : p ∈ [p] := List.mem_singleton.mpr rfl
    have kC := T.lf_BadMove.kind
    have no_at := (T.lf_BadMove.nf "at" List.mem_cons_self).1
    have no_cells := T.no_BadMove_cells
    refine ⟨_, (pss_cons (ps_if (PW.pt (pw_and (pt_val (pe_callB (call_isP hp kC z) (by rfl) T.b_isinstance (by first | exact PySem.boot_isinstance | decide +kernel) (pa_cons (pv 0) (pa_cons (pe_glob (v := .ref C_BadMove) rfl T.g_BadMove rfl) pa_nil)))) (pw_and1 (pt_val (pe_callE E_clean (hr.mono (by first | decide | omega)) hot hp rfl D_clean.g D_clean.fn.kp D_clean.b (pa_cons (pv 0) (pa_cons pe_str (pa_cons pe_str pa_nil)))))))) (pss_one (ps_ret (by exact (pe_tup (pa_cons pe_str (pa_cons (pe_xp hp kC z no_at (pv 0)) pa_nil)))))) pss_nil)
      (pss_cons (ps_if (PW.pt (pw_and (pt_val (pe_callB (call_isP hp kC z) (by rfl) T.b_isinstance (by first | exact PySem.boot_isinstance | decide +kernel) (pa_cons (pv 0) (pa_cons (pe_glob (v := .ref C_BadCells) rfl T.g_BadCells rfl) pa_nil)))) (pw_and1 (pt_val (pe_callE E_clean (hr.mono (by first | decide | omega)) hot hp rfl D_clean.g D_clean.fn.kp D_clean.b (pa_cons (pv 0) (pa_cons pe_str (pa_cons pe_str pa_nil)))))))) (pss_one (ps_ret (by exact (pe_tup (pa_cons pe_str (pa_cons (pe_xp hp kC z no_cells (pv 0)) pa_nil)))))) pss_nil)
      (pss_one (ps_ret (by exact (pe_tup (pa_cons pe_str pa_nil))))))), ?_⟩
    walk_at "rd"
    refine ⟨_, _, true, _, rfl, fun _ h => h, T.k_BadMove_BadMove, hd, ?_⟩
    walk_at "rd"
    refine ⟨d, v, rfl, ⟨z, hd⟩, fun H' s1 => ?_⟩
    walk_at "rd"
    refine ⟨rfl, _, _, s1 _ _ hd, xd_at_BadMove v, ?_⟩
    walk_at "rd"
    walk_at "nw"
    intro t ht
    exact q t _ (s1.trans (same_new ht)) upd_same
def kRows_BadCells : List (Str × Bool) := [("numbererror", true), ("texterror", false), ("shapeerror", false), ("planerror", false), ("courseerror", false), ("knowerror", false), ("papererror", false), ("toomany", false), ("badprime", false), ("noinverse", false), ("nonumber", false), ("badtable", false), ("badcells", true), ("badstep", false), ("badblind", false), ("badmove", false), ("notshut", false), ("notopen", false), ("nottheft", false), ("notprice", false)]
theorem ok_kinds_BadCells {f : Addr} {fd : FuncData} (F : Fun K "_law_kinds" "_law_kinds" s_kinds f fd) : FnE P w K mg base 2 f fd p_kinds (spKinds C_BadCells "BadCells" "cells" "numbererror" "badcells") := by
  refine F.okE sc_kinds (fun p vs H Q E h => ?_) (fun cdv A outer s H vs Q E p hot hr h => ?_)
  · obtain ⟨d, v, rfl, _⟩ := h
    rfl
  · obtain ⟨d, v, rfl, ⟨z, hd⟩, q⟩ := h
    have hp : p ∈ [p] := List.mem_singleton.mpr rfl
    have kC := T.lf_BadCells.kind
    refine ⟨_, (pss_cons (ps_set (i := 1) sc_kinds.nd rfl (Or.inl rfl) (by exact (pe_lst (pa_cons (pe_tup (pa_cons pe_str (pa_cons (pe_callB (call_isP hp kC z) (by rfl) T.b_isinstance (by first | exact PySem.boot_isinstance | decide +kernel) (pa_cons (pv 0) (pa_cons (pe_glob (v := .ref C_NumberError) rfl T.g_NumberError rfl) pa_nil))) pa_nil))) (pa_cons (pe_tup (pa_cons pe_str (pa_cons (pe_callB (call_isP hp kC z) (by rfl) T.b_isinstance (by first | exact PySem.boot_isinstance | decide +kernel) (pa_cons (pv 0) (pa_cons (pe_glob (v := .ref C_TextError) rfl T.g_TextError rfl) pa_nil))) pa_nil))) (pa_cons (pe_tup (pa_cons pe_str (pa_cons (pe_callB (call_isP hp kC z) (by rfl) T.b_isinstance (by first | exact PySem.boot_isinstance | decide +kernel) (pa_cons (pv 0) (pa_cons (pe_glob (v := .ref C_ShapeError) rfl T.g_ShapeError rfl) pa_nil))) pa_nil))) (pa_cons (pe_tup (pa_cons pe_str (pa_cons (pe_callB (call_isP hp kC z) (by rfl) T.b_isinstance (by first | exact PySem.boot_isinstance | decide +kernel) (pa_cons (pv 0) (pa_cons (pe_glob (v := .ref C_PlanError) rfl T.g_PlanError rfl) pa_nil))) pa_nil))) (pa_cons (pe_tup (pa_cons pe_str (pa_cons (pe_callB (call_isP hp kC z) (by rfl) T.b_isinstance (by first | exact PySem.boot_isinstance | decide +kernel) (pa_cons (pv 0) (pa_cons (pe_glob (v := .ref C_CourseError) rfl T.g_CourseError rfl) pa_nil))) pa_nil))) (pa_cons (pe_tup (pa_cons pe_str (pa_cons (pe_callB (call_isP hp kC z) (by rfl) T.b_isinstance (by first | exact PySem.boot_isinstance | decide +kernel) (pa_cons (pv 0) (pa_cons (pe_glob (v := .ref C_KnowError) rfl T.g_KnowError rfl) pa_nil))) pa_nil))) (pa_cons (pe_tup (pa_cons pe_str (pa_cons (pe_callB (call_isP hp kC z) (by rfl) T.b_isinstance (by first | exact PySem.boot_isinstance | decide +kernel) (pa_cons (pv 0) (pa_cons (pe_glob (v := .ref C_PaperError) rfl T.g_PaperError rfl) pa_nil))) pa_nil))) (pa_cons (pe_tup (pa_cons pe_str (pa_cons (pe_callB (call_isP hp kC z) (by rfl) T.b_isinstance (by first | exact PySem.boot_isinstance | decide +kernel) (pa_cons (pv 0) (pa_cons (pe_glob (v := .ref C_TooMany) rfl T.g_TooMany rfl) pa_nil))) pa_nil))) (pa_cons (pe_tup (pa_cons pe_str (pa_cons (pe_callB (call_isP hp kC z) (by rfl) T.b_isinstance (by first | exact PySem.boot_isinstance | decide +kernel) (pa_cons (pv 0) (pa_cons (pe_glob (v := .ref C_BadPrime) rfl T.g_BadPrime rfl) pa_nil))) pa_nil))) (pa_cons (pe_tup (pa_cons pe_str (pa_cons (pe_callB (call_isP hp kC z) (by rfl) T.b_isinstance (by first | exact PySem.boot_isinstance | decide +kernel) (pa_cons (pv 0) (pa_cons (pe_glob (v := .ref C_NoInverse) rfl T.g_NoInverse rfl) pa_nil))) pa_nil))) (pa_cons (pe_tup (pa_cons pe_str (pa_cons (pe_callB (call_isP hp kC z) (by rfl) T.b_isinstance (by first | exact PySem.boot_isinstance | decide +kernel) (pa_cons (pv 0) (pa_cons (pe_glob (v := .ref C_NoNumber) rfl T.g_NoNumber rfl) pa_nil))) pa_nil))) (pa_cons (pe_tup (pa_cons pe_str (pa_cons (pe_callB (call_isP hp kC z) (by rfl) T.b_isinstance (by first | exact PySem.boot_isinstance | decide +kernel) (pa_cons (pv 0) (pa_cons (pe_glob (v := .ref C_BadTable) rfl T.g_BadTable rfl) pa_nil))) pa_nil))) (pa_cons (pe_tup (pa_cons pe_str (pa_cons (pe_callB (call_isP hp kC z) (by rfl) T.b_isinstance (by first | exact PySem.boot_isinstance | decide +kernel) (pa_cons (pv 0) (pa_cons (pe_glob (v := .ref C_BadCells) rfl T.g_BadCells rfl) pa_nil))) pa_nil))) (pa_cons (pe_tup (pa_cons pe_str (pa_cons (pe_callB (call_isP hp kC z) (by rfl) T.b_isinstance (by first | exact PySem.boot_isinstance | decide +kernel) (pa_cons (pv 0) (pa_cons (pe_glob (v := .ref C_BadStep) rfl T.g_BadStep rfl) pa_nil))) pa_nil))) (pa_cons (pe_tup (pa_cons pe_str (pa_cons (pe_callB (call_isP hp kC z) (by rfl) T.b_isinstance (by first | exact PySem.boot_isinstance | decide +kernel) (pa_cons (pv 0) (pa_cons (pe_glob (v := .ref C_BadBlind) rfl T.g_BadBlind rfl) pa_nil))) pa_nil))) (pa_cons (pe_tup (pa_cons pe_str (pa_cons (pe_callB (call_isP hp kC z) (by rfl) T.b_isinstance (by first | exact PySem.boot_isinstance | decide +kernel) (pa_cons (pv 0) (pa_cons (pe_glob (v := .ref C_BadMove) rfl T.g_BadMove rfl) pa_nil))) pa_nil))) (pa_cons (pe_tup (pa_cons pe_str (pa_cons (pe_callB (call_isP hp kC z) (by rfl) T.b_isinstance (by first | exact PySem.boot_isinstance | decide +kernel) (pa_cons (pv 0) (pa_cons (pe_glob (v := .ref C_NotShut) rfl T.g_NotShut rfl) pa_nil))) pa_nil))) (pa_cons (pe_tup (pa_cons pe_str (pa_cons (pe_callB (call_isP hp kC z) (by rfl) T.b_isinstance (by first | exact PySem.boot_isinstance | decide +kernel) (pa_cons (pv 0) (pa_cons (pe_glob (v := .ref C_NotOpen) rfl T.g_NotOpen rfl) pa_nil))) pa_nil))) (pa_cons (pe_tup (pa_cons pe_str (pa_cons (pe_callB (call_isP hp kC z) (by rfl) T.b_isinstance (by first | exact PySem.boot_isinstance | decide +kernel) (pa_cons (pv 0) (pa_cons (pe_glob (v := .ref C_NotTheft) rfl T.g_NotTheft rfl) pa_nil))) pa_nil))) (pa_cons (pe_tup (pa_cons pe_str (pa_cons (pe_callB (call_isP hp kC z) (by rfl) T.b_isinstance (by first | exact PySem.boot_isinstance | decide +kernel) (pa_cons (pv 0) (pa_cons (pe_glob (v := .ref C_NotPrice) rfl T.g_NotPrice rfl) pa_nil))) pa_nil))) pa_nil)))))))))))))))))))))))
      (pss_one (ps_ret (by exact (pe_lcE (own := [("row", 2)]) (g := gName 2) hot hp sc_kinds.nd (pv 1) (blkOk_by (own := [("row", 2)]) (N := N_kinds) (sc := defScope s_kinds) (by decide +kernel)) (fun _ _ _ _ _ => pg_name (i := 2) sc_kinds.nd rfl (Or.inl rfl)) (fun _ _ _ _ _ => (pts_one (pt_val (pe_ix (show IxR _ (rIxT K) from ix_tup) (pv 2) pe_int (fun _ _ => rfl))))) (fun _ _ _ _ _ => (pe_ix (show IxR _ (rIxT K) from ix_tup) (pv 2) pe_int (fun _ _ => rfl)))))))), ?_⟩
    walk_at "rd"
    refine ⟨_, _, true, _, rfl, fun _ h => h, T.k_BadCells_NumberError, hd, ?_⟩
    walk_at "rd"
    walk_at "nw"
    intro t1 h1
    generalize hg1 : upd H t1 _ = H1
    have s1 : Same H H1 := by rw [← hg1]; exact same_new h1
    have e1 : H1 t1 = some (.tup [.str "numbererror", .bl true]) := by rw [← hg1]; exact upd_same
    have sd1 : Same H H1 := s1
    walk_at "rd"
    refine ⟨_, _, false, _, rfl, fun _ h => h, T.k_BadCells_TextError, sd1 _ _ hd, ?_⟩
    walk_at "rd"
    walk_at "nw"
    intro t2 h2
    generalize hg2 : upd H1 t2 _ = H2
    have s2 : Same H1 H2 := by rw [← hg2]; exact same_new h2
    have e2 : H2 t2 = some (.tup [.str "texterror", .bl false]) := by rw [← hg2]; exact upd_same
    have sd2 : Same H H2 := sd1.trans s2
    walk_at "rd"
    refine ⟨_, _, false, _, rfl, fun _ h => h, T.k_BadCells_ShapeError, sd2 _ _ hd, ?_⟩
    walk_at "rd"
    walk_at "nw"
    intro t3 h3
    generalize hg3 : upd H2 t3 _ = H3
    have s3 : Same H2 H3 := by rw [← hg3]; exact same_new h3
    have e3 : H3 t3 = some (.tup [.str "shapeerror", .bl false]) := by rw [← hg3]; exact upd_same
    have sd3 : Same H H3 := sd2.trans s3
    walk_at "rd"
    refine ⟨_, _, false, _, rfl, fun _ h => h, T.k_BadCells_PlanError, sd3 _ _ hd, ?_⟩
    walk_at "rd"
    walk_at "nw"
    intro t4 h4
    generalize hg4 : upd H3 t4 _ = H4
    have s4 : Same H3 H4 := by rw [← hg4]; exact same_new h4
    have e4 : H4 t4 = some (.tup [.str "planerror", .bl false]) := by rw [← hg4]; exact upd_same
    have sd4 : Same H H4 := sd3.trans s4
    walk_at "rd"
    refine ⟨_, _, false, _, rfl, fun _ h => h, T.k_BadCells_CourseError, sd4 _ _ hd, ?_⟩
    walk_at "rd"
    walk_at "nw"
    intro t5 h5
    generalize hg5 : upd H4 t5 _ = H5
    have s5 : Same H4 H5 := by rw [← hg5]; exact same_new h5
    have e5 : H5 t5 = some (.tup [.str "courseerror", .bl false]) := by rw [← hg5]; exact upd_same
    have sd5 : Same H H5 := sd4.trans s5
    walk_at "rd"
    refine ⟨_, _, false, _, rfl, fun _ h => h, T.k_BadCells_KnowError, sd5 _ _ hd, ?_⟩
    walk_at "rd"
    walk_at "nw"
    intro t6 h6
    generalize hg6 : upd H5 t6 _ = H6
    have s6 : Same H5 H6 := by rw [← hg6]; exact same_new h6
    have e6 : H6 t6 = some (.tup [.str "knowerror", .bl false]) := by rw [← hg6]; exact upd_same
    have sd6 : Same H H6 := sd5.trans s6
    walk_at "rd"
    refine ⟨_, _, false, _, rfl, fun _ h => h, T.k_BadCells_PaperError, sd6 _ _ hd, ?_⟩
    walk_at "rd"
    walk_at "nw"
    intro t7 h7
    generalize hg7 : upd H6 t7 _ = H7
    have s7 : Same H6 H7 := by rw [← hg7]; exact same_new h7
    have e7 : H7 t7 = some (.tup [.str "papererror", .bl false]) := by rw [← hg7]; exact upd_same
    have sd7 : Same H H7 := sd6.trans s7
    walk_at "rd"
    refine ⟨_, _, false, _, rfl, fun _ h => h, T.k_BadCells_TooMany, sd7 _ _ hd, ?_⟩
    walk_at "rd"
    walk_at "nw"
    intro t8 h8
    generalize hg8 : upd H7 t8 _ = H8
    have s8 : Same H7 H8 := by rw [← hg8]; exact same_new h8
    have e8 : H8 t8 = some (.tup [.str "toomany", .bl false]) := by rw [← hg8]; exact upd_same
    have sd8 : Same H H8 := sd7.trans s8
    walk_at "rd"
    refine ⟨_, _, false, _, rfl, fun _ h => h, T.k_BadCells_BadPrime, sd8 _ _ hd, ?_⟩
    walk_at "rd"
    walk_at "nw"
    intro t9 h9
    generalize hg9 : upd H8 t9 _ = H9
    have s9 : Same H8 H9 := by rw [← hg9]; exact same_new h9
    have e9 : H9 t9 = some (.tup [.str "badprime", .bl false]) := by rw [← hg9]; exact upd_same
    have sd9 : Same H H9 := sd8.trans s9
    walk_at "rd"
    refine ⟨_, _, false, _, rfl, fun _ h => h, T.k_BadCells_NoInverse, sd9 _ _ hd, ?_⟩
    walk_at "rd"
    walk_at "nw"
    intro t10 h10
    generalize hg10 : upd H9 t10 _ = H10
    have s10 : Same H9 H10 := by rw [← hg10]; exact same_new h10
    have e10 : H10 t10 = some (.tup [.str "noinverse", .bl false]) := by rw [← hg10]; exact upd_same
    have sd10 : Same H H10 := sd9.trans s10
    walk_at "rd"
    refine ⟨_, _, false, _, rfl, fun _ h => h, T.k_BadCells_NoNumber, sd10 _ _ hd, ?_⟩
    walk_at "rd"
    walk_at "nw"
    intro t11 h11
    generalize hg11 : upd H10 t11 _ = H11
    have s11 : Same H10 H11 := by rw [← hg11]; exact same_new h11
    have e11 : H11 t11 = some (.tup [.str "nonumber", .bl false]) := by rw [← hg11]; exact upd_same
    have sd11 : Same H H11 := sd10.trans s11
    walk_at "rd"
    refine ⟨_, _, false, _, rfl, fun _ h => h, T.k_BadCells_BadTable, sd11 _ _ hd, ?_⟩
    walk_at "rd"
    walk_at "nw"
    intro t12 h12
    generalize hg12 : upd H11 t12 _ = H12
    have s12 : Same H11 H12 := by rw [← hg12]; exact same_new h12
    have e12 : H12 t12 = some (.tup [.str "badtable", .bl false]) := by rw [← hg12]; exact upd_same
    have sd12 : Same H H12 := sd11.trans s12
    walk_at "rd"
    refine ⟨_, _, true, _, rfl, fun _ h => h, T.k_BadCells_BadCells, sd12 _ _ hd, ?_⟩
    walk_at "rd"
    walk_at "nw"
    intro t13 h13
    generalize hg13 : upd H12 t13 _ = H13
    have s13 : Same H12 H13 := by rw [← hg13]; exact same_new h13
    have e13 : H13 t13 = some (.tup [.str "badcells", .bl true]) := by rw [← hg13]; exact upd_same
    have sd13 : Same H H13 := sd12.trans s13
    walk_at "rd"
    refine ⟨_, _, false, _, rfl, fun _ h => h, T.k_BadCells_BadStep, sd13 _ _ hd, ?_⟩
    walk_at "rd"
    walk_at "nw"
    intro t14 h14
    generalize hg14 : upd H13 t14 _ = H14
    have s14 : Same H13 H14 := by rw [← hg14]; exact same_new h14
    have e14 : H14 t14 = some (.tup [.str "badstep", .bl false]) := by rw [← hg14]; exact upd_same
    have sd14 : Same H H14 := sd13.trans s14
    walk_at "rd"
    refine ⟨_, _, false, _, rfl, fun _ h => h, T.k_BadCells_BadBlind, sd14 _ _ hd, ?_⟩
    walk_at "rd"
    walk_at "nw"
    intro t15 h15
    generalize hg15 : upd H14 t15 _ = H15
    have s15 : Same H14 H15 := by rw [← hg15]; exact same_new h15
    have e15 : H15 t15 = some (.tup [.str "badblind", .bl false]) := by rw [← hg15]; exact upd_same
    have sd15 : Same H H15 := sd14.trans s15
    walk_at "rd"
    refine ⟨_, _, false, _, rfl, fun _ h => h, T.k_BadCells_BadMove, sd15 _ _ hd, ?_⟩
    walk_at "rd"
    walk_at "nw"
    intro t16 h16
    generalize hg16 : upd H15 t16 _ = H16
    have s16 : Same H15 H16 := by rw [← hg16]; exact same_new h16
    have e16 : H16 t16 = some (.tup [.str "badmove", .bl false]) := by rw [← hg16]; exact upd_same
    have sd16 : Same H H16 := sd15.trans s16
    walk_at "rd"
    refine ⟨_, _, false, _, rfl, fun _ h => h, T.k_BadCells_NotShut, sd16 _ _ hd, ?_⟩
    walk_at "rd"
    walk_at "nw"
    intro t17 h17
    generalize hg17 : upd H16 t17 _ = H17
    have s17 : Same H16 H17 := by rw [← hg17]; exact same_new h17
    have e17 : H17 t17 = some (.tup [.str "notshut", .bl false]) := by rw [← hg17]; exact upd_same
    have sd17 : Same H H17 := sd16.trans s17
    walk_at "rd"
    refine ⟨_, _, false, _, rfl, fun _ h => h, T.k_BadCells_NotOpen, sd17 _ _ hd, ?_⟩
    walk_at "rd"
    walk_at "nw"
    intro t18 h18
    generalize hg18 : upd H17 t18 _ = H18
    have s18 : Same H17 H18 := by rw [← hg18]; exact same_new h18
    have e18 : H18 t18 = some (.tup [.str "notopen", .bl false]) := by rw [← hg18]; exact upd_same
    have sd18 : Same H H18 := sd17.trans s18
    walk_at "rd"
    refine ⟨_, _, false, _, rfl, fun _ h => h, T.k_BadCells_NotTheft, sd18 _ _ hd, ?_⟩
    walk_at "rd"
    walk_at "nw"
    intro t19 h19
    generalize hg19 : upd H18 t19 _ = H19
    have s19 : Same H18 H19 := by rw [← hg19]; exact same_new h19
    have e19 : H19 t19 = some (.tup [.str "nottheft", .bl false]) := by rw [← hg19]; exact upd_same
    have sd19 : Same H H19 := sd18.trans s19
    walk_at "rd"
    refine ⟨_, _, false, _, rfl, fun _ h => h, T.k_BadCells_NotPrice, sd19 _ _ hd, ?_⟩
    walk_at "rd"
    walk_at "nw"
    intro t20 h20
    generalize hg20 : upd H19 t20 _ = H20
    have s20 : Same H19 H20 := by rw [← hg20]; exact same_new h20
    have e20 : H20 t20 = some (.tup [.str "notprice", .bl false]) := by rw [← hg20]; exact upd_same
    have sd20 : Same H H20 := sd19.trans s20
    walk_at "rd"
    walk_at "nw"
    intro l hl
    generalize hgl : upd H20 l _ = H'
    have sl : Same H20 H' := by rw [← hgl]; exact same_new hl
    have el : H' l = some (.lst [V.ref t1, V.ref t2, V.ref t3, V.ref t4, V.ref t5, V.ref t6, V.ref t7, V.ref t8, V.ref t9, V.ref t10, V.ref t11, V.ref t12, V.ref t13, V.ref t14, V.ref t15, V.ref t16, V.ref t17, V.ref t18, V.ref t19, V.ref t20]) := by rw [← hgl]; exact upd_same
    have sd : Same H H' := sd20.trans sl
    have pr : Paired (fun (x : V) (y : Str × Bool) => ∃ t : Addr, x = .ref t ∧ H' t = some (.tup [.str y.1, .bl y.2])) [V.ref t1, V.ref t2, V.ref t3, V.ref t4, V.ref t5, V.ref t6, V.ref t7, V.ref t8, V.ref t9, V.ref t10, V.ref t11, V.ref t12, V.ref t13, V.ref t14, V.ref t15, V.ref t16, V.ref t17, V.ref t18, V.ref t19, V.ref t20] kRows_BadCells := (.cons ⟨t1, rfl, sl _ _ (s20 _ _ (s19 _ _ (s18 _ _ (s17 _ _ (s16 _ _ (s15 _ _ (s14 _ _ (s13 _ _ (s12 _ _ (s11 _ _ (s10 _ _ (s9 _ _ (s8 _ _ (s7 _ _ (s6 _ _ (s5 _ _ (s4 _ _ (s3 _ _ (s2 _ _ (e1))))))))))))))))))))⟩ (.cons ⟨t2, rfl, sl _ _ (s20 _ _ (s19 _ _ (s18 _ _ (s17 _ _ (s16 _ _ (s15 _ _ (s14 _ _ (s13 _ _ (s12 _ _ (s11 _ _ (s10 _ _ (s9 _ _ (s8 _ _ (s7 _ _ (s6 _ _ (s5 _ _ (s4 _ _ (s3 _ _ (e2)))))))))))))))))))⟩ (.cons ⟨t3, rfl, sl _ _ (s20 _ _ (s19 _ _ (s18 _ _ (s17 _ _ (s16 _ _ (s15 _ _ (s14 _ _ (s13 _ _ (s12 _ _ (s11 _ _ (s10 _ _ (s9 _ _ (s8 _ _ (s7 _ _ (s6 _ _ (s5 _ _ (s4 _ _ (e3))))))))))))))))))⟩ (.cons ⟨t4, rfl, sl _ _ (s20 _ _ (s19 _ _ (s18 _ _ (s17 _ _ (s16 _ _ (s15 _ _ (s14 _ _ (s13 _ _ (s12 _ _ (s11 _ _ (s10 _ _ (s9 _ _ (s8 _ _ (s7 _ _ (s6 _ _ (s5 _ _ (e4)))))))))))))))))⟩ (.cons ⟨t5, rfl, sl _ _ (s20 _ _ (s19 _ _ (s18 _ _ (s17 _ _ (s16 _ _ (s15 _ _ (s14 _ _ (s13 _ _ (s12 _ _ (s11 _ _ (s10 _ _ (s9 _ _ (s8 _ _ (s7 _ _ (s6 _ _ (e5))))))))))))))))⟩ (.cons ⟨t6, rfl, sl _ _ (s20 _ _ (s19 _ _ (s18 _ _ (s17 _ _ (s16 _ _ (s15 _ _ (s14 _ _ (s13 _ _ (s12 _ _ (s11 _ _ (s10 _ _ (s9 _ _ (s8 _ _ (s7 _ _ (e6)))))))))))))))⟩ (.cons ⟨t7, rfl, sl _ _ (s20 _ _ (s19 _ _ (s18 _ _ (s17 _ _ (s16 _ _ (s15 _ _ (s14 _ _ (s13 _ _ (s12 _ _ (s11 _ _ (s10 _ _ (s9 _ _ (s8 _ _ (e7))))))))))))))⟩ (.cons ⟨t8, rfl, sl _ _ (s20 _ _ (s19 _ _ (s18 _ _ (s17 _ _ (s16 _ _ (s15 _ _ (s14 _ _ (s13 _ _ (s12 _ _ (s11 _ _ (s10 _ _ (s9 _ _ (e8)))))))))))))⟩ (.cons ⟨t9, rfl, sl _ _ (s20 _ _ (s19 _ _ (s18 _ _ (s17 _ _ (s16 _ _ (s15 _ _ (s14 _ _ (s13 _ _ (s12 _ _ (s11 _ _ (s10 _ _ (e9))))))))))))⟩ (.cons ⟨t10, rfl, sl _ _ (s20 _ _ (s19 _ _ (s18 _ _ (s17 _ _ (s16 _ _ (s15 _ _ (s14 _ _ (s13 _ _ (s12 _ _ (s11 _ _ (e10)))))))))))⟩ (.cons ⟨t11, rfl, sl _ _ (s20 _ _ (s19 _ _ (s18 _ _ (s17 _ _ (s16 _ _ (s15 _ _ (s14 _ _ (s13 _ _ (s12 _ _ (e11))))))))))⟩ (.cons ⟨t12, rfl, sl _ _ (s20 _ _ (s19 _ _ (s18 _ _ (s17 _ _ (s16 _ _ (s15 _ _ (s14 _ _ (s13 _ _ (e12)))))))))⟩ (.cons ⟨t13, rfl, sl _ _ (s20 _ _ (s19 _ _ (s18 _ _ (s17 _ _ (s16 _ _ (s15 _ _ (s14 _ _ (e13))))))))⟩ (.cons ⟨t14, rfl, sl _ _ (s20 _ _ (s19 _ _ (s18 _ _ (s17 _ _ (s16 _ _ (s15 _ _ (e14)))))))⟩ (.cons ⟨t15, rfl, sl _ _ (s20 _ _ (s19 _ _ (s18 _ _ (s17 _ _ (s16 _ _ (e15))))))⟩ (.cons ⟨t16, rfl, sl _ _ (s20 _ _ (s19 _ _ (s18 _ _ (s17 _ _ (e16)))))⟩ (.cons ⟨t17, rfl, sl _ _ (s20 _ _ (s19 _ _ (s18 _ _ (e17))))⟩ (.cons ⟨t18, rfl, sl _ _ (s20 _ _ (s19 _ _ (e18)))⟩ (.cons ⟨t19, rfl, sl _ _ (s20 _ _ (e19))⟩ (.cons ⟨t20, rfl, sl _ _ (e20)⟩ .nil))))))))))))))))))))
    generalize ([V.ref t1, V.ref t2, V.ref t3, V.ref t4, V.ref t5, V.ref t6, V.ref t7, V.ref t8, V.ref t9, V.ref t10, V.ref t11, V.ref t12, V.ref t13, V.ref t14, V.ref t15, V.ref t16, V.ref t17, V.ref t18, V.ref t19, V.ref t20] : List V) = xs at el pr
    walk_at "rd"
    clear e1 e2 e3 e4 e5 e6 e7 e8 e9 e10 e11 e12 e13 e14 e15 e16 e17 e18 e19 e20
    refine ⟨⟨_, SqL.of el⟩, fun D hD => lc_list (K := K) (a := l) (xs := xs) (fun i H2 => Same H' H2 ∧ H2 D = some (.lst (((kRows_BadCells.take i).filter (·.2)).map fun z => V.str z.1))) ⟨same_new hD, upd_same⟩ (fun i H2 _ ⟨e, _⟩ => SqL.of (e _ _ el)) ?_ ?_⟩
    · rintro i y H2 hi ⟨e3, e4⟩
      obtain ⟨wb, hwb, t, rfl, ht⟩ := pairedAt pr hi
      obtain ⟨wd, b⟩ := wb
      refine ⟨rfl, ?_⟩
      have ht2 := e3 _ _ ht
      have htk := take_one hwb
      refine ⟨_, rfl, t, _, 1, .bl b, rfl, rfl, SqT.of ht2, rfl, ?_⟩
      have hlen : ((((kRows_BadCells.take i).filter (·.2)).map fun z => V.str z.1)).length ≤ 20 := by
        rw [List.length_map]
        exact Nat.le_trans (List.length_filter_le _ _) (by rw [List.length_take]; exact Nat.min_le_right _ _)
      cases b with
      | true =>
        refine ⟨true, rfl, ?_⟩
        walk_at "rd"
        refine ⟨_, e4, sz_lt (Nat.lt_of_le_of_lt hlen (by decide)), e3.mut hD, ?_⟩
        rw [htk, List.filter_append, List.map_append]
        exact upd_same
      | false =>
        refine ⟨false, rfl, e3, ?_⟩
        rw [htk, List.filter_append, List.map_append]
        rw [e4]
        show _ = some (HO.lst (_ ++ []))
        rw [List.append_nil]
    · rintro H2 ⟨e3, e4⟩
      have hl13 : xs.length = 20 := pr.length
      rw [hl13] at e4
      exact q D H2 (sd.trans e3) e4
omit T in
theorem xd_word_BadCells (v : V) : (excD ["cells"] "BadCells" [v]).lookup ("word" : Str) = some (.str "badcells") := by
  first | rfl | decide +kernel
omit T in
theorem xd_cells_BadCells (v : V) : (excD ["cells"] "BadCells" [v]).lookup ("cells" : Str) = some v := by
  first | rfl | decide +kernel
theorem ok_clean_BadCells {f : Addr} {fd : FuncData} (F : Fun K "_law_clean" "_law_clean" s_clean f fd) {f_same : Addr} {fd_same : FuncData} (D_same : Def K mg "_law_same" s_same p_same f_same fd_same) (E_same : FnE P w K mg base 1 f_same fd_same p_same spSameE) {f_kinds : Addr} {fd_kinds : FuncData} (D_kinds : Def K mg "_law_kinds" s_kinds p_kinds f_kinds fd_kinds) (E_kinds : FnE P w K mg base 2 f_kinds fd_kinds p_kinds (spKinds C_BadCells "BadCells" "cells" "numbererror" "badcells")) : FnE P w K mg base 3 f fd p_clean (spClean C_BadCells "BadCells" "cells" "numbererror" "badcells") := by
  refine F.okE sc_clean (fun p vs H Q E h => ?_) (fun cdv A outer s H vs Q E p hot hr h => ?_)
  · obtain ⟨d, v, rfl, _⟩ := h
    rfl
  · obtain ⟨d, v, rfl, ⟨z, hd⟩, q⟩ := h
    have hp : p ∈ [p] := List.mem_singleton.mpr rfl
    have kC := T.lf_BadCells.kind
    have no_word := kC.nw
    refine ⟨_, (pss_one (ps_ret (by exact (pe_and (pe_callB (call_isP hp kC z) (by rfl) T.b_isinstance (by first | exact PySem.boot_isinstance | decide +kernel) (pa_cons (pv 0) (pa_cons (pe_bltn (v := .ty "ValueError") (by rfl) T.b_ValueError (by first | exact PySem.boot_ValueError | decide +kernel) rfl) pa_nil))) (pe_and (pe_callE E_same (hr.mono (by first | decide | omega)) hot hp rfl D_same.g D_same.fn.kp D_same.b (pa_cons (pe_xp hp kC z no_word (pv 0)) (pa_cons (pv 2) pa_nil))) (pe_one (pe_cmpR (op_eqV (hu64 hr)) (pe_callE E_kinds (hr.mono (by first | decide | omega)) hot hp rfl D_kinds.g D_kinds.fn.kp D_kinds.b (pa_cons (pv 0) pa_nil)) (pe_lst (pa_cons (pv 1) (pa_cons (pv 2) pa_nil))) (nomark _)))))))), ?_⟩
    walk_at "rd"
    refine ⟨_, _, true, _, rfl, fun _ h => h, T.k_BadCells_ValueError, hd, ?_⟩
    walk_at "rd"
    refine ⟨rfl, _, _, hd, xd_word_BadCells v, ?_⟩
    walk_at "rd"
    refine ⟨d, v, rfl, ⟨z, hd⟩, fun l H' s1 hl => ?_⟩
    walk_at "rd"
    walk_at "nw"
    intro u hu
    refine ⟨2, by decide, .inl ⟨_, _, _, _, rfl, rfl, SqL.of (same_new hu _ _ hl), SqL.of upd_same, .cons (.inl ⟨rfl, rfl⟩) (.cons (.inl ⟨rfl, rfl⟩) .nil)⟩, ?_⟩
    exact q _ (s1.trans (same_new hu))
theorem ok_refusal_BadCells {f : Addr} {fd : FuncData} (F : Fun K "_law_refusal" "_law_refusal" s_refusal f fd) {f_clean : Addr} {fd_clean : FuncData} (D_clean : Def K mg "_law_clean" s_clean p_clean f_clean fd_clean) (E_clean : FnE P w K mg base 3 f_clean fd_clean p_clean (spClean C_BadCells "BadCells" "cells" "numbererror" "badcells")) : FnE P w K mg base 4 f fd p_refusal (spRefusal C_BadCells "BadCells" "cells" "badcells") := by
  refine F.okE sc_refusal (fun p vs H Q E h => ?_) (fun cdv A outer s H vs Q E p hot hr h => ?_)
  · obtain ⟨d, v, rfl, _⟩ := h
    rfl
  · obtain ⟨d, v, rfl, ⟨z, hd⟩, q⟩ := h
    have hp : p ∈ [p] := List.mem_singleton.mpr rfl
    have kC := T.lf_BadCells.kind
    have no_at := T.no_BadCells_at
    have no_cells := (T.lf_BadCells.nf "cells" List.mem_cons_self).1
    refine ⟨_, (pss_cons (ps_if (PW.pt (pw_and (pt_val (pe_callB (call_isP hp kC z) (by rfl) T.b_isinstance (by first | exact PySem.boot_isinstance | decide +kernel) (pa_cons (pv 0) (pa_cons (pe_glob (v := .ref C_BadMove) rfl T.g_BadMove rfl) pa_nil)))) (pw_and1 (pt_val (pe_callE E_clean (hr.mono (by first | decide | omega)) hot hp rfl D_clean.g D_clean.fn.kp D_clean.b (pa_cons (pv 0) (pa_cons pe_str (pa_cons pe_str pa_nil)))))))) (pss_one (ps_ret (by exact (pe_tup (pa_cons pe_str (pa_cons (pe_xp hp kC z no_at (pv 0)) pa_nil)))))) pss_nil)
      (pss_cons (ps_if (PW.pt (pw_and (pt_val (pe_callB (call_isP hp kC z) (by rfl) T.b_isinstance (by first | exact PySem.boot_isinstance | decide +kernel) (pa_cons (pv 0) (pa_cons (pe_glob (v := .ref C_BadCells) rfl T.g_BadCells rfl) pa_nil)))) (pw_and1 (pt_val (pe_callE E_clean (hr.mono (by first | decide | omega)) hot hp rfl D_clean.g D_clean.fn.kp D_clean.b (pa_cons (pv 0) (pa_cons pe_str (pa_cons pe_str pa_nil)))))))) (pss_one (ps_ret (by exact (pe_tup (pa_cons pe_str (pa_cons (pe_xp hp kC z no_cells (pv 0)) pa_nil)))))) pss_nil)
      (pss_one (ps_ret (by exact (pe_tup (pa_cons pe_str pa_nil))))))), ?_⟩
    walk_at "rd"
    refine ⟨_, _, false, _, rfl, fun _ h => h, T.k_BadCells_BadMove, hd, ?_⟩
    walk_at "rd"
    refine ⟨_, _, true, _, rfl, fun _ h => h, T.k_BadCells_BadCells, hd, ?_⟩
    walk_at "rd"
    refine ⟨d, v, rfl, ⟨z, hd⟩, fun H' s1 => ?_⟩
    walk_at "rd"
    refine ⟨rfl, _, _, s1 _ _ hd, xd_cells_BadCells v, ?_⟩
    walk_at "rd"
    walk_at "nw"
    intro t ht
    exact q t _ (s1.trans (same_new ht)) upd_same
end
end K12

set_option Elab.async false
set_option linter.all false
set_option maxRecDepth 100000
set_option maxHeartbeats 4000000
set_option pp.deepTerms false
set_option pp.deepTerms.threshold 12
namespace K12
open PySem PySem.Spec PyProof.Rows L2
local macro_rules | `(tactic| walk_at "ty") => `(tactic| first | exact .base (.int _) | exact .base (.bl _) | exact .base (.str _) | exact .base .non | assumption | exact .base (.tup (by assumption)) | exact .base (.lst (by assumption)))
local macro_rules | `(tactic| walk_at "cm") => `(tactic| first | exact cm_r (by decide) (by decide) | exact cm_l (by decide) (by decide) | exact cm_fmod (by decide) (by decide) | exact cm_r (by omega) (by omega) | exact cm_l (by omega) (by omega))
local macro_rules | `(tactic| walk_at "dv") => `(tactic| first | exact ⟨by decide, by decide⟩ | exact ⟨by omega, by omega⟩)
local macro_rules | `(tactic| walk_at "r1") => `(tactic| first
  | refine ⟨_, rfl, ?_⟩ | refine ⟨_, _, rfl, rfl, ?_⟩ | refine Or.inl ⟨_, rfl, ?_⟩ | refine Or.inr ⟨_, rfl, ?_⟩
  | refine And.intro (a := CMul _ _) (by walk_at "cm") ?_ | refine And.intro (a := CDivN _ _) (by walk_at "dv") ?_ | refine And.intro (a := _ ≠ (0 : Int)) (by first | decide | omega) ?_ | refine And.intro (a := scal _ _ = true) rfl ?_ | refine ⟨_, _, _, _, rfl, rfl, SqL.of (by first | exact upd_same | assumption), rfl, ?_⟩ | refine ⟨_, _, _, _, rfl, rfl, (by first | exact upd_same | assumption), rfl, ?_⟩ | refine ⟨_, _, rfl, ?_⟩ | refine And.intro (a := (_ : V) = V.non) rfl ?_ | refine And.intro (a := CPow _ _) ⟨by decide, by decide, by decide⟩ ?_ | refine And.intro (a := (_ : List V) = []) rfl ?_ | refine ⟨_, _, rfl, SqT.of (by first | exact upd_same | assumption), rfl, ?_⟩
  | refine ⟨_, _, _, _, rfl, rfl, SqT.of (by first | exact upd_same | assumption), rfl, ?_⟩
  | refine ⟨_, _, _, _, true, rfl, ClsV.ty _, (by walk_at "ty"), kit_ty (by decide +kernel), ?_⟩ | refine ⟨_, _, _, _, false, rfl, ClsV.ty _, (by walk_at "ty"), kit_ty (by decide +kernel), ?_⟩)
local macro_rules | `(tactic| walk_at "rd") => `(tactic| repeat walk_at "r1")
local macro_rules | `(tactic| walk_at "yes") => `(tactic| (change (if true = true then _ else _); rw [if_pos rfl]))
local macro_rules | `(tactic| walk_at "no") => `(tactic| (change (if false = true then _ else _); rw [if_neg Bool.false_ne_true]))
local macro_rules | `(tactic| walk_at "nw") => `(tactic| refine And.intro (a := _ ≤ sizeLine) (sz_le (Nat.le_of_ble_eq_true rfl)) ?_)

section
variable {P : Program} {w : World} {K : PySem.W.Frag} {mg : Str → Option Value} {base : Heap}
variable {C_VaultError C_TooMany C_NumberError C_BadPrime C_NoInverse C_NoNumber C_BadTable C_BadCells C_TextError C_ShapeError C_PlanError C_CourseError C_KnowError C_PaperError C_BadStep C_BadBlind C_BadMove C_NotShut C_NotOpen C_NotTheft C_NotPrice fV fI_BadMove fI_BadCells : Addr}
variable (T : Txt P K mg C_VaultError C_TooMany C_NumberError C_BadPrime C_NoInverse C_NoNumber C_BadTable C_BadCells C_TextError C_ShapeError C_PlanError C_CourseError C_KnowError C_PaperError C_BadStep C_BadBlind C_BadMove C_NotShut C_NotOpen C_NotTheft C_NotPrice fV fI_BadMove fI_BadCells)
include T
def HeldD (kvs : List (Key × V)) (h : Int → Option Int) : Prop := ∀ x : Int, valV kvs (Sum.inl x) = (h x).map V.int
omit T in
theorem HeldD.set {kvs : List (Key × V)} {h : Int → Option Int} (x : HeldD kvs h) (b v : Int) : HeldD (putK kvs (Sum.inl b) (.int v)) (setH h b v) := fun y => by
  rw [valV_put]
  by_cases e : y = b
  · subst e
    rw [if_pos rfl]
    show _ = (if y = y then some v else h y).map V.int
    rw [if_pos rfl]
    rfl
  · rw [if_neg (fun z => e (Sum.inl.inj z))]
    show _ = (if y = b then some v else h y).map V.int
    rw [if_neg e]
    exact x y
omit T in
theorem putK_len {kvs : List (Key × V)} {k : Key} {v : V} : (putK kvs k v).length ≤ kvs.length + 1 := by
  unfold putK
  split
  · rw [List.length_map]
    omega
  · rw [List.length_append]
    exact Nat.le_refl _
omit T in
theorem stepM_neg {n c : Int} {s : PlaySt} {m : Mv} (h : s.due = 0 ∨ ¬ okM c m) : stepM n c s m = none := by
  unfold stepM
  rw [if_pos h]
def spCheck (K : PySem.W.Frag) (Cc Cm : Addr) : Sp := fun vs H Q E => ∃ (n : Int) (b v : V), vs = [.int n, b, v] ∧
  ((∃ c : Int, b = .int c ∧ (0 ≤ n ∧ n ≤ 120 ∧ 1 ≤ c ∧ c ≤ 120) ∧ ∃ (a : Addr) (xs : List V) (ms : List Mv), v = .ref a ∧ (H a = some (.lst xs) ∨ H a = some (.tup xs)) ∧ xs.length ≤ 20000 ∧ IsMs H xs ms ∧
    ∀ H', Same H H' → (∀ k, verdict n c ms = .inl k → Q (.int k) H') ∧ ∀ j : Nat, verdict n c ms = .inr j → ∀ d, H' d = none → E (.ref Cm) (some d) (upd H' d (.xd (excD ["at"] "BadMove" [.int j])))) ∨
  ((∃ i, b = .int i ∧ i < 1) ∨ (∃ n, NotInt H b n)) ∧ ∀ d, H d = none → E (.ref Cc) (some d) (upd H d (.xd (excD ["cells"] "BadCells" [b]))))
def CkI (n c : Int) (a d : Addr) (ms : List Mv) (H : Hp) : Nat → L2.St → Hp → Prop := fun i σ H' => ∃ (kvs : List (Key × V)) (s : PlaySt) (v6 v7 v8 : Option V),
  σ = [some (.int n), some (.int c), some (.ref a), some (.ref d), some (.int s.due), some (.int s.ups), v6, v7, v8] ∧ Same H H' ∧ H' d = some (.dK kvs) ∧ HeldD kvs s.h ∧ kvs.length ≤ i + 1 ∧ 0 ≤ s.due ∧ s.due ≤ n ∧
  runM n c ms 0 (st0 n) = runM n c (ms.drop i) i s
omit T in
theorem HeldD.start {n : Int} : HeldD [(Sum.inl 0, .int 0)] (st0 n).h := fun x => by
  by_cases e : x = 0
  · subst e
    rfl
  · rw [valV_neg (fun z => e (Sum.inl.inj z).symm), valV_nil]
    show none = (if x = 0 then some 0 else none).map V.int
    rw [if_neg e]
    rfl
theorem ok_check_moves {f : Addr} {fd : FuncData} (F : Fun K "check_moves" "check_moves" s_check_moves f fd) {f_need_cells : Addr} {fd_need_cells : FuncData} (D_need_cells : Def K mg "need_cells" s_need_cells p_need_cells f_need_cells fd_need_cells) (G_need_cells : FnOk P w K mg base (L2N.CX P w) 3 f_need_cells fd_need_cells p_need_cells (spNeed C_BadCells)) {f_is_move : Addr} {fd_is_move : FuncData} (D_is_move : Def K mg "_is_move" s_is_move p_is_move f_is_move fd_is_move) (G_is_move : FnOk P w K mg base CX0 3 f_is_move fd_is_move p_is_move spIsM) : FnOk P w K mg base (L2N.CX P w) 4 f fd p_check_moves (spCheck K C_BadCells C_BadMove) := by
  refine F.okN sc_check_moves (fun vs H Q E h => ?_) (fun cdv A outer s H vs Q E hr h => ?_)
  · obtain ⟨n, b, v, rfl, _⟩ := h
    rfl
  · obtain ⟨n, b, v, rfl, q⟩ := h
    have tk := L2N.takes_of (X := cxOf (L2N.CX P w) P w K mg base N_check_moves "check_moves" (defScope s_check_moves) f cdv A outer s H E) rfl rfl rfl rfl
    have passO := passes_of (X := cxOf (L2N.CX P w) P w K mg base N_check_moves "check_moves" (defScope s_check_moves) f cdv A outer s H E) rfl
    refine ⟨_, (pss_cons (ps_expr (pe_callS G_need_cells (hr.mono (by first | decide | omega)) rfl D_need_cells.g D_need_cells.fn.kp D_need_cells.b (fun σ => L2N.passAt tk σ) (pa_cons (pv 1) pa_nil)))
      (pss_cons (ps_set (i := 3) sc_check_moves.nd rfl (Or.inl rfl) (by exact (pe_disp (pps_cons pe_int pe_int pps_nil) (by rfl) (by rfl) (fun z => by cases z) (by decide))))
      (pss_cons (ps_set (i := 4) sc_check_moves.nd rfl (Or.inl rfl) (by exact (pv 0)))
      (pss_cons (ps_set (i := 5) sc_check_moves.nd rfl (Or.inl rfl) (by exact pe_int))
      (pss_cons (ps_for passO rfl (pi_enum2 (by rfl) T.b_enumerate (pa_cons (pv 2) pa_nil)) (pg_tup rfl (pgs_cons (pg_name (i := 6) sc_check_moves.nd rfl (Or.inl rfl)) (pgs_cons (pg_name (i := 7) sc_check_moves.nd rfl (Or.inl rfl)) pgs_nil))) (pss_cons (ps_if (PW.pt (pw_or (pt_cmpR op_eq (pv 4) pe_int (nomark _)) (pw_or (pt_not (pt_val (pe_call G_is_move (hr.mono (by first | decide | omega)) rfl D_is_move.g D_is_move.fn.kp D_is_move.b .nil pass0 (pa_cons (pv 7) (pa_cons (pv 1) pa_nil))))) (pw_or1 (pt_cmp (pc_dnotin (hu_of hr) (pe_ix ix_tup (pv 7) pe_int (fun _ _ => rfl)) (pv 3))))))) (pss_one (ps_raiseN rfl T.lf_BadMove hr (L2N.takes_of rfl rfl rfl rfl) T.g_BadMove (pa_cons (pv 6) pa_nil))) pss_nil)
          (pss_cons (ps_set (i := 8) sc_check_moves.nd rfl (Or.inl rfl) (by exact (pe_dget (hu_of hr) (pv 3) (pe_ix ix_tup (pv 7) pe_int (fun _ _ => rfl)) (fun _ _ => rfl))))
          (pss_one (ps_if (PW.pt (pw_and (pt_cmpR op_eq (pe_ix ix_tup (pv 7) pe_int (fun _ _ => rfl)) pe_str (nomark _)) (pw_and1 (pt_cmpR op_lt (pv 8) (pv 0) (nomark _))))) (pss_cons (ps_dput (hu_of hr) (pv 3) (pe_ix ix_tup (pv 7) pe_int (fun _ _ => rfl)) (pe_op op_add (pv 8) pe_int) rfl)
              (pss_one (ps_aug (i := 5) sc_check_moves.nd rfl (Or.inl rfl) pe_int ip_add))) (pss_one (ps_if (PW.pt (pw_and (pt_cmpR op_eq (pe_ix ix_tup (pv 7) pe_int (fun _ _ => rfl)) pe_str (nomark _)) (pw_and1 (pt_cmpR op_eq (pv 8) (pv 4) (nomark _))))) (pss_one (ps_aug (i := 4) sc_check_moves.nd rfl (Or.inl rfl) pe_int ip_sub)) (pss_one (ps_raiseN rfl T.lf_BadMove hr (L2N.takes_of rfl rfl rfl rfl) T.g_BadMove (pa_cons (pv 6) pa_nil))))))))))
      (pss_cons (ps_if (pt_cmpR op_gt (pv 4) pe_int (nomark _)) (pss_one (ps_raiseN rfl T.lf_BadMove hr (L2N.takes_of rfl rfl rfl rfl) T.g_BadMove (pa_cons (pe_callB call_len_seq (by rfl) T.b_len (by first | exact PySem.boot_len | decide +kernel) (pa_cons (pv 2) pa_nil)) pa_nil))) pss_nil)
      (pss_one (ps_ret (by exact (pv 5)))))))))), ?_⟩
    walk_at "rd"
    rcases q with ⟨c, rfl, ⟨n0, n1, c0, c1⟩, a, xs, ms, rfl, hv, hz, hm, q⟩ | ⟨h, q⟩
    · refine .inl ⟨_, rfl, by omega, ?_⟩
      walk_at "rd"
      intro d hd
      refine ⟨upd_same, [(Sum.inl 0, .int 0)], rfl, by show 1 ≤ 15; decide, ?_⟩
      generalize hg : upd (upd H d _) d _ = H1
      have s1 : Same H H1 := by rw [← hg, upd2]; exact same_new hd
      have e1 : H1 d = some (.dK [(Sum.inl 0, .int 0)]) := by rw [← hg]; exact upd_same
      clear hg
      walk_at "rd"
      have h0 : CkI n c a d ms H 0 [some (.int n), some (.int c), some (.ref a), some (.ref d), some (.int n), some (.int 0), none, none, none] H1 := ⟨_, st0 n, none, none, none, rfl, s1, e1, .start, Nat.le_refl _, n0, Int.le_refl _, rfl⟩
      rcases hv with hv | hv
      · refine .inl ⟨⟨xs, SqL.of (s1 _ _ hv)⟩, for_enumL (K := K) (a := a) (xs := xs) (CkI n c a d ms H) h0 (fun i σ H' _ z => ?_) ?_ ?_⟩
        · obtain ⟨_, _, _, _, _, _, z, _⟩ := z
          exact SqL.of (z _ _ hv)
        · rintro i x t σ H5 hi ht ⟨kvs, s, v6, v7, v8, rfl, s5, e5, hh, hk, d0, d1, hrun⟩
          obtain ⟨m, hmi, him⟩ := pairedAt hm hi
          rw [runM_at hmi] at hrun
          generalize hg : upd H5 t _ = H6
          have st : Same H5 H6 := by rw [← hg]; exact same_new ht
          have e6t : H6 t = some (.tup [.int i, x]) := by rw [← hg]; exact upd_same
          have e6 := st _ _ e5
          have s6 : Same H H6 := s5.trans st
          clear hg
          refine ⟨t, [.int i, x], rfl, SqT.of e6t, rfl, ?_⟩
          walk_at "rd"
          have bad : stepM n c s m = none → ∀ H7, Same H6 H7 → ∀ e, H7 e = none → E (.ref C_BadMove) (some e) (upd H7 e (.xd (excD ["at"] "BadMove" [.int (i : Nat)]))) := by
            intro hn H7 s7
            rw [hn] at hrun
            refine (q H7 (s6.trans s7)).2 i ?_
            unfold verdict
            rw [hrun]
          refine ite2 (fun hc => ?_) (fun hc => ?_)
          · have hdue : s.due = 0 := V.int.inj (of_decide_eq_true hc)
            walk_at "rd"
            exact ⟨rfl, fun e he => bad (stepM_neg (.inl hdue)) _ (fun _ _ z => z) e he⟩
          have hdue : s.due ≠ 0 := fun z => of_ndec hc (congrArg V.int z)
          walk_at "rd"
          have him6 := him.keep s6
          refine ⟨m, him6, fun bb hb => ?_⟩
          cases bb with
          | false =>
            have hno : ¬ okM c m := fun z => absurd (hb.mpr z) Bool.false_ne_true
            walk_at "rd"
            exact ⟨rfl, fun e he => bad (stepM_neg (.inr hno)) _ (fun _ _ z => z) e he⟩
          | true =>
            have hok := hb.mp rfl
            have hif : ¬ (s.due = 0 ∨ ¬ okM c m) := fun z => z.elim hdue fun w => w hok
            clear him hb
            cases him6 with
            | up w a1 b1 hw =>
              obtain ⟨⟨a0, a1'⟩, b0, b1'⟩ := hok
              iterate 4 walk_at "r1"
              refine ⟨d, _, rfl, DGet.k (k := Sum.inl a1) e6, ?_⟩
              rw [hh a1]
              cases hsa : s.h a1 with
              | none =>
                have hn : stepM n c s (.up a1 b1) = none := by
                  unfold stepM
                  rw [if_neg hif]
                  simp only [hsa]
                walk_at "rd"
                exact ⟨rfl, fun e he => bad hn _ (fun _ _ z => z) e he⟩
              | some i0 =>
                have hg1 : DGet H6 d (.int a1) (some (.int i0)) := by
                  have := DGet.k (k := Sum.inl a1) e6
                  rwa [hh a1, hsa] at this
                iterate 4 walk_at "r1"
                refine ⟨d, .int i0, rfl, hg1, ?_⟩
                walk_at "rd"
                refine ite2 (fun hc2 => ?_) (fun hc2 => ?_)
                · have hlt := of_decide_eq_true hc2
                  have hn : stepM n c s (.up a1 b1) = some ⟨setH s.h b1 (i0 + 1), s.due, s.ups + 1⟩ := by
                    unfold stepM
                    rw [if_neg hif]
                    simp only [hsa]
                    rw [if_pos hlt]
                  rw [hn] at hrun
                  have hi3 : i < xs.length := (List.getElem?_eq_some_iff.mp hi).1
                  iterate 5 walk_at "r1"
                  refine ⟨d, _, rfl, DPut.k (k := Sum.inl b1) e6 (sz_lt (by omega)), ?_⟩
                  walk_at "rd"
                  exact ⟨_, ⟨setH s.h b1 (i0 + 1), s.due, s.ups + 1⟩, _, _, _, rfl, s6.mut hd, upd_same, hh.set b1 (i0 + 1), Nat.le_trans putK_len (by omega), d0, d1, hrun⟩
                · have hn : stepM n c s (.up a1 b1) = none := by
                    unfold stepM
                    rw [if_neg hif]
                    simp only [hsa]
                    rw [if_neg (of_ndec hc2)]
                  walk_at "rd"
                  exact ⟨rfl, fun e he => bad hn _ (fun _ _ z => z) e he⟩
            | read w a1 hw =>
              obtain ⟨a0, a1'⟩ := hok
              iterate 4 walk_at "r1"
              refine ⟨d, _, rfl, DGet.k (k := Sum.inl a1) e6, ?_⟩
              rw [hh a1]
              cases hsa : s.h a1 with
              | none =>
                have hn : stepM n c s (.read a1) = none := by
                  unfold stepM
                  rw [if_neg hif]
                  show (if s.h a1 = some s.due then _ else _) = none
                  rw [if_neg fun w => by rw [hsa] at w; cases w]
                walk_at "rd"
                exact ⟨rfl, fun e he => bad hn _ (fun _ _ z => z) e he⟩
              | some i0 =>
                have hg1 : DGet H6 d (.int a1) (some (.int i0)) := by
                  have := DGet.k (k := Sum.inl a1) e6
                  rwa [hh a1, hsa] at this
                iterate 4 walk_at "r1"
                refine ⟨d, .int i0, rfl, hg1, ?_⟩
                walk_at "rd"
                refine ite2 (fun hc2 => ?_) (fun hc2 => ?_)
                · have hz : i0 = s.due := V.int.inj (of_decide_eq_true hc2)
                  have hn : stepM n c s (.read a1) = some ⟨s.h, s.due - 1, s.ups⟩ := by
                    unfold stepM
                    rw [if_neg hif]
                    show (if s.h a1 = some s.due then _ else _) = _
                    rw [if_pos (by rw [hsa, hz])]
                  rw [hn] at hrun
                  walk_at "rd"
                  exact ⟨kvs, ⟨s.h, s.due - 1, s.ups⟩, _, _, _, rfl, s6, e6, hh, by omega, by show 0 ≤ s.due - 1; omega, by show s.due - 1 ≤ n; omega, hrun⟩
                · have hz : i0 ≠ s.due := fun w => of_ndec hc2 (congrArg V.int w)
                  have hn : stepM n c s (.read a1) = none := by
                    unfold stepM
                    rw [if_neg hif]
                    show (if s.h a1 = some s.due then _ else _) = none
                    rw [if_neg fun w => by
                      rw [hsa] at w
                      exact hz (Option.some.inj w)]
                  walk_at "rd"
                  exact ⟨rfl, fun e he => bad hn _ (fun _ _ z => z) e he⟩
            | _ => exact hok.elim
        · rintro σ H5 ⟨kvs, s, v6, v7, v8, rfl, s5, e5, hh, hk, d0, d1, hrun⟩
          walk_at "rd"
          refine ite2 (fun hc => ?_) (fun hc => ?_)
          · have hz := of_decide_eq_true hc
            walk_at "rd"
            refine ⟨a, xs, rfl, ?_, ?_⟩
            · first | exact .inl (SqL.of (s5 _ _ hv)) | exact .inr (SqT.of (s5 _ _ hv))
            walk_at "rd"
            refine ⟨rfl, fun e he => ?_⟩
            refine (q H5 s5).2 xs.length ?_ e he
            have hlen : ms.length = xs.length := hm.length.symm
            unfold verdict
            rw [hrun, ← hlen, List.drop_length]
            show (if s.due > 0 then (Sum.inr ms.length : Int ⊕ Nat) else _) = _
            rw [if_pos hz]
          · have hz := of_ndec hc
            walk_at "rd"
            refine (q H5 s5).1 s.ups ?_
            have hlen : ms.length = xs.length := hm.length.symm
            unfold verdict
            rw [hrun, ← hlen, List.drop_length]
            show (if s.due > 0 then _ else (Sum.inl s.ups : Int ⊕ Nat)) = _
            rw [if_neg hz]
      · refine .inr ⟨⟨xs, SqT.of (s1 _ _ hv)⟩, for_enumT (K := K) (a := a) (xs := xs) (CkI n c a d ms H) h0 (fun i σ H' _ z => ?_) ?_ ?_⟩
        · obtain ⟨_, _, _, _, _, _, z, _⟩ := z
          exact SqT.of (z _ _ hv)
        · rintro i x t σ H5 hi ht ⟨kvs, s, v6, v7, v8, rfl, s5, e5, hh, hk, d0, d1, hrun⟩
          obtain ⟨m, hmi, him⟩ := pairedAt hm hi
          rw [runM_at hmi] at hrun
          generalize hg : upd H5 t _ = H6
          have st : Same H5 H6 := by rw [← hg]; exact same_new ht
          have e6t : H6 t = some (.tup [.int i, x]) := by rw [← hg]; exact upd_same
          have e6 := st _ _ e5
          have s6 : Same H H6 := s5.trans st
          clear hg
          refine ⟨t, [.int i, x], rfl, SqT.of e6t, rfl, ?_⟩
          walk_at "rd"
          have bad : stepM n c s m = none → ∀ H7, Same H6 H7 → ∀ e, H7 e = none → E (.ref C_BadMove) (some e) (upd H7 e (.xd (excD ["at"] "BadMove" [.int (i : Nat)]))) := by
            intro hn H7 s7
            rw [hn] at hrun
            refine (q H7 (s6.trans s7)).2 i ?_
            unfold verdict
            rw [hrun]
          refine ite2 (fun hc => ?_) (fun hc => ?_)
          · have hdue : s.due = 0 := V.int.inj (of_decide_eq_true hc)
            walk_at "rd"
            exact ⟨rfl, fun e he => bad (stepM_neg (.inl hdue)) _ (fun _ _ z => z) e he⟩
          have hdue : s.due ≠ 0 := fun z => of_ndec hc (congrArg V.int z)
          walk_at "rd"
          have him6 := him.keep s6
          refine ⟨m, him6, fun bb hb => ?_⟩
          cases bb with
          | false =>
            have hno : ¬ okM c m := fun z => absurd (hb.mpr z) Bool.false_ne_true
            walk_at "rd"
            exact ⟨rfl, fun e he => bad (stepM_neg (.inr hno)) _ (fun _ _ z => z) e he⟩
          | true =>
            have hok := hb.mp rfl
            have hif : ¬ (s.due = 0 ∨ ¬ okM c m) := fun z => z.elim hdue fun w => w hok
            clear him hb
            cases him6 with
            | up w a1 b1 hw =>
              obtain ⟨⟨a0, a1'⟩, b0, b1'⟩ := hok
              iterate 4 walk_at "r1"
              refine ⟨d, _, rfl, DGet.k (k := Sum.inl a1) e6, ?_⟩
              rw [hh a1]
              cases hsa : s.h a1 with
              | none =>
                have hn : stepM n c s (.up a1 b1) = none := by
                  unfold stepM
                  rw [if_neg hif]
                  simp only [hsa]
                walk_at "rd"
                exact ⟨rfl, fun e he => bad hn _ (fun _ _ z => z) e he⟩
              | some i0 =>
                have hg1 : DGet H6 d (.int a1) (some (.int i0)) := by
                  have := DGet.k (k := Sum.inl a1) e6
                  rwa [hh a1, hsa] at this
                iterate 4 walk_at "r1"
                refine ⟨d, .int i0, rfl, hg1, ?_⟩
                walk_at "rd"
                refine ite2 (fun hc2 => ?_) (fun hc2 => ?_)
                · have hlt := of_decide_eq_true hc2
                  have hn : stepM n c s (.up a1 b1) = some ⟨setH s.h b1 (i0 + 1), s.due, s.ups + 1⟩ := by
                    unfold stepM
                    rw [if_neg hif]
                    simp only [hsa]
                    rw [if_pos hlt]
                  rw [hn] at hrun
                  have hi3 : i < xs.length := (List.getElem?_eq_some_iff.mp hi).1
                  iterate 5 walk_at "r1"
                  refine ⟨d, _, rfl, DPut.k (k := Sum.inl b1) e6 (sz_lt (by omega)), ?_⟩
                  walk_at "rd"
                  exact ⟨_, ⟨setH s.h b1 (i0 + 1), s.due, s.ups + 1⟩, _, _, _, rfl, s6.mut hd, upd_same, hh.set b1 (i0 + 1), Nat.le_trans putK_len (by omega), d0, d1, hrun⟩
                · have hn : stepM n c s (.up a1 b1) = none := by
                    unfold stepM
                    rw [if_neg hif]
                    simp only [hsa]
                    rw [if_neg (of_ndec hc2)]
                  walk_at "rd"
                  exact ⟨rfl, fun e he => bad hn _ (fun _ _ z => z) e he⟩
            | read w a1 hw =>
              obtain ⟨a0, a1'⟩ := hok
              iterate 4 walk_at "r1"
              refine ⟨d, _, rfl, DGet.k (k := Sum.inl a1) e6, ?_⟩
              rw [hh a1]
              cases hsa : s.h a1 with
              | none =>
                have hn : stepM n c s (.read a1) = none := by
                  unfold stepM
                  rw [if_neg hif]
                  show (if s.h a1 = some s.due then _ else _) = none
                  rw [if_neg fun w => by rw [hsa] at w; cases w]
                walk_at "rd"
                exact ⟨rfl, fun e he => bad hn _ (fun _ _ z => z) e he⟩
              | some i0 =>
                have hg1 : DGet H6 d (.int a1) (some (.int i0)) := by
                  have := DGet.k (k := Sum.inl a1) e6
                  rwa [hh a1, hsa] at this
                iterate 4 walk_at "r1"
                refine ⟨d, .int i0, rfl, hg1, ?_⟩
                walk_at "rd"
                refine ite2 (fun hc2 => ?_) (fun hc2 => ?_)
                · have hz : i0 = s.due := V.int.inj (of_decide_eq_true hc2)
                  have hn : stepM n c s (.read a1) = some ⟨s.h, s.due - 1, s.ups⟩ := by
                    unfold stepM
                    rw [if_neg hif]
                    show (if s.h a1 = some s.due then _ else _) = _
                    rw [if_pos (by rw [hsa, hz])]
                  rw [hn] at hrun
                  walk_at "rd"
                  exact ⟨kvs, ⟨s.h, s.due - 1, s.ups⟩, _, _, _, rfl, s6, e6, hh, by omega, by show 0 ≤ s.due - 1; omega, by show s.due - 1 ≤ n; omega, hrun⟩
                · have hz : i0 ≠ s.due := fun w => of_ndec hc2 (congrArg V.int w)
                  have hn : stepM n c s (.read a1) = none := by
                    unfold stepM
                    rw [if_neg hif]
                    show (if s.h a1 = some s.due then _ else _) = none
                    rw [if_neg fun w => by
                      rw [hsa] at w
                      exact hz (Option.some.inj w)]
                  walk_at "rd"
                  exact ⟨rfl, fun e he => bad hn _ (fun _ _ z => z) e he⟩
            | _ => exact hok.elim
        · rintro σ H5 ⟨kvs, s, v6, v7, v8, rfl, s5, e5, hh, hk, d0, d1, hrun⟩
          walk_at "rd"
          refine ite2 (fun hc => ?_) (fun hc => ?_)
          · have hz := of_decide_eq_true hc
            walk_at "rd"
            refine ⟨a, xs, rfl, ?_, ?_⟩
            · first | exact .inl (SqL.of (s5 _ _ hv)) | exact .inr (SqT.of (s5 _ _ hv))
            walk_at "rd"
            refine ⟨rfl, fun e he => ?_⟩
            refine (q H5 s5).2 xs.length ?_ e he
            have hlen : ms.length = xs.length := hm.length.symm
            unfold verdict
            rw [hrun, ← hlen, List.drop_length]
            show (if s.due > 0 then (Sum.inr ms.length : Int ⊕ Nat) else _) = _
            rw [if_pos hz]
          · have hz := of_ndec hc
            walk_at "rd"
            refine (q H5 s5).1 s.ups ?_
            have hlen : ms.length = xs.length := hm.length.symm
            unfold verdict
            rw [hrun, ← hlen, List.drop_length]
            show (if s.due > 0 then _ else (Sum.inl s.ups : Int ⊕ Nat)) = _
            rw [if_neg hz]
    · exact .inr ⟨h, q⟩
end
end K12

set_option Elab.async false
set_option linter.all false
set_option maxRecDepth 100000
set_option maxHeartbeats 4000000
set_option pp.deepTerms false
set_option pp.deepTerms.threshold 12
namespace K12
open PySem PySem.Spec PyProof.Rows L2
local macro_rules | `(tactic| walk_at "ty") => `(tactic| first | exact .base (.int _) | exact .base (.bl _) | exact .base (.str _) | exact .base .non | assumption | exact .base (.tup (by assumption)) | exact .base (.lst (by assumption)))
local macro_rules | `(tactic| walk_at "cm") => `(tactic| first | exact cm_r (by decide) (by decide) | exact cm_l (by decide) (by decide) | exact cm_fmod (by decide) (by decide) | exact cm_r (by omega) (by omega) | exact cm_l (by omega) (by omega))
local macro_rules | `(tactic| walk_at "dv") => `(tactic| first | exact ⟨by decide, by decide⟩ | exact ⟨by omega, by omega⟩)
local macro_rules | `(tactic| walk_at "r1") => `(tactic| first
  | refine ⟨_, rfl, ?_⟩ | refine ⟨_, _, rfl, rfl, ?_⟩ | refine Or.inl ⟨_, rfl, ?_⟩ | refine Or.inr ⟨_, rfl, ?_⟩
  | refine And.intro (a := CMul _ _) (by walk_at "cm") ?_ | refine And.intro (a := CDivN _ _) (by walk_at "dv") ?_ | refine And.intro (a := _ ≠ (0 : Int)) (by first | decide | omega) ?_ | refine And.intro (a := scal _ _ = true) rfl ?_ | refine ⟨_, _, _, _, rfl, rfl, SqL.of (by first | exact upd_same | assumption), rfl, ?_⟩ | refine ⟨_, _, _, _, rfl, rfl, (by first | exact upd_same | assumption), rfl, ?_⟩ | refine ⟨_, _, rfl, ?_⟩ | refine And.intro (a := (_ : V) = V.non) rfl ?_ | refine And.intro (a := CPow _ _) ⟨by decide, by decide, by decide⟩ ?_ | refine And.intro (a := (_ : List V) = []) rfl ?_ | refine ⟨_, _, rfl, SqT.of (by first | exact upd_same | assumption), rfl, ?_⟩
  | refine ⟨_, _, _, _, rfl, rfl, SqT.of (by first | exact upd_same | assumption), rfl, ?_⟩
  | refine ⟨_, _, _, _, true, rfl, ClsV.ty _, (by walk_at "ty"), kit_ty (by decide +kernel), ?_⟩ | refine ⟨_, _, _, _, false, rfl, ClsV.ty _, (by walk_at "ty"), kit_ty (by decide +kernel), ?_⟩)
local macro_rules | `(tactic| walk_at "rd") => `(tactic| repeat walk_at "r1")
local macro_rules | `(tactic| walk_at "yes") => `(tactic| (change (if true = true then _ else _); rw [if_pos rfl]))
local macro_rules | `(tactic| walk_at "no") => `(tactic| (change (if false = true then _ else _); rw [if_neg Bool.false_ne_true]))
local macro_rules | `(tactic| walk_at "nw") => `(tactic| refine And.intro (a := _ ≤ sizeLine) (sz_le (Nat.le_of_ble_eq_true rfl)) ?_)

section
variable {P : Program} {w : World} {K : PySem.W.Frag} {mg : Str → Option Value} {base : Heap}
variable {C_VaultError C_TooMany C_NumberError C_BadPrime C_NoInverse C_NoNumber C_BadTable C_BadCells C_TextError C_ShapeError C_PlanError C_CourseError C_KnowError C_PaperError C_BadStep C_BadBlind C_BadMove C_NotShut C_NotOpen C_NotTheft C_NotPrice fV fI_BadMove fI_BadCells : Addr}
variable (T : Txt P K mg C_VaultError C_TooMany C_NumberError C_BadPrime C_NoInverse C_NoNumber C_BadTable C_BadCells C_TextError C_ShapeError C_PlanError C_CourseError C_KnowError C_PaperError C_BadStep C_BadBlind C_BadMove C_NotShut C_NotOpen C_NotTheft C_NotPrice fV fI_BadMove fI_BadCells)
include T
/-! ### small things, and how they are shown -/
def SmV : V → Bool
  | .non => true
  | .bl _ => true
  | .int i => decide (-127 ≤ i ∧ i ≤ 127)
  | .str s => (s.cps.toList.all fun c => decide (c < 16 ^ 8)) && decide (s.cps.size ≤ 8)
  | _ => false
def pdOf : V → PyData
  | .bl b => .bool b
  | .int i => .int i
  | .str s => .str s
  | _ => .none
omit T in
theorem SmV.flat {v : V} (h : SmV v = true) : flatV v = true := by
  cases v <;> first | rfl | cases h
structure Shn (d : PyData) (k m : Nat) : Prop where
  sh : d.showable = true
  nd : d.hasDict = false
  dp : d.depth ≤ k
  lv : d.leavesShort 13 = true
  wt : d.weight ≤ m
structure Shns (ds : List PyData) (k m : Nat) : Prop where
  sh : PyData.showableAll ds = true
  nd : PyData.hasDictAll ds = false
  dp : PyData.depthAll ds ≤ k
  lv : PyData.leavesShortAll 13 ds = true
  wt : PyData.weightAll ds ≤ m
omit T in
theorem Shns.nil {k : Nat} : Shns [] k 0 := ⟨rfl, rfl, Nat.zero_le _, rfl, Nat.le_refl _⟩
omit T in
theorem Shns.cons {d : PyData} {ds : List PyData} {k m n : Nat} (h : Shn d k m) (r : Shns ds k n) : Shns (d :: ds) k (m + 1 + n) := by
  refine ⟨?_, ?_, ?_, ?_, ?_⟩
  · show (d.showable && PyData.showableAll ds) = true
    rw [h.sh, r.sh]
    rfl
  · show (d.hasDict || PyData.hasDictAll ds) = false
    rw [h.nd, r.nd]
    rfl
  · show max d.depth (PyData.depthAll ds) ≤ k
    exact Nat.max_le.mpr ⟨h.dp, r.dp⟩
  · show (d.leavesShort 13 && PyData.leavesShortAll 13 ds) = true
    rw [h.lv, r.lv]
    rfl
  · show d.weight + 1 + PyData.weightAll ds ≤ _
    have := h.wt
    have := r.wt
    omega
omit T in
theorem Shns.lst {ds : List PyData} {k m : Nat} (r : Shns ds k m) : Shn (.list ds) (k + 1) m := ⟨r.sh, r.nd, Nat.succ_le_succ r.dp, r.lv, r.wt⟩
omit T in
theorem Shns.tup {ds : List PyData} {k m : Nat} (r : Shns ds k m) : Shn (.tuple ds) (k + 1) m := ⟨r.sh, r.nd, Nat.succ_le_succ r.dp, r.lv, r.wt⟩
omit T in
theorem Shn.le {d : PyData} {k m k' m' : Nat} (h : Shn d k m) (hk : k ≤ k') (hm : m ≤ m') : Shn d k' m' := ⟨h.sh, h.nd, Nat.le_trans h.dp hk, h.lv, Nat.le_trans h.wt hm⟩
omit T in
theorem SmV.shn {v : V} (h : SmV v = true) : Shn (pdOf v) 0 8 := by
  cases v with
  | non => exact ⟨rfl, rfl, Nat.le_refl _, rfl, Nat.zero_le _⟩
  | bl b => exact ⟨rfl, rfl, Nat.le_refl _, rfl, Nat.zero_le _⟩
  | int i =>
    have hi : -127 ≤ i ∧ i ≤ 127 := of_decide_eq_true h
    have hn : i.natAbs ≤ 127 := by omega
    have hl : i.natAbs.log2 ≤ 6 := by
      have : ∀ n, n ≤ 127 → n.log2 ≤ 6 := by decide +kernel
      exact this _ hn
    refine ⟨decide_eq_true (by omega), rfl, Nat.le_refl _, decide_eq_true (PyData.shown_int_le (by omega)), ?_⟩
    show (if (i == 0) = true then 0 else i.natAbs.log2 + 1) ≤ 8
    split <;> omega
  | str s =>
    have h2 : ((s.cps.toList.all fun c => decide (c < 16 ^ 8)) && decide (s.cps.size ≤ 8)) = true := h
    rw [Bool.and_eq_true] at h2
    exact ⟨rfl, rfl, Nat.le_refl _, h2.1, of_decide_eq_true h2.2⟩
  | _ => cases h
omit T in
theorem SmV.rd {H : Hp} {v : V} (h : SmV v = true) : RdV H v (pdOf v) := by
  cases v with
  | non => exact .non
  | bl b => exact .bl b
  | int i => exact .int i
  | str s => exact .str s
  | _ => cases h
omit T in
theorem SmV.all {H : Hp} : ∀ {ys : List V}, (∀ y ∈ ys, SmV y = true) → RdVs H ys (ys.map pdOf) ∧ Shns (ys.map pdOf) 0 (9 * ys.length)
  | [], _ => ⟨.nil, .nil⟩
  | y :: ys, h => by
    have h1 := h y List.mem_cons_self
    obtain ⟨r, s⟩ := SmV.all fun z hz => h z (List.mem_cons_of_mem _ hz)
    refine ⟨.cons (SmV.rd h1) r, ?_⟩
    have := Shns.cons (SmV.shn h1) s
    rw [show 9 * (y :: ys).length = 8 + 1 + 9 * ys.length by rw [List.length_cons]; omega]
    exact this
/-! ### what stands in the lists of moves -/
inductive It1 (st : Addr) (H : Hp) : V → Prop
  | flat (v : V) (h : SmV v = true) : It1 st H v
  | lst (a : Addr) (ys : List V) (n : a ≠ st) (h : H a = some (.lst ys)) (f : ∀ y ∈ ys, SmV y = true) (l : ys.length ≤ 4) : It1 st H (.ref a)
  | nil (a : Addr) (h : H a = some (.tup [])) : It1 st H (.ref a)
  | tup (a : Addr) (w : Str) (rest : List V) (h : H a = some (.tup (.str w :: rest))) (f : ∀ y ∈ (.str w :: rest), SmV y = true) (l : rest.length ≤ 3) : It1 st H (.ref a)
/-- a tuple stays a tuple -/
def TK (H H' : Hp) : Prop := ∀ b xs, H b = some (.tup xs) → H' b = some (.tup xs)
omit T in
theorem TK.but {st : Addr} {H H' : Hp} (S : Store H st) (b : ButS st H H') : TK H H' := fun t xs h => b.1 _ _ (fun z => by
  obtain ⟨_, _, _, _, _, _, _, _, e, _⟩ := S.ex
  rw [z, e] at h
  cases h) h
omit T in
theorem TK.mut {p : Addr} {H : Hp} {ys : List V} {o : HO} (e : H p = some (.lst ys)) : TK H (upd H p o) := fun t xs h => by
  rw [upd_ne fun z => by rw [z, e] at h; cases h]
  exact h
omit T in
theorem TK.of {H H' : Hp} (s : Same H H') : TK H H' := fun _ _ h => s _ _ h
omit T in
theorem TK.trans {H H1 H2 : Hp} (a : TK H H1) (b : TK H1 H2) : TK H H2 := fun t xs h => b _ _ (a _ _ h)
omit T in
theorem It1.keep {st : Addr} {H H' : Hp} {v : V} (h : It1 st H v) (S : Store H st) (b : ButS st H H') : It1 st H' v := by
  cases h with
  | flat v h => exact .flat v h
  | lst a ys n h f l => exact .lst a ys n (b.1 _ _ n h) f l
  | nil a h => exact .nil a (TK.but S b _ _ h)
  | tup a w rest h f l => exact .tup a w rest (TK.but S b _ _ h) f l
omit T in
theorem It1.ism {st : Addr} {H : Hp} {v : V} (h : It1 st H v) : ∃ m, IsM H v m := by
  cases h with
  | flat v h => exact ⟨_, .flat v (SmV.flat h)⟩
  | lst a ys n h f l => exact ⟨_, .lst a ys h⟩
  | nil a h => exact ⟨_, .nil a h⟩
  | tup a w rest h f l =>
    have fl : ∀ x ∈ rest, flatV x = true := fun x hx => SmV.flat (f x (List.mem_cons_of_mem _ hx))
    by_cases h1 : w = "up" ∧ ∃ x y, rest = [.int x, .int y]
    · obtain ⟨rfl, x, y, rfl⟩ := h1
      exact ⟨_, .up a x y h⟩
    by_cases h2 : w = "read" ∧ ∃ x, rest = [.int x]
    · obtain ⟨rfl, x, rfl⟩ := h2
      exact ⟨_, .read a x h⟩
    exact ⟨_, .tup a w rest h fl (fun e x y z => h1 ⟨e, x, y, z⟩) fun e x z => h2 ⟨e, x, z⟩⟩
omit T in
theorem It1.shn {st : Addr} {H : Hp} {v : V} (h : It1 st H v) : ∃ d, RdV H v d ∧ Shn d 1 36 := by
  cases h with
  | flat v h => exact ⟨_, SmV.rd h, (SmV.shn h).le (by decide) (by decide)⟩
  | lst a ys n h f l =>
    obtain ⟨r, s⟩ := SmV.all (H := H) f
    exact ⟨_, .lst h r, (s.lst).le (by decide) (by omega)⟩
  | nil a h => exact ⟨_, .tup h .nil, ((Shns.nil (k := 0)).tup).le (by decide) (by decide)⟩
  | tup a w rest h f l =>
    obtain ⟨r, s⟩ := SmV.all (H := H) f
    exact ⟨_, .tup h r, (s.tup).le (by decide) (by rw [List.length_cons]; omega)⟩
omit T in
theorem It1s.ism {st : Addr} {H : Hp} : ∀ {xs : List V}, (∀ x ∈ xs, It1 st H x) → ∃ ms, IsMs H xs ms
  | [], _ => ⟨[], .nil⟩
  | x :: xs, h => by
    obtain ⟨m, hm⟩ := (h x List.mem_cons_self).ism
    obtain ⟨ms, hms⟩ := It1s.ism fun y hy => h y (List.mem_cons_of_mem _ hy)
    exact ⟨m :: ms, .cons hm hms⟩
omit T in
theorem It1s.shn {st : Addr} {H : Hp} : ∀ {xs : List V}, (∀ x ∈ xs, It1 st H x) → ∃ ds, RdVs H xs ds ∧ Shns ds 1 (37 * xs.length)
  | [], _ => ⟨[], .nil, .nil⟩
  | x :: xs, h => by
    obtain ⟨d, hd, sd⟩ := (h x List.mem_cons_self).shn
    obtain ⟨ds, hds, sds⟩ := It1s.shn fun y hy => h y (List.mem_cons_of_mem _ hy)
    refine ⟨d :: ds, .cons hd hds, ?_⟩
    rw [show 37 * (x :: xs).length = 36 + 1 + 37 * xs.length by rw [List.length_cons]; omega]
    exact Shns.cons sd sds
/-- a written move -/
def UR (H : Hp) (v : V) : Prop := ∃ t w rest, v = .ref t ∧ H t = some (.tup (.str w :: rest)) ∧ (∀ y ∈ (.str w :: rest), SmV y = true) ∧ rest.length ≤ 3
omit T in
theorem UR.it {st : Addr} {H : Hp} {v : V} (h : UR H v) : It1 st H v := by
  obtain ⟨t, w, rest, rfl, h, f, l⟩ := h
  exact .tup t w rest h f l
omit T in
theorem UR.keep {H H' : Hp} {v : V} (h : UR H v) (k : TK H H') : UR H' v := by
  obtain ⟨t, w, rest, rfl, h, f, l⟩ := h
  exact ⟨t, w, rest, rfl, k _ _ h, f, l⟩
omit T in
theorem sm_int {i : Int} (h0 : 0 ≤ i) (h1 : i ≤ 127) : SmV (.int i) = true := decide_eq_true ⟨by omega, h1⟩
omit T in
theorem UR.up {H : Hp} {t : Addr} {a b : Int} (h : H t = some (.tup [.str "up", .int a, .int b])) (a0 : 0 ≤ a) (a1 : a ≤ 127) (b0 : 0 ≤ b) (b1 : b ≤ 127) : UR H (.ref t) := by
  refine ⟨t, "up", [.int a, .int b], rfl, h, fun y hy => ?_, by show 2 ≤ 3; decide⟩
  simp only [List.mem_cons, List.mem_nil_iff, or_false] at hy
  rcases hy with rfl | rfl | rfl
  · decide +kernel
  · exact sm_int a0 a1
  · exact sm_int b0 b1
omit T in
theorem UR.read {H : Hp} {t : Addr} {a : Int} (h : H t = some (.tup [.str "read", .int a])) (a0 : 0 ≤ a) (a1 : a ≤ 127) : UR H (.ref t) := by
  refine ⟨t, "read", [.int a], rfl, h, fun y hy => ?_, by show 1 ≤ 3; decide⟩
  simp only [List.mem_cons, List.mem_nil_iff, or_false] at hy
  rcases hy with rfl | rfl
  · decide +kernel
  · exact sm_int a0 a1
/-! ### the law's drawn list of moves -/
/-- a list of written moves, begun behind H -/
structure Mvs (st : Addr) (H : Hp) (p : Addr) (xs : List V) (H1 : Hp) : Prop where
  h0 : H p = none
  hl : H1 p = some (.lst xs)
  hx : ∀ x ∈ xs, UR H1 x
  S : Store H1 st
  b : ButS st H H1
omit T in
theorem Mvs.push {st p t : Addr} {H H1 : Hp} {xs : List V} {y : HO} (S0 : Store H st) (x : Mvs st H p xs H1) (ht : H1 t = none) (hu : UR (upd H1 t y) (.ref t)) : Mvs st H p (xs ++ [.ref t]) (upd (upd H1 t y) p (.lst (xs ++ [.ref t]))) := by
  have s1 : Same H1 (upd H1 t y) := same_new ht
  have hp : (upd H1 t y) p = some (.lst xs) := s1 _ _ x.hl
  obtain ⟨S2, b2⟩ := ButS.mutAway (o := .lst (xs ++ [.ref t])) S0 (x.b.trans (.of s1)) x.h0 (x.S.keep s1)
  refine ⟨x.h0, upd_same, fun z hz => ?_, S2, b2⟩
  rcases List.mem_append.mp hz with hz | hz
  · exact ((x.hx z hz).keep (TK.of s1)).keep (TK.mut hp)
  · rw [List.mem_singleton] at hz
    rw [hz]
    exact hu.keep (TK.mut hp)
omit T in
theorem Mvs.cat {st p D : Addr} {H H4 H5 : Hp} {ys zs : List V} (x : Mvs st H p ys H4) (S5 : Store H5 st) (b5 : ButS st H4 H5) (hz : ∀ z ∈ zs, UR H5 z) (hD : H5 D = none) : Mvs st H D (ys ++ zs) (upd H5 D (.lst (ys ++ zs))) := by
  have b := x.b.trans b5
  refine ⟨b.free S5 hD, upd_same, fun z h => ?_, S5.keep (same_new hD), b.trans (.new hD)⟩
  rcases List.mem_append.mp h with h | h
  · exact ((x.hx z h).keep (TK.but x.S b5)).keep (TK.of (same_new hD))
  · exact (hz z h).keep (TK.of (same_new hD))
omit T in
theorem Mvs.at {st p : Addr} {H H4 H5 : Hp} {ys : List V} (S0 : Store H st) (x : Mvs st H p ys H4) (b5 : ButS st H4 H5) : H5 p = some (.lst ys) := b5.1 _ _ (fun z => by
  obtain ⟨_, _, _, _, _, _, _, _, e, _⟩ := S0.ex
  have := x.h0
  rw [z, e] at this
  cases this) x.hl
def MvI (st : Addr) (src f la : Int) (n0 : Nat) (H : Hp) : L2.St → Hp → Prop := fun σ H' => ∃ (p : Addr) (xs : List V) (m : Nat) (v6 v7 v8 : Option V),
  σ = [some (.ref st), some (.int m), some (.int src), some (.int f), some (.int la), some (.ref p), v6, v7, v8] ∧ H p = none ∧ H' p = some (.lst xs) ∧ (∀ x ∈ xs, UR H' x) ∧ xs.length + 42 * m ≤ 42 * n0 ∧ m ≤ n0 ∧ Store H' st ∧ ButS st H H'
def spMv : Nat → Sp
  | 0 => fun _ _ _ _ => False
  | d + 1 => fun vs H Q _ => ∃ (st : Addr) (n src f la : Int), vs = [.ref st, .int n, .int src, .int f, .int la] ∧ (0 ≤ n ∧ n ≤ d ∧ n ≤ 40) ∧ (0 ≤ src ∧ src ≤ 127 ∧ 1 ≤ f ∧ f ≤ la + 1 ∧ la ≤ 120 ∧ (n = 0 ∨ f ≤ la)) ∧ Store H st ∧
    ∀ l xs H', H l = none → H' l = some (.lst xs) → (∀ x ∈ xs, UR H' x) → (xs.length : Int) ≤ 42 * n → Store H' st → ButS st H H' → Q (.ref l) H'
theorem ok_moves {f : Addr} {fd : FuncData} (F : Fun K "_law_moves" "_law_moves" s_moves f fd) (D_moves : Def K mg "_law_moves" s_moves p_moves f fd) {f_edge : Addr} {fd_edge : FuncData} (D_edge : Def K mg "_law_edge" s_edge p_edge f_edge fd_edge) (G_edge : FnOk P w K mg base CX0 3 f_edge fd_edge p_edge spTake) : ∀ d, FnOk P w K mg base CX0 (d + 4) f fd p_moves (spMv d)
  | 0 => ⟨fun _ _ _ _ h => h.elim, fun _ _ _ _ _ _ _ _ _ _ _ _ _ h => h.elim⟩
  | d + 1 => by
    have G_moves := ok_moves F D_moves D_edge G_edge d
    refine F.ok sc_moves (fun vs H Q E h => ?_) (fun cdv A outer s H vs Q E hr h => ?_)
    · obtain ⟨a, b, c, e, g, rfl, _⟩ := h
      rfl
    · obtain ⟨st, n, src, ff, la, rfl, ⟨n0, nd, n40⟩, ⟨s0, s1, f0, f1, la1, hnf⟩, S, q⟩ := h
      obtain ⟨n, rfl⟩ : ∃ k : Nat, n = (k : Int) := ⟨n.toNat, by omega⟩
      refine ⟨_, (pss_cons (ps_set (i := 5) sc_moves.nd rfl (Or.inl rfl) (by exact (pe_lst pa_nil)))
      (pss_mid (ps_for PassesOwn.never rfl (pi_range1 (by rfl) T.b_range (pa_cons (pv 1) pa_nil)) (pg_name (i := 6) sc_moves.nd rfl (Or.inl rfl)) (pss_mid (ps_if (pt_cmpR op_eq (pv 1) pe_int (nomark _)) (pss_one ps_break) pss_nil)
          (pss_cons (ps_set (i := 7) sc_moves.nd rfl (Or.inl rfl) (by exact (pe_op op_add pe_int (pe_call G_edge (hr.mono (by first | decide | omega)) rfl D_edge.g D_edge.fn.kp D_edge.b .nil pass0 (pa_cons (pv 0) (pa_cons (pv 1) pa_nil))))))
          (pss_mid (ps_if (pt_cmpR op_eq (pv 3) (pv 4) (nomark _)) (pss_one (ps_set (i := 7) sc_moves.nd rfl (Or.inl rfl) (by exact (pv 1)))) pss_nil)
          (pss_cons (ps_expr (pe_bm PySem.F.plainAttrs_list PySem.F.slot_list_append PySem.F.type_list_append mt_append (pv 5) (pa_cons (pe_tup (pa_cons pe_str (pa_cons (pv 2) (pa_cons (pv 3) pa_nil)))) pa_nil)))
          (pss_mid (ps_for PassesOwn.never rfl (pi_range1 (by rfl) T.b_range (pa_cons (pe_op op_sub (pv 7) pe_int) pa_nil)) (pg_name (i := 8) sc_moves.nd rfl (Or.inl rfl)) (pss_one (ps_expr (pe_bm PySem.F.plainAttrs_list PySem.F.slot_list_append PySem.F.type_list_append mt_append (pv 5) (pa_cons (pe_tup (pa_cons pe_str (pa_cons (pv 3) (pa_cons (pv 3) pa_nil)))) pa_nil)))))
          (pss_cons (ps_set (i := 5) sc_moves.nd rfl (Or.inl rfl) (by exact (pe_op op_cat (pv 5) (pe_call G_moves hr rfl D_moves.g D_moves.fn.kp D_moves.b .nil pass0 (pa_cons (pv 0) (pa_cons (pe_op op_sub (pv 1) (pv 7)) (pa_cons (pv 3) (pa_cons (pe_op op_add (pv 3) pe_int) (pa_cons (pv 4) pa_nil)))))))))
          (pss_cons (ps_expr (pe_bm PySem.F.plainAttrs_list PySem.F.slot_list_append PySem.F.type_list_append mt_append (pv 5) (pa_cons (pe_tup (pa_cons pe_str (pa_cons (pv 3) pa_nil))) pa_nil)))
          (pss_one (ps_set (i := 1) sc_moves.nd rfl (Or.inl rfl) (by exact (pe_op op_sub (pv 7) pe_int))))))))))))
      (pss_one (ps_ret (by exact (pv 5)))))), ?_⟩
      walk_at "rd"
      walk_at "nw"
      intro p hp
      walk_at "rd"
      refine ⟨MvI st src ff la n H, ?_, ?_⟩
      · walk_at "rd"
        refine ⟨by omega, by omega, ?_⟩
        rw [show ((n : Nat) : Int).toNat = n by omega]
        refine for_range (fun _ σ H' => MvI st src ff la n H σ H') ⟨p, [], n, none, none, none, rfl, hp, upd_same, fun x hx => (nomatch hx), by show 0 + 42 * n ≤ 42 * n; omega, Nat.le_refl _, S.keep (same_new hp), .new hp⟩ ?_ (fun σ H' h => h)
        rintro i σ H1 hi I1
        have I2 := I1
        obtain ⟨p, xs, m, v6, v7, v8, rfl, h0, hl, hx, hz, hm, S1, b1⟩ := I2
        walk_at "rd"
        refine ⟨fun σ' H' => σ' = [some (.ref st), some (.int m), some (.int src), some (.int ff), some (.int la), some (.ref p), some (.int (0 + i)), v7, v8] ∧ H' = H1 ∧ m ≠ 0, ?_, ?_⟩
        · walk_at "rd"
          refine ite2 (fun hc => ?_) (fun hc => ?_)
          · walk_at "rd"
            exact ⟨p, xs, m, _, _, _, rfl, h0, hl, hx, hz, hm, S1, b1⟩
          · exact ⟨rfl, rfl, fun z => of_ndec hc (by rw [z]; rfl)⟩
        rintro σ' H' ⟨rfl, rfl, hm0⟩
        walk_at "rd"
        refine ⟨by omega, S1, fun dr H2 dr0 dr1 S2 b2 => ?_⟩
        have hdr : dr < m := by
          revert dr1
          split <;> omega
        walk_at "rd"
        refine ⟨fun σ' H' => ∃ sp : Nat, σ' = [some (.ref st), some (.int m), some (.int src), some (.int ff), some (.int la), some (.ref p), some (.int (0 + i)), some (.int sp), v8] ∧ H' = H2 ∧ 1 ≤ sp ∧ sp ≤ m ∧ (ff = la → sp = m), ?_, ?_⟩
        · walk_at "rd"
          refine ite2 (fun hc => ?_) (fun hc => ?_)
          · walk_at "rd"
            exact ⟨rfl, by omega, Nat.le_refl _, fun _ => rfl⟩
          · obtain ⟨e, rfl⟩ : ∃ e : Nat, dr = e := ⟨dr.toNat, by omega⟩
            exact ⟨1 + e, by rw [Int.natCast_add]; rfl, rfl, by omega, by omega, fun z => absurd (congrArg V.int z) (of_ndec hc)⟩
        rintro σ' H' ⟨sp, rfl, rfl, sp1, spm, spl⟩
        have M2 : Mvs st H p xs H' := ⟨h0, b2.1 _ _ (fun z => by
          obtain ⟨_, _, _, _, _, _, _, _, e, _⟩ := S.ex
          rw [z, e] at h0
          cases h0) hl, fun x hx2 => (hx x hx2).keep (TK.but S1 b2), S2, b1.trans b2⟩
        have hm1 : m ≤ 40 := by omega
        clear hl hx S1 b1 S2 b2 dr0 dr1
        walk_at "rd"
        refine ⟨.inl ⟨rfl, _, SqL.of M2.hl⟩, ?_⟩
        walk_at "rd"
        walk_at "nw"
        intro t1 ht1
        refine ⟨p, _, _, rfl, rfl, same_new ht1 _ _ M2.hl, sz_lt (by omega), ?_⟩
        have M3 := M2.push S ht1 (y := .tup [.str "up", .int src, .int ff]) (UR.up upd_same s0 s1 (by omega) (by omega))
        generalize hg : upd (upd H' t1 _) p _ = H3 at M3 ⊢
        clear hg M2 ht1
        walk_at "rd"
        refine ⟨fun σ' H' => ∃ (v8' : Option V) (ys : List V), σ' = [some (.ref st), some (.int m), some (.int src), some (.int ff), some (.int la), some (.ref p), some (.int (0 + i)), some (.int sp), v8'] ∧ Mvs st H p ys H' ∧ ys.length = xs.length + sp, ?_, ?_⟩
        · walk_at "rd"
          refine ⟨by omega, by omega, ?_⟩
          rw [show ((sp : Int) - 1).toNat = sp - 1 by omega]
          refine for_range (fun j σ' H' => ∃ (v8' : Option V) (ys : List V), σ' = [some (.ref st), some (.int m), some (.int src), some (.int ff), some (.int la), some (.ref p), some (.int (0 + i)), some (.int sp), v8'] ∧ Mvs st H p ys H' ∧ ys.length = xs.length + 1 + j) ⟨_, _, rfl, M3, by rw [List.length_append]; rfl⟩ ?_ ?_
          · rintro j σ' H4 hj ⟨v8', ys, rfl, M4, hy⟩
            walk_at "rd"
            refine ⟨.inl ⟨rfl, _, SqL.of M4.hl⟩, ?_⟩
            walk_at "rd"
            walk_at "nw"
            intro t2 ht2
            refine ⟨p, _, _, rfl, rfl, same_new ht2 _ _ M4.hl, sz_lt (by omega), ?_⟩
            exact ⟨_, _, rfl, M4.push S ht2 (UR.up upd_same (by omega) (by omega) (by omega) (by omega)), by rw [List.length_append, hy]; rfl⟩
          · rintro σ' H4 ⟨v8', ys, rfl, M4, hy⟩
            exact ⟨_, _, rfl, M4, by omega⟩
        rintro σ' H4 ⟨v8', ys, rfl, M4, hy⟩
        obtain ⟨d', rfl⟩ : ∃ d', d = d' + 1 := ⟨d - 1, by omega⟩
        walk_at "rd"
        refine ⟨st, (m : Int) - sp, _, _, _, rfl, ⟨by omega, by omega, by omega⟩, ⟨by omega, by omega, by omega, by omega, la1, ?_⟩, M4.S, fun l ys2 H5 hl0 hl5 hx5 hz5 S5 b5 => ?_⟩
        · by_cases e : ff = la
          · have := spl e
            omega
          · omega
        refine ⟨p, l, _, _, rfl, rfl, M4.at S b5, hl5, sz_le (by omega), fun D hD => ?_⟩
        have M6 := M4.cat S5 b5 hx5 hD
        generalize hg : upd H5 D _ = H6 at M6 ⊢
        clear hg hl5 hx5 S5 b5 hD M4
        walk_at "rd"
        refine ⟨.inl ⟨rfl, _, SqL.of M6.hl⟩, ?_⟩
        walk_at "rd"
        walk_at "nw"
        intro t3 ht3
        refine ⟨D, _, _, rfl, rfl, same_new ht3 _ _ M6.hl, sz_lt (by rw [List.length_append]; omega), ?_⟩
        have M7 := M6.push S ht3 (UR.read (a := ff) upd_same (by omega) (by omega))
        walk_at "rd"
        refine ⟨D, _, sp - 1, some (.int (0 + i)), some (.int sp), v8', ?_, M7.h0, M7.hl, M7.hx, ?_, by omega, M7.S, M7.b⟩
        · rw [show ((sp - 1 : Nat) : Int) = (sp : Int) - 1 by omega]
          rfl
        · rw [List.length_append, List.length_append]
          show ys.length + ys2.length + 1 + 42 * (sp - 1) ≤ 42 * n
          omega
      · rintro σ H1 I1
        obtain ⟨p, xs, m, v6, v7, v8, rfl, h0, hl, hx, hz, hm, S1, b1⟩ := I1
        walk_at "rd"
        exact q p xs H1 h0 hl hx (by omega) S1 b1
end
end K12

set_option Elab.async false
set_option linter.all false
set_option maxRecDepth 100000
set_option maxHeartbeats 4000000
set_option pp.deepTerms false
set_option pp.deepTerms.threshold 12
namespace K12
open PySem PySem.Spec PyProof.Rows L2
local macro_rules | `(tactic| walk_at "ty") => `(tactic| first | exact .base (.int _) | exact .base (.bl _) | exact .base (.str _) | exact .base .non | assumption | exact .base (.tup (by assumption)) | exact .base (.lst (by assumption)))
local macro_rules | `(tactic| walk_at "cm") => `(tactic| first | exact cm_r (by decide) (by decide) | exact cm_l (by decide) (by decide) | exact cm_fmod (by decide) (by decide) | exact cm_r (by omega) (by omega) | exact cm_l (by omega) (by omega))
local macro_rules | `(tactic| walk_at "dv") => `(tactic| first | exact ⟨by decide, by decide⟩ | exact ⟨by omega, by omega⟩)
local macro_rules | `(tactic| walk_at "r1") => `(tactic| first
  | refine ⟨_, rfl, ?_⟩ | refine ⟨_, _, rfl, rfl, ?_⟩ | refine Or.inl ⟨_, rfl, ?_⟩ | refine Or.inr ⟨_, rfl, ?_⟩
  | refine And.intro (a := CMul _ _) (by walk_at "cm") ?_ | refine And.intro (a := CDivN _ _) (by walk_at "dv") ?_ | refine And.intro (a := _ ≠ (0 : Int)) (by first | decide | omega) ?_ | refine And.intro (a := scal _ _ = true) rfl ?_ | refine ⟨_, _, _, _, rfl, rfl, SqL.of (by first | exact upd_same | assumption), rfl, ?_⟩ | refine ⟨_, _, _, _, rfl, rfl, (by first | exact upd_same | assumption), rfl, ?_⟩ | refine ⟨_, _, rfl, ?_⟩ | refine And.intro (a := (_ : V) = V.non) rfl ?_ | refine And.intro (a := CPow _ _) ⟨by decide, by decide, by decide⟩ ?_ | refine And.intro (a := (_ : List V) = []) rfl ?_ | refine ⟨_, _, rfl, SqT.of (by first | exact upd_same | assumption), rfl, ?_⟩
  | refine ⟨_, _, _, _, rfl, rfl, SqT.of (by first | exact upd_same | assumption), rfl, ?_⟩
  | refine ⟨_, _, _, _, true, rfl, ClsV.ty _, (by walk_at "ty"), kit_ty (by decide +kernel), ?_⟩ | refine ⟨_, _, _, _, false, rfl, ClsV.ty _, (by walk_at "ty"), kit_ty (by decide +kernel), ?_⟩)
local macro_rules | `(tactic| walk_at "rd") => `(tactic| repeat walk_at "r1")
local macro_rules | `(tactic| walk_at "yes") => `(tactic| (change (if true = true then _ else _); rw [if_pos rfl]))
local macro_rules | `(tactic| walk_at "no") => `(tactic| (change (if false = true then _ else _); rw [if_neg Bool.false_ne_true]))
local macro_rules | `(tactic| walk_at "nw") => `(tactic| refine And.intro (a := _ ≤ sizeLine) (sz_le (Nat.le_of_ble_eq_true rfl)) ?_)

section
variable {P : Program} {w : World} {K : PySem.W.Frag} {mg : Str → Option Value} {base : Heap}
variable {C_VaultError C_TooMany C_NumberError C_BadPrime C_NoInverse C_NoNumber C_BadTable C_BadCells C_TextError C_ShapeError C_PlanError C_CourseError C_KnowError C_PaperError C_BadStep C_BadBlind C_BadMove C_NotShut C_NotOpen C_NotTheft C_NotPrice fV fI_BadMove fI_BadCells : Addr}
variable (T : Txt P K mg C_VaultError C_TooMany C_NumberError C_BadPrime C_NoInverse C_NoNumber C_BadTable C_BadCells C_TextError C_ShapeError C_PlanError C_CourseError C_KnowError C_PaperError C_BadStep C_BadBlind C_BadMove C_NotShut C_NotOpen C_NotTheft C_NotPrice fV fI_BadMove fI_BadCells)
include T
def SA (ys : List V) : Prop := ∀ y ∈ ys, SmV y = true
omit T in
theorem SA.n : SA [] := fun _ h => nomatch h
omit T in
theorem SA.c {x : V} {ys : List V} (h : SmV x = true) (r : SA ys) : SA (x :: ys) := fun y hy => by
  rcases List.mem_cons.mp hy with e | e
  · rw [e]
    exact h
  · exact r y e
local macro_rules | `(tactic| walk_at "sm") => `(tactic| repeat first | exact SA.n | refine SA.c (by first | decide +kernel | exact sm_int (by omega) (by omega) | rfl) ?_)
omit T in
theorem It1.same {st : Addr} {H H' : Hp} {v : V} (h : It1 st H v) (s : Same H H') : It1 st H' v := by
  cases h with
  | flat v h => exact .flat v h
  | lst a ys n h f l => exact .lst a ys n (s _ _ h) f l
  | nil a h => exact .nil a (s _ _ h)
  | tup a w rest h f l => exact .tup a w rest (s _ _ h) f l
/-- things made so far -/
structure Acc (st : Addr) (H0 : Hp) (L : List V) (H : Hp) : Prop where
  all : ∀ x ∈ L, It1 st H x
  same : Same H0 H
  S : Store H st
omit T in
theorem Acc.start {st : Addr} {H : Hp} (S : Store H st) : Acc st H [] H := ⟨fun _ h => (nomatch h), fun _ _ h => h, S⟩
omit T in
theorem Acc.push {st p : Addr} {H0 H : Hp} {L : List V} {x : V} {o : HO} (a : Acc st H0 L H) (hp : H p = none) (h : It1 st (upd H p o) x) : Acc st H0 (L ++ [x]) (upd H p o) := ⟨fun y hy => by
  rcases List.mem_append.mp hy with e | e
  · exact (a.all y e).same (same_new hp)
  · rw [List.mem_singleton] at e
    rw [e]
    exact h, a.same.trans (same_new hp), a.S.keep (same_new hp)⟩
omit T in
theorem Acc.skip {st p : Addr} {H0 H : Hp} {L : List V} {o : HO} (a : Acc st H0 L H) (hp : H p = none) : Acc st H0 L (upd H p o) := ⟨fun y hy => (a.all y hy).same (same_new hp), a.same.trans (same_new hp), a.S.keep (same_new hp)⟩
omit T in
theorem Acc.tup {st p : Addr} {H0 H : Hp} {L : List V} {w : Str} {rest : List V} (a : Acc st H0 L H) (hp : H p = none) (f : SA (.str w :: rest)) (l : rest.length ≤ 3) : Acc st H0 (L ++ [.ref p]) (upd H p (.tup (.str w :: rest))) := a.push hp (.tup p w rest upd_same f l)
omit T in
theorem Acc.nil {st p : Addr} {H0 H : Hp} {L : List V} (a : Acc st H0 L H) (hp : H p = none) : Acc st H0 (L ++ [.ref p]) (upd H p (.tup [])) := a.push hp (.nil p upd_same)
omit T in
theorem Store.ne {st p : Addr} {H : Hp} (S : Store H st) (hp : H p = none) : p ≠ st := fun z => by
  obtain ⟨u, hu⟩ := S.some
  rw [z, hu] at hp
  cases hp
omit T in
theorem Acc.lst {st p : Addr} {H0 H : Hp} {L : List V} {ys : List V} (a : Acc st H0 L H) (hp : H p = none) (f : SA ys) (l : ys.length ≤ 4) : Acc st H0 (L ++ [.ref p]) (upd H p (.lst ys)) := a.push hp (.lst p ys (Store.ne a.S hp) upd_same f l)
omit T in
theorem Acc.flat {st : Addr} {H0 H : Hp} {L : List V} {x : V} (a : Acc st H0 L H) (h : SmV x = true) : Acc st H0 (L ++ [x]) H := ⟨fun y hy => by
  rcases List.mem_append.mp hy with e | e
  · exact a.all y e
  · rw [List.mem_singleton] at e
    rw [e]
    exact .flat x h, a.same, a.S⟩
omit T in
theorem Acc.flatI {st : Addr} {H0 H : Hp} {L : List V} {x : V} (a : Acc st H0 L H) (h : It1 st H x) : Acc st H0 (L ++ [x]) H := ⟨fun y hy => by
  rcases List.mem_append.mp hy with e | e
  · exact a.all y e
  · rw [List.mem_singleton] at e
    rw [e]
    exact h, a.same, a.S⟩
omit T in
theorem Acc.but {st : Addr} {H0 H H' : Hp} {L : List V} (a : Acc st H0 L H) (S : Store H' st) (b : ButS st H H') : Acc st H' L H' := ⟨fun y hy => (a.all y hy).keep a.S b, fun _ _ h => h, S⟩
omit T in
theorem sIx_i {n d : Nat} {k : Int} (h : 0 ≤ k) : HT.sIx n d (some k) = min k.toNat n := by
  show (if k < 0 then _ else min k.toNat n) = _
  rw [if_neg (by omega)]
omit T in
theorem cutV_mem {x : V} {xs : List V} {lo hi : Option Int} (h : x ∈ cutV xs lo hi) : x ∈ xs := List.mem_of_mem_drop (List.mem_of_mem_take h)
omit T in
theorem cutV_to (xs : List V) {j : Int} (h : 0 ≤ j) : (cutV xs none (some j)).length = min j.toNat xs.length := by
  unfold cutV
  rw [List.length_take, List.length_drop, HT.sIx_none, sIx_i h]
  omega
omit T in
theorem cutV_from (xs : List V) {i : Int} (h : 0 ≤ i) : (cutV xs (some i) none).length = xs.length - min i.toNat xs.length := by
  unfold cutV
  rw [List.length_take, List.length_drop, HT.sIx_none, sIx_i h]
  omega
omit T in
theorem cutV_in (xs : List V) {i j : Int} (h : 0 ≤ i) (h2 : 0 ≤ j) : (cutV xs (some i) (some j)).length = min j.toNat xs.length - min i.toNat xs.length := by
  unfold cutV
  rw [List.length_take, List.length_drop, sIx_i h, sIx_i h2]
  omega
def spBent : Sp := fun vs H Q _ => ∃ (st l : Addr) (c : Int), vs = [.ref st, .ref l, .int c] ∧ 1 ≤ c ∧ c ≤ 120 ∧ ∃ xs : List V, H l = some (.lst xs) ∧ l ≠ st ∧ (∀ x ∈ xs, It1 st H x) ∧ xs.length ≤ 19000 ∧ Store H st ∧
  ∀ l' ys H', H' l' = some (.lst ys) → H l' = none → (∀ y ∈ ys, It1 st H' y) → ys.length ≤ xs.length + 1 → Store H' st → ButS st H H' → Q (.ref l') H'
theorem ok_movesbent {f : Addr} {fd : FuncData} (F : Fun K "_law_movesbent" "_law_movesbent" s_movesbent f fd) {f_take : Addr} {fd_take : FuncData} (D_take : Def K mg "_law_take" s_take p_take f_take fd_take) (G_take : FnOk P w K mg base CX0 2 f_take fd_take p_take spTake) {f_pick : Addr} {fd_pick : FuncData} (D_pick : Def K mg "_law_pick" s_pick p_pick f_pick fd_pick) (G_pick : FnOk P w K mg base CX0 3 f_pick fd_pick p_pick spPick) : FnOk P w K mg base CX0 4 f fd p_movesbent spBent := by
  refine F.ok sc_movesbent (fun vs H Q E h => ?_) (fun cdv A outer s H vs Q E hr h => ?_)
  · obtain ⟨st, l, c, rfl, _⟩ := h
    rfl
  · obtain ⟨st, l, c, rfl, c0, c1, xs, hl, hne, hit, hz, S, q⟩ := h
    refine ⟨_, (pss_cons (ps_set (i := 3) sc_movesbent.nd rfl (Or.inl rfl) (by exact (pe_call G_take (hr.mono (by first | decide | omega)) rfl D_take.g D_take.fn.kp D_take.b .nil pass0 (pa_cons (pv 0) (pa_cons (pe_op op_add (pv 2) pe_int) pa_nil)))))
      (pss_cons (ps_set (i := 4) sc_movesbent.nd rfl (Or.inl rfl) (by exact (pe_call G_pick (hr.mono (by first | decide | omega)) rfl D_pick.g D_pick.fn.kp D_pick.b .nil pass0 (pa_cons (pv 0) (pa_cons (pe_lst (pa_cons (pe_tup (pa_cons pe_str (pa_cons (pv 3) (pa_cons pe_int pa_nil)))) (pa_cons (pe_tup (pa_cons pe_str (pa_cons pe_int (pa_cons (pv 3) pa_nil)))) (pa_cons (pe_tup (pa_cons pe_str (pa_cons (pv 3) pa_nil))) (pa_cons (pe_tup (pa_cons pe_str (pa_cons (pv 3) (pa_cons (pv 3) pa_nil)))) (pa_cons (pe_tup (pa_cons pe_str (pa_cons pe_int pa_nil))) pa_nil)))))) pa_nil)))))
      (pss_cons (ps_set (i := 5) sc_movesbent.nd rfl (Or.inl rfl) (by exact (pe_lst (pa_cons (pe_tup (pa_cons pe_str (pa_cons pe_int pa_nil))) (pa_cons (pe_tup (pa_cons pe_str pa_nil)) (pa_cons (pe_tup (pa_cons pe_str (pa_cons pe_int (pa_cons pe_int (pa_cons pe_int pa_nil))))) (pa_cons (pe_lst (pa_cons pe_str (pa_cons pe_int (pa_cons pe_int pa_nil)))) (pa_cons (pe_lst (pa_cons pe_str (pa_cons pe_int pa_nil))) (pa_cons (pe_tup (pa_cons pe_str (pa_cons pe_bl (pa_cons pe_int pa_nil)))) (pa_cons (pe_tup (pa_cons pe_str (pa_cons pe_bl pa_nil))) (pa_cons pe_non pa_nil)))))))))))
      (pss_cons (ps_set (i := 5) sc_movesbent.nd rfl (Or.inl rfl) (by exact (pe_op op_cat (pv 5) (pe_lst (pa_cons (pe_tup (pa_cons pe_str (pa_cons pe_int pa_nil))) (pa_cons (pe_tup (pa_cons pe_str (pa_cons pe_int pa_nil))) (pa_cons (pe_tup (pa_cons pe_str (pa_cons (pe_op op_add (pv 2) pe_int) pa_nil))) (pa_cons (pe_tup (pa_cons pe_str (pa_cons (pe_op op_sub pe_int pe_int) (pa_cons pe_int pa_nil)))) (pa_cons (pe_tup (pa_cons pe_str (pa_cons pe_int (pa_cons (pe_op op_add (pv 2) pe_int) pa_nil)))) (pa_cons pe_int pa_nil))))))))))
      (pss_cons (ps_set (i := 5) sc_movesbent.nd rfl (Or.inl rfl) (by exact (pe_op op_cat (pv 5) (pe_lst (pa_cons (pe_tup (pa_cons pe_str (pa_cons pe_str (pa_cons pe_int pa_nil)))) (pa_cons (pe_tup pa_nil) (pa_cons pe_str (pa_cons (pe_tup (pa_cons pe_str (pa_cons pe_int pa_nil))) (pa_cons (pe_tup (pa_cons pe_str (pa_cons pe_int (pa_cons pe_bl pa_nil)))) (pa_cons (pe_tup (pa_cons pe_str (pa_cons pe_non (pa_cons pe_int pa_nil)))) (pa_cons (pe_tup (pa_cons pe_str (pa_cons pe_int (pa_cons pe_int pa_nil)))) pa_nil)))))))))))
      (pss_cons (ps_set (i := 5) sc_movesbent.nd rfl (Or.inl rfl) (by exact (pe_op op_cat (pv 5) (pe_lst (pa_cons (pe_tup (pa_cons pe_str (pa_cons pe_int (pa_cons pe_int pa_nil)))) (pa_cons (pe_tup (pa_cons pe_str (pa_cons (pe_op op_sub pe_int pe_int) pa_nil))) pa_nil))))))
      (pss_cons (ps_set (i := 6) sc_movesbent.nd rfl (Or.inl rfl) (by exact (pe_call G_take (hr.mono (by first | decide | omega)) rfl D_take.g D_take.fn.kp D_take.b .nil pass0 (pa_cons (pv 0) (pa_cons pe_int pa_nil)))))
      (pss_cons (ps_set (i := 7) sc_movesbent.nd rfl (Or.inl rfl) (by exact (pe_call G_take (hr.mono (by first | decide | omega)) rfl D_take.g D_take.fn.kp D_take.b .nil pass0 (pa_cons (pv 0) (pa_cons (pe_op op_add (pe_callB call_len_seq (by rfl) T.b_len (by first | exact PySem.boot_len | decide +kernel) (pa_cons (pv 1) pa_nil)) pe_int) pa_nil)))))
      (pss_cons (ps_if (pt_cmpR op_eq (pv 6) pe_int (nomark _)) (pss_one (ps_ret (by exact (pe_op op_cat (pe_op op_cat (pe_callTy call_list_of (by rfl) T.b_list (by first | exact PySem.boot_list | decide +kernel) (pa_cons (pe_slice sl_list (pv 1) po_none (po_some (pv 7))) pa_nil)) (pe_lst (pa_cons (pv 4) pa_nil))) (pe_callTy call_list_of (by rfl) T.b_list (by first | exact PySem.boot_list | decide +kernel) (pa_cons (pe_slice sl_list (pv 1) (po_some (pv 7)) po_none) pa_nil)))))) pss_nil)
      (pss_cons (ps_if (pt_cmpR op_eq (pv 6) pe_int (nomark _)) (pss_one (ps_ret (by exact (pe_op op_cat (pe_op op_cat (pe_callTy call_list_of (by rfl) T.b_list (by first | exact PySem.boot_list | decide +kernel) (pa_cons (pe_slice sl_list (pv 1) po_none (po_some (pv 7))) pa_nil)) (pe_lst (pa_cons (pe_call G_pick (hr.mono (by first | decide | omega)) rfl D_pick.g D_pick.fn.kp D_pick.b .nil pass0 (pa_cons (pv 0) (pa_cons (pv 5) pa_nil))) pa_nil))) (pe_callTy call_list_of (by rfl) T.b_list (by first | exact PySem.boot_list | decide +kernel) (pa_cons (pe_slice sl_list (pv 1) (po_some (pv 7)) po_none) pa_nil)))))) pss_nil)
      (pss_cons (ps_if (pt_cmpR op_eq (pv 6) pe_int (nomark _)) (pss_one (ps_ret (by exact (pe_op op_cat (pe_callTy call_list_of (by rfl) T.b_list (by first | exact PySem.boot_list | decide +kernel) (pa_cons (pe_slice sl_list (pv 1) po_none (po_some (pv 7))) pa_nil)) (pe_callTy call_list_of (by rfl) T.b_list (by first | exact PySem.boot_list | decide +kernel) (pa_cons (pe_slice sl_list (pv 1) (po_some (pe_op op_add (pv 7) pe_int)) po_none) pa_nil)))))) pss_nil)
      (pss_cons (ps_if (pt_cmpR op_eq (pv 6) pe_int (nomark _)) (pss_one (ps_ret (by exact (pe_op op_cat (pe_op op_cat (pe_callTy call_list_of (by rfl) T.b_list (by first | exact PySem.boot_list | decide +kernel) (pa_cons (pe_slice sl_list (pv 1) po_none (po_some (pv 7))) pa_nil)) (pe_callTy call_list_of (by rfl) T.b_list (by first | exact PySem.boot_list | decide +kernel) (pa_cons (pe_slice sl_list (pv 1) (po_some (pv 7)) (po_some (pe_op op_add (pv 7) pe_int))) pa_nil))) (pe_callTy call_list_of (by rfl) T.b_list (by first | exact PySem.boot_list | decide +kernel) (pa_cons (pe_slice sl_list (pv 1) (po_some (pv 7)) po_none) pa_nil)))))) pss_nil)
      (pss_cons (ps_if (pt_cmpR op_eq (pv 6) pe_int (nomark _)) (pss_one (ps_ret (by exact (pe_op op_cat (pe_op op_cat (pe_op op_cat (pe_callTy call_list_of (by rfl) T.b_list (by first | exact PySem.boot_list | decide +kernel) (pa_cons (pe_slice sl_list (pv 1) po_none (po_some (pv 7))) pa_nil)) (pe_callTy call_list_of (by rfl) T.b_list (by first | exact PySem.boot_list | decide +kernel) (pa_cons (pe_slice sl_list (pv 1) (po_some (pe_op op_add (pv 7) pe_int)) (po_some (pe_op op_add (pv 7) pe_int))) pa_nil))) (pe_callTy call_list_of (by rfl) T.b_list (by first | exact PySem.boot_list | decide +kernel) (pa_cons (pe_slice sl_list (pv 1) (po_some (pv 7)) (po_some (pe_op op_add (pv 7) pe_int))) pa_nil))) (pe_callTy call_list_of (by rfl) T.b_list (by first | exact PySem.boot_list | decide +kernel) (pa_cons (pe_slice sl_list (pv 1) (po_some (pe_op op_add (pv 7) pe_int)) po_none) pa_nil)))))) pss_nil)
      (pss_one (ps_ret (by exact (pe_op op_cat (pe_op op_cat (pe_callTy call_list_of (by rfl) T.b_list (by first | exact PySem.boot_list | decide +kernel) (pa_cons (pe_slice sl_list (pv 1) po_none (po_some (pv 7))) pa_nil)) (pe_lst (pa_cons (pe_call G_pick (hr.mono (by first | decide | omega)) rfl D_pick.g D_pick.fn.kp D_pick.b .nil pass0 (pa_cons (pv 0) (pa_cons (pe_op op_cat (pv 5) (pe_lst (pa_cons (pv 4) pa_nil))) pa_nil))) pa_nil))) (pe_callTy call_list_of (by rfl) T.b_list (by first | exact PySem.boot_list | decide +kernel) (pa_cons (pe_slice sl_list (pv 1) (po_some (pe_op op_add (pv 7) pe_int)) po_none) pa_nil))))))))))))))))))), ?_⟩
    walk_at "rd"
    refine ⟨by omega, S, fun cell H0 d0 d1 S0 b0 => ?_⟩
    have hc : 0 ≤ cell ∧ cell ≤ 121 := by
      revert d1
      split <;> omega
    obtain ⟨hc0, hc1⟩ := hc
    clear d0 d1
    have A0 : Acc st H0 [] H0 := .start S0
    walk_at "rd"
    walk_at "nw"
    intro p1 hp1
    generalize hg1 : upd H0 p1 _ = H1
    have A1 : Acc st H0 [.ref p1] H1 := by
      rw [← hg1]
      exact A0.tup hp1 (by walk_at "sm") (Nat.le_of_ble_eq_true rfl)
    clear A0
    clear hg1 hp1
    walk_at "rd"
    walk_at "nw"
    intro p2 hp2
    generalize hg2 : upd H1 p2 _ = H2
    have A2 : Acc st H0 [.ref p1, .ref p2] H2 := by
      rw [← hg2]
      exact A1.tup hp2 (by walk_at "sm") (Nat.le_of_ble_eq_true rfl)
    clear A1
    clear hg2 hp2
    walk_at "rd"
    walk_at "nw"
    intro p3 hp3
    generalize hg3 : upd H2 p3 _ = H3
    have A3 : Acc st H0 [.ref p1, .ref p2, .ref p3] H3 := by
      rw [← hg3]
      exact A2.tup hp3 (by walk_at "sm") (Nat.le_of_ble_eq_true rfl)
    clear A2
    clear hg3 hp3
    walk_at "rd"
    walk_at "nw"
    intro p4 hp4
    generalize hg4 : upd H3 p4 _ = H4
    have A4 : Acc st H0 [.ref p1, .ref p2, .ref p3, .ref p4] H4 := by
      rw [← hg4]
      exact A3.tup hp4 (by walk_at "sm") (Nat.le_of_ble_eq_true rfl)
    clear A3
    clear hg4 hp4
    walk_at "rd"
    walk_at "nw"
    intro p5 hp5
    generalize hg5 : upd H4 p5 _ = H5
    have A5 : Acc st H0 [.ref p1, .ref p2, .ref p3, .ref p4, .ref p5] H5 := by
      rw [← hg5]
      exact A4.tup hp5 (by walk_at "sm") (Nat.le_of_ble_eq_true rfl)
    clear A4
    clear hg5 hp5
    walk_at "rd"
    walk_at "nw"
    intro p6 hp6
    generalize hg6 : upd H5 p6 _ = H6
    have A6 : Acc st H0 [.ref p1, .ref p2, .ref p3, .ref p4, .ref p5] H6 := by
      rw [← hg6]
      exact A5.skip hp6
    have e6 : H6 p6 = some (.lst [.ref p1, .ref p2, .ref p3, .ref p4, .ref p5]) := by
      rw [← hg6]
      exact upd_same
    have n6 : p6 ≠ st := Store.ne A5.S hp6
    clear A5
    clear hg6 hp6
    walk_at "rd"
    refine ⟨st, p6, _, rfl, e6, n6, Nat.zero_lt_succ _, Nat.le_of_ble_eq_true rfl, A6.S, fun other H7 ho S7 b7 => ?_⟩
    have B7 : ButS st H H7 := (b0.trans (.of A6.same)).trans b7
    have A7 : Acc st H7 [other] H7 := (Acc.start S7).flatI ((A6.all other ho).keep A6.S b7)
    clear ho b7 e6 n6 A6 b0 S0
    walk_at "rd"
    walk_at "nw"
    intro p8 hp8
    generalize hg8 : upd H7 p8 _ = H8
    have A8 : Acc st H7 [other, .ref p8] H8 := by
      rw [← hg8]
      exact A7.tup hp8 (by walk_at "sm") (Nat.le_of_ble_eq_true rfl)
    clear A7
    clear hg8 hp8
    walk_at "rd"
    walk_at "nw"
    intro p9 hp9
    generalize hg9 : upd H8 p9 _ = H9
    have A9 : Acc st H7 [other, .ref p8, .ref p9] H9 := by
      rw [← hg9]
      exact A8.tup hp9 (by walk_at "sm") (Nat.le_of_ble_eq_true rfl)
    clear A8
    clear hg9 hp9
    walk_at "rd"
    walk_at "nw"
    intro p10 hp10
    generalize hg10 : upd H9 p10 _ = H10
    have A10 : Acc st H7 [other, .ref p8, .ref p9, .ref p10] H10 := by
      rw [← hg10]
      exact A9.tup hp10 (by walk_at "sm") (Nat.le_of_ble_eq_true rfl)
    clear A9
    clear hg10 hp10
    walk_at "rd"
    walk_at "nw"
    intro p11 hp11
    generalize hg11 : upd H10 p11 _ = H11
    have A11 : Acc st H7 [other, .ref p8, .ref p9, .ref p10, .ref p11] H11 := by
      rw [← hg11]
      exact A10.lst hp11 (by walk_at "sm") (Nat.le_of_ble_eq_true rfl)
    clear A10
    clear hg11 hp11
    walk_at "rd"
    walk_at "nw"
    intro p12 hp12
    generalize hg12 : upd H11 p12 _ = H12
    have A12 : Acc st H7 [other, .ref p8, .ref p9, .ref p10, .ref p11, .ref p12] H12 := by
      rw [← hg12]
      exact A11.lst hp12 (by walk_at "sm") (Nat.le_of_ble_eq_true rfl)
    clear A11
    clear hg12 hp12
    walk_at "rd"
    walk_at "nw"
    intro p13 hp13
    generalize hg13 : upd H12 p13 _ = H13
    have A13 : Acc st H7 [other, .ref p8, .ref p9, .ref p10, .ref p11, .ref p12, .ref p13] H13 := by
      rw [← hg13]
      exact A12.tup hp13 (by walk_at "sm") (Nat.le_of_ble_eq_true rfl)
    clear A12
    clear hg13 hp13
    walk_at "rd"
    walk_at "nw"
    intro p14 hp14
    generalize hg14 : upd H13 p14 _ = H14
    have A14 : Acc st H7 [other, .ref p8, .ref p9, .ref p10, .ref p11, .ref p12, .ref p13, .ref p14] H14 := by
      rw [← hg14]
      exact A13.tup hp14 (by walk_at "sm") (Nat.le_of_ble_eq_true rfl)
    clear A13
    clear hg14 hp14
    replace A14 : Acc st H7 [other, .ref p8, .ref p9, .ref p10, .ref p11, .ref p12, .ref p13, .ref p14, .non] H14 := A14.flat (by decide +kernel)
    walk_at "rd"
    walk_at "nw"
    intro p15 hp15
    generalize hg15 : upd H14 p15 _ = H15
    have A15 : Acc st H7 [other, .ref p8, .ref p9, .ref p10, .ref p11, .ref p12, .ref p13, .ref p14, .non] H15 := by
      rw [← hg15]
      exact A14.skip hp15
    have e15 : H15 p15 = some (.lst [.ref p8, .ref p9, .ref p10, .ref p11, .ref p12, .ref p13, .ref p14, .non]) := by
      rw [← hg15]
      exact upd_same
    have n15 : p15 ≠ st := Store.ne A14.S hp15
    clear A14
    clear hg15 hp15
    have o15 := e15
    clear e15
    walk_at "rd"
    walk_at "rd"
    walk_at "nw"
    intro p16 hp16
    generalize hg16 : upd H15 p16 _ = H16
    have A16 : Acc st H7 [other, .ref p8, .ref p9, .ref p10, .ref p11, .ref p12, .ref p13, .ref p14, .non, .ref p16] H16 := by
      rw [← hg16]
      exact A15.tup hp16 (by walk_at "sm") (Nat.le_of_ble_eq_true rfl)
    clear A15
    have o16 : H16 p15 = some (.lst [.ref p8, .ref p9, .ref p10, .ref p11, .ref p12, .ref p13, .ref p14, .non]) := by
      rw [← hg16]
      exact same_new hp16 _ _ o15
    clear hg16 hp16 o15
    walk_at "rd"
    walk_at "nw"
    intro p17 hp17
    generalize hg17 : upd H16 p17 _ = H17
    have A17 : Acc st H7 [other, .ref p8, .ref p9, .ref p10, .ref p11, .ref p12, .ref p13, .ref p14, .non, .ref p16, .ref p17] H17 := by
      rw [← hg17]
      exact A16.tup hp17 (by walk_at "sm") (Nat.le_of_ble_eq_true rfl)
    clear A16
    have o17 : H17 p15 = some (.lst [.ref p8, .ref p9, .ref p10, .ref p11, .ref p12, .ref p13, .ref p14, .non]) := by
      rw [← hg17]
      exact same_new hp17 _ _ o16
    clear hg17 hp17 o16
    walk_at "rd"
    walk_at "nw"
    intro p18 hp18
    generalize hg18 : upd H17 p18 _ = H18
    have A18 : Acc st H7 [other, .ref p8, .ref p9, .ref p10, .ref p11, .ref p12, .ref p13, .ref p14, .non, .ref p16, .ref p17, .ref p18] H18 := by
      rw [← hg18]
      exact A17.tup hp18 (by walk_at "sm") (Nat.le_of_ble_eq_true rfl)
    clear A17
    have o18 : H18 p15 = some (.lst [.ref p8, .ref p9, .ref p10, .ref p11, .ref p12, .ref p13, .ref p14, .non]) := by
      rw [← hg18]
      exact same_new hp18 _ _ o17
    clear hg18 hp18 o17
    walk_at "rd"
    walk_at "nw"
    intro p19 hp19
    generalize hg19 : upd H18 p19 _ = H19
    have A19 : Acc st H7 [other, .ref p8, .ref p9, .ref p10, .ref p11, .ref p12, .ref p13, .ref p14, .non, .ref p16, .ref p17, .ref p18, .ref p19] H19 := by
      rw [← hg19]
      exact A18.tup hp19 (by walk_at "sm") (Nat.le_of_ble_eq_true rfl)
    clear A18
    have o19 : H19 p15 = some (.lst [.ref p8, .ref p9, .ref p10, .ref p11, .ref p12, .ref p13, .ref p14, .non]) := by
      rw [← hg19]
      exact same_new hp19 _ _ o18
    clear hg19 hp19 o18
    walk_at "rd"
    walk_at "nw"
    intro p20 hp20
    generalize hg20 : upd H19 p20 _ = H20
    have A20 : Acc st H7 [other, .ref p8, .ref p9, .ref p10, .ref p11, .ref p12, .ref p13, .ref p14, .non, .ref p16, .ref p17, .ref p18, .ref p19, .ref p20] H20 := by
      rw [← hg20]
      exact A19.tup hp20 (by walk_at "sm") (Nat.le_of_ble_eq_true rfl)
    clear A19
    have o20 : H20 p15 = some (.lst [.ref p8, .ref p9, .ref p10, .ref p11, .ref p12, .ref p13, .ref p14, .non]) := by
      rw [← hg20]
      exact same_new hp20 _ _ o19
    clear hg20 hp20 o19
    replace A20 : Acc st H7 [other, .ref p8, .ref p9, .ref p10, .ref p11, .ref p12, .ref p13, .ref p14, .non, .ref p16, .ref p17, .ref p18, .ref p19, .ref p20, .int 7] H20 := A20.flat (by decide +kernel)
    walk_at "rd"
    walk_at "nw"
    intro p21 hp21
    generalize hg21 : upd H20 p21 _ = H21
    have A21 : Acc st H7 [other, .ref p8, .ref p9, .ref p10, .ref p11, .ref p12, .ref p13, .ref p14, .non, .ref p16, .ref p17, .ref p18, .ref p19, .ref p20, .int 7] H21 := by
      rw [← hg21]
      exact A20.skip hp21
    have e21 : H21 p21 = some (.lst [.ref p16, .ref p17, .ref p18, .ref p19, .ref p20, .int 7]) := by
      rw [← hg21]
      exact upd_same
    have n21 : p21 ≠ st := Store.ne A20.S hp21
    clear A20
    have o21 : H21 p15 = some (.lst [.ref p8, .ref p9, .ref p10, .ref p11, .ref p12, .ref p13, .ref p14, .non]) := by
      rw [← hg21]
      exact same_new hp21 _ _ o20
    clear hg21 hp21 o20
    walk_at "rd"
    refine ⟨p15, p21, _, _, rfl, rfl, o21, e21, sz_le (Nat.le_of_ble_eq_true rfl), fun p22 hp22 => ?_⟩
    generalize hg : upd H21 p22 _ = H22
    have A22 : Acc st H7 [other, .ref p8, .ref p9, .ref p10, .ref p11, .ref p12, .ref p13, .ref p14, .non, .ref p16, .ref p17, .ref p18, .ref p19, .ref p20, .int 7] H22 := by
      rw [← hg]
      exact A21.skip hp22
    have o22 : H22 p22 = some (.lst [.ref p8, .ref p9, .ref p10, .ref p11, .ref p12, .ref p13, .ref p14, .non, .ref p16, .ref p17, .ref p18, .ref p19, .ref p20, .int 7]) := by
      rw [← hg]
      exact upd_same
    have n22 : p22 ≠ st := Store.ne A21.S hp22
    clear hg hp22 A21 o21 e21 n21
    walk_at "rd"
    walk_at "nw"
    intro p23 hp23
    generalize hg23 : upd H22 p23 _ = H23
    have A23 : Acc st H7 [other, .ref p8, .ref p9, .ref p10, .ref p11, .ref p12, .ref p13, .ref p14, .non, .ref p16, .ref p17, .ref p18, .ref p19, .ref p20, .int 7, .ref p23] H23 := by
      rw [← hg23]
      exact A22.tup hp23 (by walk_at "sm") (Nat.le_of_ble_eq_true rfl)
    clear A22
    have o23 : H23 p22 = some (.lst [.ref p8, .ref p9, .ref p10, .ref p11, .ref p12, .ref p13, .ref p14, .non, .ref p16, .ref p17, .ref p18, .ref p19, .ref p20, .int 7]) := by
      rw [← hg23]
      exact same_new hp23 _ _ o22
    clear hg23 hp23 o22
    walk_at "rd"
    walk_at "nw"
    intro p24 hp24
    generalize hg24 : upd H23 p24 _ = H24
    have A24 : Acc st H7 [other, .ref p8, .ref p9, .ref p10, .ref p11, .ref p12, .ref p13, .ref p14, .non, .ref p16, .ref p17, .ref p18, .ref p19, .ref p20, .int 7, .ref p23, .ref p24] H24 := by
      rw [← hg24]
      exact A23.nil hp24
    clear A23
    have o24 : H24 p22 = some (.lst [.ref p8, .ref p9, .ref p10, .ref p11, .ref p12, .ref p13, .ref p14, .non, .ref p16, .ref p17, .ref p18, .ref p19, .ref p20, .int 7]) := by
      rw [← hg24]
      exact same_new hp24 _ _ o23
    clear hg24 hp24 o23
    replace A24 : Acc st H7 [other, .ref p8, .ref p9, .ref p10, .ref p11, .ref p12, .ref p13, .ref p14, .non, .ref p16, .ref p17, .ref p18, .ref p19, .ref p20, .int 7, .ref p23, .ref p24, .str "read"] H24 := A24.flat (by decide +kernel)
    walk_at "rd"
    walk_at "nw"
    intro p25 hp25
    generalize hg25 : upd H24 p25 _ = H25
    have A25 : Acc st H7 [other, .ref p8, .ref p9, .ref p10, .ref p11, .ref p12, .ref p13, .ref p14, .non, .ref p16, .ref p17, .ref p18, .ref p19, .ref p20, .int 7, .ref p23, .ref p24, .str "read", .ref p25] H25 := by
      rw [← hg25]
      exact A24.tup hp25 (by walk_at "sm") (Nat.le_of_ble_eq_true rfl)
    clear A24
    have o25 : H25 p22 = some (.lst [.ref p8, .ref p9, .ref p10, .ref p11, .ref p12, .ref p13, .ref p14, .non, .ref p16, .ref p17, .ref p18, .ref p19, .ref p20, .int 7]) := by
      rw [← hg25]
      exact same_new hp25 _ _ o24
    clear hg25 hp25 o24
    walk_at "rd"
    walk_at "nw"
    intro p26 hp26
    generalize hg26 : upd H25 p26 _ = H26
    have A26 : Acc st H7 [other, .ref p8, .ref p9, .ref p10, .ref p11, .ref p12, .ref p13, .ref p14, .non, .ref p16, .ref p17, .ref p18, .ref p19, .ref p20, .int 7, .ref p23, .ref p24, .str "read", .ref p25, .ref p26] H26 := by
      rw [← hg26]
      exact A25.tup hp26 (by walk_at "sm") (Nat.le_of_ble_eq_true rfl)
    clear A25
    have o26 : H26 p22 = some (.lst [.ref p8, .ref p9, .ref p10, .ref p11, .ref p12, .ref p13, .ref p14, .non, .ref p16, .ref p17, .ref p18, .ref p19, .ref p20, .int 7]) := by
      rw [← hg26]
      exact same_new hp26 _ _ o25
    clear hg26 hp26 o25
    walk_at "rd"
    walk_at "nw"
    intro p27 hp27
    generalize hg27 : upd H26 p27 _ = H27
    have A27 : Acc st H7 [other, .ref p8, .ref p9, .ref p10, .ref p11, .ref p12, .ref p13, .ref p14, .non, .ref p16, .ref p17, .ref p18, .ref p19, .ref p20, .int 7, .ref p23, .ref p24, .str "read", .ref p25, .ref p26, .ref p27] H27 := by
      rw [← hg27]
      exact A26.tup hp27 (by walk_at "sm") (Nat.le_of_ble_eq_true rfl)
    clear A26
    have o27 : H27 p22 = some (.lst [.ref p8, .ref p9, .ref p10, .ref p11, .ref p12, .ref p13, .ref p14, .non, .ref p16, .ref p17, .ref p18, .ref p19, .ref p20, .int 7]) := by
      rw [← hg27]
      exact same_new hp27 _ _ o26
    clear hg27 hp27 o26
    walk_at "rd"
    walk_at "nw"
    intro p28 hp28
    generalize hg28 : upd H27 p28 _ = H28
    have A28 : Acc st H7 [other, .ref p8, .ref p9, .ref p10, .ref p11, .ref p12, .ref p13, .ref p14, .non, .ref p16, .ref p17, .ref p18, .ref p19, .ref p20, .int 7, .ref p23, .ref p24, .str "read", .ref p25, .ref p26, .ref p27, .ref p28] H28 := by
      rw [← hg28]
      exact A27.tup hp28 (by walk_at "sm") (Nat.le_of_ble_eq_true rfl)
    clear A27
    have o28 : H28 p22 = some (.lst [.ref p8, .ref p9, .ref p10, .ref p11, .ref p12, .ref p13, .ref p14, .non, .ref p16, .ref p17, .ref p18, .ref p19, .ref p20, .int 7]) := by
      rw [← hg28]
      exact same_new hp28 _ _ o27
    clear hg28 hp28 o27
    walk_at "rd"
    walk_at "nw"
    intro p29 hp29
    generalize hg29 : upd H28 p29 _ = H29
    have A29 : Acc st H7 [other, .ref p8, .ref p9, .ref p10, .ref p11, .ref p12, .ref p13, .ref p14, .non, .ref p16, .ref p17, .ref p18, .ref p19, .ref p20, .int 7, .ref p23, .ref p24, .str "read", .ref p25, .ref p26, .ref p27, .ref p28] H29 := by
      rw [← hg29]
      exact A28.skip hp29
    have e29 : H29 p29 = some (.lst [.ref p23, .ref p24, .str "read", .ref p25, .ref p26, .ref p27, .ref p28]) := by
      rw [← hg29]
      exact upd_same
    have n29 : p29 ≠ st := Store.ne A28.S hp29
    clear A28
    have o29 : H29 p22 = some (.lst [.ref p8, .ref p9, .ref p10, .ref p11, .ref p12, .ref p13, .ref p14, .non, .ref p16, .ref p17, .ref p18, .ref p19, .ref p20, .int 7]) := by
      rw [← hg29]
      exact same_new hp29 _ _ o28
    clear hg29 hp29 o28
    walk_at "rd"
    refine ⟨p22, p29, _, _, rfl, rfl, o29, e29, sz_le (Nat.le_of_ble_eq_true rfl), fun p30 hp30 => ?_⟩
    generalize hg : upd H29 p30 _ = H30
    have A30 : Acc st H7 [other, .ref p8, .ref p9, .ref p10, .ref p11, .ref p12, .ref p13, .ref p14, .non, .ref p16, .ref p17, .ref p18, .ref p19, .ref p20, .int 7, .ref p23, .ref p24, .str "read", .ref p25, .ref p26, .ref p27, .ref p28] H30 := by
      rw [← hg]
      exact A29.skip hp30
    have o30 : H30 p30 = some (.lst [.ref p8, .ref p9, .ref p10, .ref p11, .ref p12, .ref p13, .ref p14, .non, .ref p16, .ref p17, .ref p18, .ref p19, .ref p20, .int 7, .ref p23, .ref p24, .str "read", .ref p25, .ref p26, .ref p27, .ref p28]) := by
      rw [← hg]
      exact upd_same
    have n30 : p30 ≠ st := Store.ne A29.S hp30
    clear hg hp30 A29 o29 e29 n29
    walk_at "rd"
    walk_at "nw"
    intro p31 hp31
    generalize hg31 : upd H30 p31 _ = H31
    have A31 : Acc st H7 [other, .ref p8, .ref p9, .ref p10, .ref p11, .ref p12, .ref p13, .ref p14, .non, .ref p16, .ref p17, .ref p18, .ref p19, .ref p20, .int 7, .ref p23, .ref p24, .str "read", .ref p25, .ref p26, .ref p27, .ref p28, .ref p31] H31 := by
      rw [← hg31]
      exact A30.tup hp31 (by walk_at "sm") (Nat.le_of_ble_eq_true rfl)
    clear A30
    have o31 : H31 p30 = some (.lst [.ref p8, .ref p9, .ref p10, .ref p11, .ref p12, .ref p13, .ref p14, .non, .ref p16, .ref p17, .ref p18, .ref p19, .ref p20, .int 7, .ref p23, .ref p24, .str "read", .ref p25, .ref p26, .ref p27, .ref p28]) := by
      rw [← hg31]
      exact same_new hp31 _ _ o30
    clear hg31 hp31 o30
    walk_at "rd"
    walk_at "nw"
    intro p32 hp32
    generalize hg32 : upd H31 p32 _ = H32
    have A32 : Acc st H7 [other, .ref p8, .ref p9, .ref p10, .ref p11, .ref p12, .ref p13, .ref p14, .non, .ref p16, .ref p17, .ref p18, .ref p19, .ref p20, .int 7, .ref p23, .ref p24, .str "read", .ref p25, .ref p26, .ref p27, .ref p28, .ref p31, .ref p32] H32 := by
      rw [← hg32]
      exact A31.tup hp32 (by walk_at "sm") (Nat.le_of_ble_eq_true rfl)
    clear A31
    have o32 : H32 p30 = some (.lst [.ref p8, .ref p9, .ref p10, .ref p11, .ref p12, .ref p13, .ref p14, .non, .ref p16, .ref p17, .ref p18, .ref p19, .ref p20, .int 7, .ref p23, .ref p24, .str "read", .ref p25, .ref p26, .ref p27, .ref p28]) := by
      rw [← hg32]
      exact same_new hp32 _ _ o31
    clear hg32 hp32 o31
    walk_at "rd"
    walk_at "nw"
    intro p33 hp33
    generalize hg33 : upd H32 p33 _ = H33
    have A33 : Acc st H7 [other, .ref p8, .ref p9, .ref p10, .ref p11, .ref p12, .ref p13, .ref p14, .non, .ref p16, .ref p17, .ref p18, .ref p19, .ref p20, .int 7, .ref p23, .ref p24, .str "read", .ref p25, .ref p26, .ref p27, .ref p28, .ref p31, .ref p32] H33 := by
      rw [← hg33]
      exact A32.skip hp33
    have e33 : H33 p33 = some (.lst [.ref p31, .ref p32]) := by
      rw [← hg33]
      exact upd_same
    have n33 : p33 ≠ st := Store.ne A32.S hp33
    clear A32
    have o33 : H33 p30 = some (.lst [.ref p8, .ref p9, .ref p10, .ref p11, .ref p12, .ref p13, .ref p14, .non, .ref p16, .ref p17, .ref p18, .ref p19, .ref p20, .int 7, .ref p23, .ref p24, .str "read", .ref p25, .ref p26, .ref p27, .ref p28]) := by
      rw [← hg33]
      exact same_new hp33 _ _ o32
    clear hg33 hp33 o32
    walk_at "rd"
    refine ⟨p30, p33, _, _, rfl, rfl, o33, e33, sz_le (Nat.le_of_ble_eq_true rfl), fun p34 hp34 => ?_⟩
    generalize hg : upd H33 p34 _ = H34
    have A34 : Acc st H7 [other, .ref p8, .ref p9, .ref p10, .ref p11, .ref p12, .ref p13, .ref p14, .non, .ref p16, .ref p17, .ref p18, .ref p19, .ref p20, .int 7, .ref p23, .ref p24, .str "read", .ref p25, .ref p26, .ref p27, .ref p28, .ref p31, .ref p32] H34 := by
      rw [← hg]
      exact A33.skip hp34
    have o34 : H34 p34 = some (.lst [.ref p8, .ref p9, .ref p10, .ref p11, .ref p12, .ref p13, .ref p14, .non, .ref p16, .ref p17, .ref p18, .ref p19, .ref p20, .int 7, .ref p23, .ref p24, .str "read", .ref p25, .ref p26, .ref p27, .ref p28, .ref p31, .ref p32]) := by
      rw [← hg]
      exact upd_same
    have n34 : p34 ≠ st := Store.ne A33.S hp34
    clear hg hp34 A33 o33 e33 n33
    walk_at "rd"
    refine ⟨by decide, A34.S, fun way H35 y0 y1 S1 b1 => ?_⟩
    have hla : H35 l = some (.lst xs) := b1.1 _ _ hne (A34.same _ _ (B7.1 _ _ hne hl))
    walk_at "rd"
    refine ⟨l, xs, rfl, .inl (SqL.of hla), ?_⟩
    walk_at "rd"
    refine ⟨by omega, S1, fun j G0 j0 j1 SG0 b2 => ?_⟩
    have hj : j ≤ xs.length := by
      revert j1
      split <;> omega
    have hl0 : G0 l = some (.lst xs) := b2.1 _ _ hne hla
    have BG : ButS st H G0 := ((B7.trans (.of A34.same)).trans b1).trans b2
    have hx0 : ∀ x ∈ xs, It1 st G0 x := fun x hx => (hit x hx).keep S BG
    have od : G0 p34 = some (.lst [.ref p8, .ref p9, .ref p10, .ref p11, .ref p12, .ref p13, .ref p14, .non, .ref p16, .ref p17, .ref p18, .ref p19, .ref p20, .int 7, .ref p23, .ref p24, .str "read", .ref p25, .ref p26, .ref p27, .ref p28, .ref p31, .ref p32]) := (b1.trans b2).1 _ _ n34 o34
    have io : It1 st G0 other := (A34.all other List.mem_cons_self).keep A34.S (b1.trans b2)
    have iod : ∀ x ∈ ([.ref p8, .ref p9, .ref p10, .ref p11, .ref p12, .ref p13, .ref p14, .non, .ref p16, .ref p17, .ref p18, .ref p19, .ref p20, .int 7, .ref p23, .ref p24, .str "read", .ref p25, .ref p26, .ref p27, .ref p28, .ref p31, .ref p32] : List V), It1 st G0 x := fun x hx => (A34.all x (List.mem_cons_of_mem _ hx)).keep A34.S (b1.trans b2)
    have lod : ([.ref p8, .ref p9, .ref p10, .ref p11, .ref p12, .ref p13, .ref p14, .non, .ref p16, .ref p17, .ref p18, .ref p19, .ref p20, .int 7, .ref p23, .ref p24, .str "read", .ref p25, .ref p26, .ref p27, .ref p28, .ref p31, .ref p32] : List V).length = 23 := rfl
    have nod : p34 ≠ st := n34
    generalize ([.ref p8, .ref p9, .ref p10, .ref p11, .ref p12, .ref p13, .ref p14, .non, .ref p16, .ref p17, .ref p18, .ref p19, .ref p20, .int 7, .ref p23, .ref p24, .str "read", .ref p25, .ref p26, .ref p27, .ref p28, .ref p31, .ref p32] : List V) = os at od iod lod
    generalize p34 = po at od nod ⊢
    clear A34 o34 n34 b1 b2 S1 B7 hla hl j1 hit S hc0 hc1

    have hj2 : j.toNat ≤ xs.length := by omega
    have lens1 : (cutV xs none (some j)).length = min j.toNat xs.length := cutV_to xs j0
    have lens2 : (cutV xs (some j) none).length = xs.length - min j.toNat xs.length := cutV_from xs j0
    have lens3 : (cutV xs (some (j + 1)) none).length = xs.length - min (j + 1).toNat xs.length := cutV_from xs (by omega)
    have lens4 : (cutV xs (some j) (some (j + 1))).length = min (j + 1).toNat xs.length - min j.toNat xs.length := cutV_in xs j0 (by omega)
    have lens5 : (cutV xs (some (j + 1)) (some (j + 2))).length = min (j + 2).toNat xs.length - min (j + 1).toNat xs.length := cutV_in xs (by omega) (by omega)
    have lens6 : (cutV xs (some (j + 2)) none).length = xs.length - min (j + 2).toNat xs.length := cutV_from xs (by omega)
    walk_at "rd"
    refine ite2 (fun hc => ?_) (fun hc => ?_)
    · clear hc
      walk_at "rd"
      refine ⟨l, xs, rfl, SqL.of hl0, fun v1 hv1 => ?_⟩
      generalize hg : upd G0 v1 _ = G1
      have t1 : ButS st G0 G1 := by
        rw [← hg]
        exact .new hv1
      have T1 : ButS st G0 G1 := ButS.refl.trans t1
      have S1 : Store G1 st := by
        rw [← hg]
        exact SG0.keep (same_new hv1)
      have nv1 : v1 ≠ st := Store.ne SG0 hv1
      have ev1 : G1 v1 = some (.lst (cutV xs none (some j))) := by
        rw [← hg]
        exact upd_same
      clear hg
      walk_at "rd"
      refine ⟨v1, _, rfl, .inl (SqL.of ev1), fun v2 hv2 => ?_⟩
      generalize hg : upd G1 v2 _ = G2
      have t2 : ButS st G1 G2 := by
        rw [← hg]
        exact .new hv2
      have T2 : ButS st G0 G2 := T1.trans t2
      have S2 : Store G2 st := by
        rw [← hg]
        exact S1.keep (same_new hv2)
      have nv2 : v2 ≠ st := Store.ne S1 hv2
      have ev2 : G2 v2 = some (.lst (cutV xs none (some j))) := by
        rw [← hg]
        exact upd_same
      clear hg
      walk_at "rd"
      walk_at "nw"
      intro v3 hv3
      generalize hg : upd G2 v3 _ = G3
      have t3 : ButS st G2 G3 := by
        rw [← hg]
        exact .new hv3
      have T3 : ButS st G0 G3 := T2.trans t3
      have S3 : Store G3 st := by
        rw [← hg]
        exact S2.keep (same_new hv3)
      have nv3 : v3 ≠ st := Store.ne S2 hv3
      have ev3 : G3 v3 = some (.lst ([other])) := by
        rw [← hg]
        exact upd_same
      clear hg
      walk_at "rd"
      refine ⟨v2, v3, _, _, rfl, rfl, (t3.1 _ _ nv2 ev2), ev3, sz_le (by simp only [List.length_append, List.length_cons, List.length_nil, lens1, lens2, lens3, lens4, lens5, lens6]; omega), fun v4 hv4 => ?_⟩
      generalize hg : upd G3 v4 _ = G4
      have t4 : ButS st G3 G4 := by
        rw [← hg]
        exact .new hv4
      have T4 : ButS st G0 G4 := T3.trans t4
      have S4 : Store G4 st := by
        rw [← hg]
        exact S3.keep (same_new hv4)
      have nv4 : v4 ≠ st := Store.ne S3 hv4
      have ev4 : G4 v4 = some (.lst (cutV xs none (some j) ++ [other])) := by
        rw [← hg]
        exact upd_same
      clear hg
      walk_at "rd"
      refine ⟨l, xs, rfl, SqL.of (T4.1 _ _ hne hl0), fun v5 hv5 => ?_⟩
      generalize hg : upd G4 v5 _ = G5
      have t5 : ButS st G4 G5 := by
        rw [← hg]
        exact .new hv5
      have T5 : ButS st G0 G5 := T4.trans t5
      have S5 : Store G5 st := by
        rw [← hg]
        exact S4.keep (same_new hv5)
      have nv5 : v5 ≠ st := Store.ne S4 hv5
      have ev5 : G5 v5 = some (.lst (cutV xs (some j) none)) := by
        rw [← hg]
        exact upd_same
      clear hg
      walk_at "rd"
      refine ⟨v5, _, rfl, .inl (SqL.of ev5), fun v6 hv6 => ?_⟩
      generalize hg : upd G5 v6 _ = G6
      have t6 : ButS st G5 G6 := by
        rw [← hg]
        exact .new hv6
      have T6 : ButS st G0 G6 := T5.trans t6
      have S6 : Store G6 st := by
        rw [← hg]
        exact S5.keep (same_new hv6)
      have nv6 : v6 ≠ st := Store.ne S5 hv6
      have ev6 : G6 v6 = some (.lst (cutV xs (some j) none)) := by
        rw [← hg]
        exact upd_same
      clear hg
      walk_at "rd"
      refine ⟨v4, v6, _, _, rfl, rfl, (t6.1 _ _ nv4 (t5.1 _ _ nv4 ev4)), ev6, sz_le (by simp only [List.length_append, List.length_cons, List.length_nil, lens1, lens2, lens3, lens4, lens5, lens6]; omega), fun v7 hv7 => ?_⟩
      generalize hg : upd G6 v7 _ = G7
      have t7 : ButS st G6 G7 := by
        rw [← hg]
        exact .new hv7
      have T7 : ButS st G0 G7 := T6.trans t7
      have S7 : Store G7 st := by
        rw [← hg]
        exact S6.keep (same_new hv7)
      have nv7 : v7 ≠ st := Store.ne S6 hv7
      have ev7 : G7 v7 = some (.lst (cutV xs none (some j) ++ [other] ++ cutV xs (some j) none)) := by
        rw [← hg]
        exact upd_same
      clear hg
      walk_at "rd"
      refine q v7 _ _ ev7 ((BG.trans T6).free S6 hv7) (fun y hy => ?_) (by simp only [List.length_append, List.length_cons, List.length_nil, lens1, lens2, lens3, lens4, lens5, lens6]; omega) S7 (BG.trans T7)
      simp only [List.mem_append, List.mem_singleton] at hy
      have fx : ∀ {lo hi : Option Int}, y ∈ cutV xs lo hi → It1 st G7 y := fun h => (hx0 y (cutV_mem h)).keep SG0 T7
      have fo : y = other → It1 st G7 y := fun h => by
        rw [h]
        exact io.keep SG0 T7
      rcases hy with (hy | hy) | hy
      · exact fx hy
      · exact fo hy
      · exact fx hy
    walk_at "rd"
    refine ite2 (fun hc => ?_) (fun hc => ?_)
    · clear hc
      walk_at "rd"
      refine ⟨l, xs, rfl, SqL.of hl0, fun v1 hv1 => ?_⟩
      generalize hg : upd G0 v1 _ = G1
      have t1 : ButS st G0 G1 := by
        rw [← hg]
        exact .new hv1
      have T1 : ButS st G0 G1 := ButS.refl.trans t1
      have S1 : Store G1 st := by
        rw [← hg]
        exact SG0.keep (same_new hv1)
      have nv1 : v1 ≠ st := Store.ne SG0 hv1
      have ev1 : G1 v1 = some (.lst (cutV xs none (some j))) := by
        rw [← hg]
        exact upd_same
      clear hg
      walk_at "rd"
      refine ⟨v1, _, rfl, .inl (SqL.of ev1), fun v2 hv2 => ?_⟩
      generalize hg : upd G1 v2 _ = G2
      have t2 : ButS st G1 G2 := by
        rw [← hg]
        exact .new hv2
      have T2 : ButS st G0 G2 := T1.trans t2
      have S2 : Store G2 st := by
        rw [← hg]
        exact S1.keep (same_new hv2)
      have nv2 : v2 ≠ st := Store.ne S1 hv2
      have ev2 : G2 v2 = some (.lst (cutV xs none (some j))) := by
        rw [← hg]
        exact upd_same
      clear hg
      have npo := nod
      walk_at "rd"
      refine ⟨st, po, _, rfl, (t2.1 _ _ nod (t1.1 _ _ nod od)), npo, by omega, by omega, S2, fun x G3 hxm S3 t3 => ?_⟩
      have T3 : ButS st G0 G3 := T2.trans t3
      have ix : It1 st G3 x := (iod x hxm).keep SG0 T3
      walk_at "rd"
      walk_at "nw"
      intro v3 hv3
      generalize hg : upd G3 v3 _ = G4
      have t4 : ButS st G3 G4 := by
        rw [← hg]
        exact .new hv3
      have T4 : ButS st G0 G4 := T3.trans t4
      have S4 : Store G4 st := by
        rw [← hg]
        exact S3.keep (same_new hv3)
      have nv3 : v3 ≠ st := Store.ne S3 hv3
      have ev3 : G4 v3 = some (.lst ([x])) := by
        rw [← hg]
        exact upd_same
      clear hg
      walk_at "rd"
      refine ⟨v2, v3, _, _, rfl, rfl, (t4.1 _ _ nv2 (t3.1 _ _ nv2 ev2)), ev3, sz_le (by simp only [List.length_append, List.length_cons, List.length_nil, lens1, lens2, lens3, lens4, lens5, lens6]; omega), fun v4 hv4 => ?_⟩
      generalize hg : upd G4 v4 _ = G5
      have t5 : ButS st G4 G5 := by
        rw [← hg]
        exact .new hv4
      have T5 : ButS st G0 G5 := T4.trans t5
      have S5 : Store G5 st := by
        rw [← hg]
        exact S4.keep (same_new hv4)
      have nv4 : v4 ≠ st := Store.ne S4 hv4
      have ev4 : G5 v4 = some (.lst (cutV xs none (some j) ++ [x])) := by
        rw [← hg]
        exact upd_same
      clear hg
      walk_at "rd"
      refine ⟨l, xs, rfl, SqL.of (T5.1 _ _ hne hl0), fun v5 hv5 => ?_⟩
      generalize hg : upd G5 v5 _ = G6
      have t6 : ButS st G5 G6 := by
        rw [← hg]
        exact .new hv5
      have T6 : ButS st G0 G6 := T5.trans t6
      have S6 : Store G6 st := by
        rw [← hg]
        exact S5.keep (same_new hv5)
      have nv5 : v5 ≠ st := Store.ne S5 hv5
      have ev5 : G6 v5 = some (.lst (cutV xs (some j) none)) := by
        rw [← hg]
        exact upd_same
      clear hg
      walk_at "rd"
      refine ⟨v5, _, rfl, .inl (SqL.of ev5), fun v6 hv6 => ?_⟩
      generalize hg : upd G6 v6 _ = G7
      have t7 : ButS st G6 G7 := by
        rw [← hg]
        exact .new hv6
      have T7 : ButS st G0 G7 := T6.trans t7
      have S7 : Store G7 st := by
        rw [← hg]
        exact S6.keep (same_new hv6)
      have nv6 : v6 ≠ st := Store.ne S6 hv6
      have ev6 : G7 v6 = some (.lst (cutV xs (some j) none)) := by
        rw [← hg]
        exact upd_same
      clear hg
      walk_at "rd"
      refine ⟨v4, v6, _, _, rfl, rfl, (t7.1 _ _ nv4 (t6.1 _ _ nv4 ev4)), ev6, sz_le (by simp only [List.length_append, List.length_cons, List.length_nil, lens1, lens2, lens3, lens4, lens5, lens6]; omega), fun v7 hv7 => ?_⟩
      generalize hg : upd G7 v7 _ = G8
      have t8 : ButS st G7 G8 := by
        rw [← hg]
        exact .new hv7
      have T8 : ButS st G0 G8 := T7.trans t8
      have S8 : Store G8 st := by
        rw [← hg]
        exact S7.keep (same_new hv7)
      have nv7 : v7 ≠ st := Store.ne S7 hv7
      have ev7 : G8 v7 = some (.lst (cutV xs none (some j) ++ [x] ++ cutV xs (some j) none)) := by
        rw [← hg]
        exact upd_same
      clear hg
      walk_at "rd"
      refine q v7 _ _ ev7 ((BG.trans T7).free S7 hv7) (fun y hy => ?_) (by simp only [List.length_append, List.length_cons, List.length_nil, lens1, lens2, lens3, lens4, lens5, lens6]; omega) S8 (BG.trans T8)
      simp only [List.mem_append, List.mem_singleton] at hy
      have fx : ∀ {lo hi : Option Int}, y ∈ cutV xs lo hi → It1 st G8 y := fun h => (hx0 y (cutV_mem h)).keep SG0 T8
      have fo : y = other → It1 st G8 y := fun h => by
        rw [h]
        exact io.keep SG0 T8
      rcases hy with (hy | hy) | hy
      · exact fx hy
      · rw [hy]
        exact ix.keep S3 ((((t4.trans t5).trans t6).trans t7).trans t8)
      · exact fx hy
    walk_at "rd"
    refine ite2 (fun hc => ?_) (fun hc => ?_)
    · clear hc
      walk_at "rd"
      refine ⟨l, xs, rfl, SqL.of hl0, fun v1 hv1 => ?_⟩
      generalize hg : upd G0 v1 _ = G1
      have t1 : ButS st G0 G1 := by
        rw [← hg]
        exact .new hv1
      have T1 : ButS st G0 G1 := ButS.refl.trans t1
      have S1 : Store G1 st := by
        rw [← hg]
        exact SG0.keep (same_new hv1)
      have nv1 : v1 ≠ st := Store.ne SG0 hv1
      have ev1 : G1 v1 = some (.lst (cutV xs none (some j))) := by
        rw [← hg]
        exact upd_same
      clear hg
      walk_at "rd"
      refine ⟨v1, _, rfl, .inl (SqL.of ev1), fun v2 hv2 => ?_⟩
      generalize hg : upd G1 v2 _ = G2
      have t2 : ButS st G1 G2 := by
        rw [← hg]
        exact .new hv2
      have T2 : ButS st G0 G2 := T1.trans t2
      have S2 : Store G2 st := by
        rw [← hg]
        exact S1.keep (same_new hv2)
      have nv2 : v2 ≠ st := Store.ne S1 hv2
      have ev2 : G2 v2 = some (.lst (cutV xs none (some j))) := by
        rw [← hg]
        exact upd_same
      clear hg
      walk_at "rd"
      refine ⟨l, xs, rfl, SqL.of (T2.1 _ _ hne hl0), fun v3 hv3 => ?_⟩
      generalize hg : upd G2 v3 _ = G3
      have t3 : ButS st G2 G3 := by
        rw [← hg]
        exact .new hv3
      have T3 : ButS st G0 G3 := T2.trans t3
      have S3 : Store G3 st := by
        rw [← hg]
        exact S2.keep (same_new hv3)
      have nv3 : v3 ≠ st := Store.ne S2 hv3
      have ev3 : G3 v3 = some (.lst (cutV xs (some (j + 1)) none)) := by
        rw [← hg]
        exact upd_same
      clear hg
      walk_at "rd"
      refine ⟨v3, _, rfl, .inl (SqL.of ev3), fun v4 hv4 => ?_⟩
      generalize hg : upd G3 v4 _ = G4
      have t4 : ButS st G3 G4 := by
        rw [← hg]
        exact .new hv4
      have T4 : ButS st G0 G4 := T3.trans t4
      have S4 : Store G4 st := by
        rw [← hg]
        exact S3.keep (same_new hv4)
      have nv4 : v4 ≠ st := Store.ne S3 hv4
      have ev4 : G4 v4 = some (.lst (cutV xs (some (j + 1)) none)) := by
        rw [← hg]
        exact upd_same
      clear hg
      walk_at "rd"
      refine ⟨v2, v4, _, _, rfl, rfl, (t4.1 _ _ nv2 (t3.1 _ _ nv2 ev2)), ev4, sz_le (by simp only [List.length_append, List.length_cons, List.length_nil, lens1, lens2, lens3, lens4, lens5, lens6]; omega), fun v5 hv5 => ?_⟩
      generalize hg : upd G4 v5 _ = G5
      have t5 : ButS st G4 G5 := by
        rw [← hg]
        exact .new hv5
      have T5 : ButS st G0 G5 := T4.trans t5
      have S5 : Store G5 st := by
        rw [← hg]
        exact S4.keep (same_new hv5)
      have nv5 : v5 ≠ st := Store.ne S4 hv5
      have ev5 : G5 v5 = some (.lst (cutV xs none (some j) ++ cutV xs (some (j + 1)) none)) := by
        rw [← hg]
        exact upd_same
      clear hg
      walk_at "rd"
      refine q v5 _ _ ev5 ((BG.trans T4).free S4 hv5) (fun y hy => ?_) (by simp only [List.length_append, List.length_cons, List.length_nil, lens1, lens2, lens3, lens4, lens5, lens6]; omega) S5 (BG.trans T5)
      simp only [List.mem_append, List.mem_singleton] at hy
      have fx : ∀ {lo hi : Option Int}, y ∈ cutV xs lo hi → It1 st G5 y := fun h => (hx0 y (cutV_mem h)).keep SG0 T5
      have fo : y = other → It1 st G5 y := fun h => by
        rw [h]
        exact io.keep SG0 T5
      rcases hy with hy | hy
      · exact fx hy
      · exact fx hy
    walk_at "rd"
    refine ite2 (fun hc => ?_) (fun hc => ?_)
    · clear hc
      walk_at "rd"
      refine ⟨l, xs, rfl, SqL.of hl0, fun v1 hv1 => ?_⟩
      generalize hg : upd G0 v1 _ = G1
      have t1 : ButS st G0 G1 := by
        rw [← hg]
        exact .new hv1
      have T1 : ButS st G0 G1 := ButS.refl.trans t1
      have S1 : Store G1 st := by
        rw [← hg]
        exact SG0.keep (same_new hv1)
      have nv1 : v1 ≠ st := Store.ne SG0 hv1
      have ev1 : G1 v1 = some (.lst (cutV xs none (some j))) := by
        rw [← hg]
        exact upd_same
      clear hg
      walk_at "rd"
      refine ⟨v1, _, rfl, .inl (SqL.of ev1), fun v2 hv2 => ?_⟩
      generalize hg : upd G1 v2 _ = G2
      have t2 : ButS st G1 G2 := by
        rw [← hg]
        exact .new hv2
      have T2 : ButS st G0 G2 := T1.trans t2
      have S2 : Store G2 st := by
        rw [← hg]
        exact S1.keep (same_new hv2)
      have nv2 : v2 ≠ st := Store.ne S1 hv2
      have ev2 : G2 v2 = some (.lst (cutV xs none (some j))) := by
        rw [← hg]
        exact upd_same
      clear hg
      walk_at "rd"
      refine ⟨l, xs, rfl, SqL.of (T2.1 _ _ hne hl0), fun v3 hv3 => ?_⟩
      generalize hg : upd G2 v3 _ = G3
      have t3 : ButS st G2 G3 := by
        rw [← hg]
        exact .new hv3
      have T3 : ButS st G0 G3 := T2.trans t3
      have S3 : Store G3 st := by
        rw [← hg]
        exact S2.keep (same_new hv3)
      have nv3 : v3 ≠ st := Store.ne S2 hv3
      have ev3 : G3 v3 = some (.lst (cutV xs (some j) (some (j + 1)))) := by
        rw [← hg]
        exact upd_same
      clear hg
      walk_at "rd"
      refine ⟨v3, _, rfl, .inl (SqL.of ev3), fun v4 hv4 => ?_⟩
      generalize hg : upd G3 v4 _ = G4
      have t4 : ButS st G3 G4 := by
        rw [← hg]
        exact .new hv4
      have T4 : ButS st G0 G4 := T3.trans t4
      have S4 : Store G4 st := by
        rw [← hg]
        exact S3.keep (same_new hv4)
      have nv4 : v4 ≠ st := Store.ne S3 hv4
      have ev4 : G4 v4 = some (.lst (cutV xs (some j) (some (j + 1)))) := by
        rw [← hg]
        exact upd_same
      clear hg
      walk_at "rd"
      refine ⟨v2, v4, _, _, rfl, rfl, (t4.1 _ _ nv2 (t3.1 _ _ nv2 ev2)), ev4, sz_le (by simp only [List.length_append, List.length_cons, List.length_nil, lens1, lens2, lens3, lens4, lens5, lens6]; omega), fun v5 hv5 => ?_⟩
      generalize hg : upd G4 v5 _ = G5
      have t5 : ButS st G4 G5 := by
        rw [← hg]
        exact .new hv5
      have T5 : ButS st G0 G5 := T4.trans t5
      have S5 : Store G5 st := by
        rw [← hg]
        exact S4.keep (same_new hv5)
      have nv5 : v5 ≠ st := Store.ne S4 hv5
      have ev5 : G5 v5 = some (.lst (cutV xs none (some j) ++ cutV xs (some j) (some (j + 1)))) := by
        rw [← hg]
        exact upd_same
      clear hg
      walk_at "rd"
      refine ⟨l, xs, rfl, SqL.of (T5.1 _ _ hne hl0), fun v6 hv6 => ?_⟩
      generalize hg : upd G5 v6 _ = G6
      have t6 : ButS st G5 G6 := by
        rw [← hg]
        exact .new hv6
      have T6 : ButS st G0 G6 := T5.trans t6
      have S6 : Store G6 st := by
        rw [← hg]
        exact S5.keep (same_new hv6)
      have nv6 : v6 ≠ st := Store.ne S5 hv6
      have ev6 : G6 v6 = some (.lst (cutV xs (some j) none)) := by
        rw [← hg]
        exact upd_same
      clear hg
      walk_at "rd"
      refine ⟨v6, _, rfl, .inl (SqL.of ev6), fun v7 hv7 => ?_⟩
      generalize hg : upd G6 v7 _ = G7
      have t7 : ButS st G6 G7 := by
        rw [← hg]
        exact .new hv7
      have T7 : ButS st G0 G7 := T6.trans t7
      have S7 : Store G7 st := by
        rw [← hg]
        exact S6.keep (same_new hv7)
      have nv7 : v7 ≠ st := Store.ne S6 hv7
      have ev7 : G7 v7 = some (.lst (cutV xs (some j) none)) := by
        rw [← hg]
        exact upd_same
      clear hg
      walk_at "rd"
      refine ⟨v5, v7, _, _, rfl, rfl, (t7.1 _ _ nv5 (t6.1 _ _ nv5 ev5)), ev7, sz_le (by simp only [List.length_append, List.length_cons, List.length_nil, lens1, lens2, lens3, lens4, lens5, lens6]; omega), fun v8 hv8 => ?_⟩
      generalize hg : upd G7 v8 _ = G8
      have t8 : ButS st G7 G8 := by
        rw [← hg]
        exact .new hv8
      have T8 : ButS st G0 G8 := T7.trans t8
      have S8 : Store G8 st := by
        rw [← hg]
        exact S7.keep (same_new hv8)
      have nv8 : v8 ≠ st := Store.ne S7 hv8
      have ev8 : G8 v8 = some (.lst (cutV xs none (some j) ++ cutV xs (some j) (some (j + 1)) ++ cutV xs (some j) none)) := by
        rw [← hg]
        exact upd_same
      clear hg
      walk_at "rd"
      refine q v8 _ _ ev8 ((BG.trans T7).free S7 hv8) (fun y hy => ?_) (by simp only [List.length_append, List.length_cons, List.length_nil, lens1, lens2, lens3, lens4, lens5, lens6]; omega) S8 (BG.trans T8)
      simp only [List.mem_append, List.mem_singleton] at hy
      have fx : ∀ {lo hi : Option Int}, y ∈ cutV xs lo hi → It1 st G8 y := fun h => (hx0 y (cutV_mem h)).keep SG0 T8
      have fo : y = other → It1 st G8 y := fun h => by
        rw [h]
        exact io.keep SG0 T8
      rcases hy with (hy | hy) | hy
      · exact fx hy
      · exact fx hy
      · exact fx hy
    walk_at "rd"
    refine ite2 (fun hc => ?_) (fun hc => ?_)
    · clear hc
      walk_at "rd"
      refine ⟨l, xs, rfl, SqL.of hl0, fun v1 hv1 => ?_⟩
      generalize hg : upd G0 v1 _ = G1
      have t1 : ButS st G0 G1 := by
        rw [← hg]
        exact .new hv1
      have T1 : ButS st G0 G1 := ButS.refl.trans t1
      have S1 : Store G1 st := by
        rw [← hg]
        exact SG0.keep (same_new hv1)
      have nv1 : v1 ≠ st := Store.ne SG0 hv1
      have ev1 : G1 v1 = some (.lst (cutV xs none (some j))) := by
        rw [← hg]
        exact upd_same
      clear hg
      walk_at "rd"
      refine ⟨v1, _, rfl, .inl (SqL.of ev1), fun v2 hv2 => ?_⟩
      generalize hg : upd G1 v2 _ = G2
      have t2 : ButS st G1 G2 := by
        rw [← hg]
        exact .new hv2
      have T2 : ButS st G0 G2 := T1.trans t2
      have S2 : Store G2 st := by
        rw [← hg]
        exact S1.keep (same_new hv2)
      have nv2 : v2 ≠ st := Store.ne S1 hv2
      have ev2 : G2 v2 = some (.lst (cutV xs none (some j))) := by
        rw [← hg]
        exact upd_same
      clear hg
      walk_at "rd"
      refine ⟨l, xs, rfl, SqL.of (T2.1 _ _ hne hl0), fun v3 hv3 => ?_⟩
      generalize hg : upd G2 v3 _ = G3
      have t3 : ButS st G2 G3 := by
        rw [← hg]
        exact .new hv3
      have T3 : ButS st G0 G3 := T2.trans t3
      have S3 : Store G3 st := by
        rw [← hg]
        exact S2.keep (same_new hv3)
      have nv3 : v3 ≠ st := Store.ne S2 hv3
      have ev3 : G3 v3 = some (.lst (cutV xs (some (j + 1)) (some (j + 2)))) := by
        rw [← hg]
        exact upd_same
      clear hg
      walk_at "rd"
      refine ⟨v3, _, rfl, .inl (SqL.of ev3), fun v4 hv4 => ?_⟩
      generalize hg : upd G3 v4 _ = G4
      have t4 : ButS st G3 G4 := by
        rw [← hg]
        exact .new hv4
      have T4 : ButS st G0 G4 := T3.trans t4
      have S4 : Store G4 st := by
        rw [← hg]
        exact S3.keep (same_new hv4)
      have nv4 : v4 ≠ st := Store.ne S3 hv4
      have ev4 : G4 v4 = some (.lst (cutV xs (some (j + 1)) (some (j + 2)))) := by
        rw [← hg]
        exact upd_same
      clear hg
      walk_at "rd"
      refine ⟨v2, v4, _, _, rfl, rfl, (t4.1 _ _ nv2 (t3.1 _ _ nv2 ev2)), ev4, sz_le (by simp only [List.length_append, List.length_cons, List.length_nil, lens1, lens2, lens3, lens4, lens5, lens6]; omega), fun v5 hv5 => ?_⟩
      generalize hg : upd G4 v5 _ = G5
      have t5 : ButS st G4 G5 := by
        rw [← hg]
        exact .new hv5
      have T5 : ButS st G0 G5 := T4.trans t5
      have S5 : Store G5 st := by
        rw [← hg]
        exact S4.keep (same_new hv5)
      have nv5 : v5 ≠ st := Store.ne S4 hv5
      have ev5 : G5 v5 = some (.lst (cutV xs none (some j) ++ cutV xs (some (j + 1)) (some (j + 2)))) := by
        rw [← hg]
        exact upd_same
      clear hg
      walk_at "rd"
      refine ⟨l, xs, rfl, SqL.of (T5.1 _ _ hne hl0), fun v6 hv6 => ?_⟩
      generalize hg : upd G5 v6 _ = G6
      have t6 : ButS st G5 G6 := by
        rw [← hg]
        exact .new hv6
      have T6 : ButS st G0 G6 := T5.trans t6
      have S6 : Store G6 st := by
        rw [← hg]
        exact S5.keep (same_new hv6)
      have nv6 : v6 ≠ st := Store.ne S5 hv6
      have ev6 : G6 v6 = some (.lst (cutV xs (some j) (some (j + 1)))) := by
        rw [← hg]
        exact upd_same
      clear hg
      walk_at "rd"
      refine ⟨v6, _, rfl, .inl (SqL.of ev6), fun v7 hv7 => ?_⟩
      generalize hg : upd G6 v7 _ = G7
      have t7 : ButS st G6 G7 := by
        rw [← hg]
        exact .new hv7
      have T7 : ButS st G0 G7 := T6.trans t7
      have S7 : Store G7 st := by
        rw [← hg]
        exact S6.keep (same_new hv7)
      have nv7 : v7 ≠ st := Store.ne S6 hv7
      have ev7 : G7 v7 = some (.lst (cutV xs (some j) (some (j + 1)))) := by
        rw [← hg]
        exact upd_same
      clear hg
      walk_at "rd"
      refine ⟨v5, v7, _, _, rfl, rfl, (t7.1 _ _ nv5 (t6.1 _ _ nv5 ev5)), ev7, sz_le (by simp only [List.length_append, List.length_cons, List.length_nil, lens1, lens2, lens3, lens4, lens5, lens6]; omega), fun v8 hv8 => ?_⟩
      generalize hg : upd G7 v8 _ = G8
      have t8 : ButS st G7 G8 := by
        rw [← hg]
        exact .new hv8
      have T8 : ButS st G0 G8 := T7.trans t8
      have S8 : Store G8 st := by
        rw [← hg]
        exact S7.keep (same_new hv8)
      have nv8 : v8 ≠ st := Store.ne S7 hv8
      have ev8 : G8 v8 = some (.lst (cutV xs none (some j) ++ cutV xs (some (j + 1)) (some (j + 2)) ++ cutV xs (some j) (some (j + 1)))) := by
        rw [← hg]
        exact upd_same
      clear hg
      walk_at "rd"
      refine ⟨l, xs, rfl, SqL.of (T8.1 _ _ hne hl0), fun v9 hv9 => ?_⟩
      generalize hg : upd G8 v9 _ = G9
      have t9 : ButS st G8 G9 := by
        rw [← hg]
        exact .new hv9
      have T9 : ButS st G0 G9 := T8.trans t9
      have S9 : Store G9 st := by
        rw [← hg]
        exact S8.keep (same_new hv9)
      have nv9 : v9 ≠ st := Store.ne S8 hv9
      have ev9 : G9 v9 = some (.lst (cutV xs (some (j + 2)) none)) := by
        rw [← hg]
        exact upd_same
      clear hg
      walk_at "rd"
      refine ⟨v9, _, rfl, .inl (SqL.of ev9), fun v10 hv10 => ?_⟩
      generalize hg : upd G9 v10 _ = G10
      have t10 : ButS st G9 G10 := by
        rw [← hg]
        exact .new hv10
      have T10 : ButS st G0 G10 := T9.trans t10
      have S10 : Store G10 st := by
        rw [← hg]
        exact S9.keep (same_new hv10)
      have nv10 : v10 ≠ st := Store.ne S9 hv10
      have ev10 : G10 v10 = some (.lst (cutV xs (some (j + 2)) none)) := by
        rw [← hg]
        exact upd_same
      clear hg
      walk_at "rd"
      refine ⟨v8, v10, _, _, rfl, rfl, (t10.1 _ _ nv8 (t9.1 _ _ nv8 ev8)), ev10, sz_le (by simp only [List.length_append, List.length_cons, List.length_nil, lens1, lens2, lens3, lens4, lens5, lens6]; omega), fun v11 hv11 => ?_⟩
      generalize hg : upd G10 v11 _ = G11
      have t11 : ButS st G10 G11 := by
        rw [← hg]
        exact .new hv11
      have T11 : ButS st G0 G11 := T10.trans t11
      have S11 : Store G11 st := by
        rw [← hg]
        exact S10.keep (same_new hv11)
      have nv11 : v11 ≠ st := Store.ne S10 hv11
      have ev11 : G11 v11 = some (.lst (cutV xs none (some j) ++ cutV xs (some (j + 1)) (some (j + 2)) ++ cutV xs (some j) (some (j + 1)) ++ cutV xs (some (j + 2)) none)) := by
        rw [← hg]
        exact upd_same
      clear hg
      walk_at "rd"
      refine q v11 _ _ ev11 ((BG.trans T10).free S10 hv11) (fun y hy => ?_) (by simp only [List.length_append, List.length_cons, List.length_nil, lens1, lens2, lens3, lens4, lens5, lens6]; omega) S11 (BG.trans T11)
      simp only [List.mem_append, List.mem_singleton] at hy
      have fx : ∀ {lo hi : Option Int}, y ∈ cutV xs lo hi → It1 st G11 y := fun h => (hx0 y (cutV_mem h)).keep SG0 T11
      have fo : y = other → It1 st G11 y := fun h => by
        rw [h]
        exact io.keep SG0 T11
      rcases hy with ((hy | hy) | hy) | hy
      · exact fx hy
      · exact fx hy
      · exact fx hy
      · exact fx hy
    · skip
      walk_at "rd"
      refine ⟨l, xs, rfl, SqL.of hl0, fun v1 hv1 => ?_⟩
      generalize hg : upd G0 v1 _ = G1
      have t1 : ButS st G0 G1 := by
        rw [← hg]
        exact .new hv1
      have T1 : ButS st G0 G1 := ButS.refl.trans t1
      have S1 : Store G1 st := by
        rw [← hg]
        exact SG0.keep (same_new hv1)
      have nv1 : v1 ≠ st := Store.ne SG0 hv1
      have ev1 : G1 v1 = some (.lst (cutV xs none (some j))) := by
        rw [← hg]
        exact upd_same
      clear hg
      walk_at "rd"
      refine ⟨v1, _, rfl, .inl (SqL.of ev1), fun v2 hv2 => ?_⟩
      generalize hg : upd G1 v2 _ = G2
      have t2 : ButS st G1 G2 := by
        rw [← hg]
        exact .new hv2
      have T2 : ButS st G0 G2 := T1.trans t2
      have S2 : Store G2 st := by
        rw [← hg]
        exact S1.keep (same_new hv2)
      have nv2 : v2 ≠ st := Store.ne S1 hv2
      have ev2 : G2 v2 = some (.lst (cutV xs none (some j))) := by
        rw [← hg]
        exact upd_same
      clear hg
      walk_at "rd"
      walk_at "nw"
      intro v3 hv3
      generalize hg : upd G2 v3 _ = G3
      have t3 : ButS st G2 G3 := by
        rw [← hg]
        exact .new hv3
      have T3 : ButS st G0 G3 := T2.trans t3
      have S3 : Store G3 st := by
        rw [← hg]
        exact S2.keep (same_new hv3)
      have nv3 : v3 ≠ st := Store.ne S2 hv3
      have ev3 : G3 v3 = some (.lst ([other])) := by
        rw [← hg]
        exact upd_same
      clear hg
      walk_at "rd"
      refine ⟨po, v3, _, _, rfl, rfl, (t3.1 _ _ nod (t2.1 _ _ nod (t1.1 _ _ nod od))), ev3, sz_le (by rw [lod]; exact Nat.le_of_ble_eq_true rfl), fun v4 hv4 => ?_⟩
      generalize hg : upd G3 v4 _ = G4
      have t4 : ButS st G3 G4 := by
        rw [← hg]
        exact .new hv4
      have T4 : ButS st G0 G4 := T3.trans t4
      have S4 : Store G4 st := by
        rw [← hg]
        exact S3.keep (same_new hv4)
      have nv4 : v4 ≠ st := Store.ne S3 hv4
      have ev4 : G4 v4 = some (.lst (os ++ [other])) := by
        rw [← hg]
        exact upd_same
      clear hg
      walk_at "rd"
      refine ⟨st, v4, _, rfl, ev4, nv4, by (rw [List.length_append, lod]; exact Nat.le_of_ble_eq_true rfl), by (rw [List.length_append, lod]; exact Nat.le_of_ble_eq_true rfl), S4, fun x G5 hxm S5 t5 => ?_⟩
      have T5 : ButS st G0 G5 := T4.trans t5
      have ix : It1 st G5 x := (((List.mem_append.mp hxm).elim (iod x) fun z => by rw [List.mem_singleton.mp z]; exact io)).keep SG0 T5
      walk_at "rd"
      walk_at "nw"
      intro v5 hv5
      generalize hg : upd G5 v5 _ = G6
      have t6 : ButS st G5 G6 := by
        rw [← hg]
        exact .new hv5
      have T6 : ButS st G0 G6 := T5.trans t6
      have S6 : Store G6 st := by
        rw [← hg]
        exact S5.keep (same_new hv5)
      have nv5 : v5 ≠ st := Store.ne S5 hv5
      have ev5 : G6 v5 = some (.lst ([x])) := by
        rw [← hg]
        exact upd_same
      clear hg
      walk_at "rd"
      refine ⟨v2, v5, _, _, rfl, rfl, (t6.1 _ _ nv2 (t5.1 _ _ nv2 (t4.1 _ _ nv2 (t3.1 _ _ nv2 ev2)))), ev5, sz_le (by simp only [List.length_append, List.length_cons, List.length_nil, lens1, lens2, lens3, lens4, lens5, lens6]; omega), fun v6 hv6 => ?_⟩
      generalize hg : upd G6 v6 _ = G7
      have t7 : ButS st G6 G7 := by
        rw [← hg]
        exact .new hv6
      have T7 : ButS st G0 G7 := T6.trans t7
      have S7 : Store G7 st := by
        rw [← hg]
        exact S6.keep (same_new hv6)
      have nv6 : v6 ≠ st := Store.ne S6 hv6
      have ev6 : G7 v6 = some (.lst (cutV xs none (some j) ++ [x])) := by
        rw [← hg]
        exact upd_same
      clear hg
      walk_at "rd"
      refine ⟨l, xs, rfl, SqL.of (T7.1 _ _ hne hl0), fun v7 hv7 => ?_⟩
      generalize hg : upd G7 v7 _ = G8
      have t8 : ButS st G7 G8 := by
        rw [← hg]
        exact .new hv7
      have T8 : ButS st G0 G8 := T7.trans t8
      have S8 : Store G8 st := by
        rw [← hg]
        exact S7.keep (same_new hv7)
      have nv7 : v7 ≠ st := Store.ne S7 hv7
      have ev7 : G8 v7 = some (.lst (cutV xs (some (j + 1)) none)) := by
        rw [← hg]
        exact upd_same
      clear hg
      walk_at "rd"
      refine ⟨v7, _, rfl, .inl (SqL.of ev7), fun v8 hv8 => ?_⟩
      generalize hg : upd G8 v8 _ = G9
      have t9 : ButS st G8 G9 := by
        rw [← hg]
        exact .new hv8
      have T9 : ButS st G0 G9 := T8.trans t9
      have S9 : Store G9 st := by
        rw [← hg]
        exact S8.keep (same_new hv8)
      have nv8 : v8 ≠ st := Store.ne S8 hv8
      have ev8 : G9 v8 = some (.lst (cutV xs (some (j + 1)) none)) := by
        rw [← hg]
        exact upd_same
      clear hg
      walk_at "rd"
      refine ⟨v6, v8, _, _, rfl, rfl, (t9.1 _ _ nv6 (t8.1 _ _ nv6 ev6)), ev8, sz_le (by simp only [List.length_append, List.length_cons, List.length_nil, lens1, lens2, lens3, lens4, lens5, lens6]; omega), fun v9 hv9 => ?_⟩
      generalize hg : upd G9 v9 _ = G10
      have t10 : ButS st G9 G10 := by
        rw [← hg]
        exact .new hv9
      have T10 : ButS st G0 G10 := T9.trans t10
      have S10 : Store G10 st := by
        rw [← hg]
        exact S9.keep (same_new hv9)
      have nv9 : v9 ≠ st := Store.ne S9 hv9
      have ev9 : G10 v9 = some (.lst (cutV xs none (some j) ++ [x] ++ cutV xs (some (j + 1)) none)) := by
        rw [← hg]
        exact upd_same
      clear hg
      walk_at "rd"
      refine q v9 _ _ ev9 ((BG.trans T9).free S9 hv9) (fun y hy => ?_) (by simp only [List.length_append, List.length_cons, List.length_nil, lens1, lens2, lens3, lens4, lens5, lens6]; omega) S10 (BG.trans T10)
      simp only [List.mem_append, List.mem_singleton] at hy
      have fx : ∀ {lo hi : Option Int}, y ∈ cutV xs lo hi → It1 st G10 y := fun h => (hx0 y (cutV_mem h)).keep SG0 T10
      have fo : y = other → It1 st G10 y := fun h => by
        rw [h]
        exact io.keep SG0 T10
      rcases hy with (hy | hy) | hy
      · exact fx hy
      · rw [hy]
        exact ix.keep S5 ((((t6.trans t7).trans t8).trans t9).trans t10)
      · exact fx hy
end
end K12

set_option Elab.async false
set_option linter.all false
set_option maxRecDepth 100000
set_option maxHeartbeats 4000000
set_option pp.deepTerms false
set_option pp.deepTerms.threshold 12
namespace K12
open PySem PySem.Spec PyProof.Rows L2
local macro_rules | `(tactic| walk_at "ty") => `(tactic| first | exact .base (.int _) | exact .base (.bl _) | exact .base (.str _) | exact .base .non | assumption | exact .base (.tup (by assumption)) | exact .base (.lst (by assumption)))
local macro_rules | `(tactic| walk_at "cm") => `(tactic| first | exact cm_r (by decide) (by decide) | exact cm_l (by decide) (by decide) | exact cm_fmod (by decide) (by decide) | exact cm_r (by omega) (by omega) | exact cm_l (by omega) (by omega))
local macro_rules | `(tactic| walk_at "dv") => `(tactic| first | exact ⟨by decide, by decide⟩ | exact ⟨by omega, by omega⟩)
local macro_rules | `(tactic| walk_at "r1") => `(tactic| first
  | refine ⟨_, rfl, ?_⟩ | refine ⟨_, _, rfl, rfl, ?_⟩ | refine Or.inl ⟨_, rfl, ?_⟩ | refine Or.inr ⟨_, rfl, ?_⟩
  | refine And.intro (a := CMul _ _) (by walk_at "cm") ?_ | refine And.intro (a := CDivN _ _) (by walk_at "dv") ?_ | refine And.intro (a := _ ≠ (0 : Int)) (by first | decide | omega) ?_ | refine And.intro (a := scal _ _ = true) rfl ?_ | refine ⟨_, _, _, _, rfl, rfl, SqL.of (by first | exact upd_same | assumption), rfl, ?_⟩ | refine ⟨_, _, _, _, rfl, rfl, (by first | exact upd_same | assumption), rfl, ?_⟩ | refine ⟨_, _, rfl, ?_⟩ | refine And.intro (a := (_ : V) = V.non) rfl ?_ | refine And.intro (a := CPow _ _) ⟨by decide, by decide, by decide⟩ ?_ | refine And.intro (a := (_ : List V) = []) rfl ?_ | refine ⟨_, _, rfl, SqT.of (by first | exact upd_same | assumption), rfl, ?_⟩
  | refine ⟨_, _, _, _, rfl, rfl, SqT.of (by first | exact upd_same | assumption), rfl, ?_⟩
  | refine ⟨_, _, _, _, true, rfl, ClsV.ty _, (by walk_at "ty"), kit_ty (by decide +kernel), ?_⟩ | refine ⟨_, _, _, _, false, rfl, ClsV.ty _, (by walk_at "ty"), kit_ty (by decide +kernel), ?_⟩)
local macro_rules | `(tactic| walk_at "rd") => `(tactic| repeat walk_at "r1")
local macro_rules | `(tactic| walk_at "yes") => `(tactic| (change (if true = true then _ else _); rw [if_pos rfl]))
local macro_rules | `(tactic| walk_at "no") => `(tactic| (change (if false = true then _ else _); rw [if_neg Bool.false_ne_true]))
local macro_rules | `(tactic| walk_at "nw") => `(tactic| refine And.intro (a := _ ≤ sizeLine) (sz_le (Nat.le_of_ble_eq_true rfl)) ?_)

section
variable {P : Program} {w : World} {K : PySem.W.Frag} {mg : Str → Option Value} {base : Heap}
variable {C_VaultError C_TooMany C_NumberError C_BadPrime C_NoInverse C_NoNumber C_BadTable C_BadCells C_TextError C_ShapeError C_PlanError C_CourseError C_KnowError C_PaperError C_BadStep C_BadBlind C_BadMove C_NotShut C_NotOpen C_NotTheft C_NotPrice fV fI_BadMove fI_BadCells : Addr}
variable (T : Txt P K mg C_VaultError C_TooMany C_NumberError C_BadPrime C_NoInverse C_NoNumber C_BadTable C_BadCells C_TextError C_ShapeError C_PlanError C_CourseError C_KnowError C_PaperError C_BadStep C_BadBlind C_BadMove C_NotShut C_NotOpen C_NotTheft C_NotPrice fV fI_BadMove fI_BadCells)
include T
omit T in
theorem T_full {n c : Nat} (h : n ≤ c + 1) : M11.T n (c + 1) = n := by
  rcases Nat.eq_zero_or_pos n with e | e
  · subst e
    exact M11.T_0 c
  · have r : M11.IsR n (c + 1) 1 := by
      refine ⟨fun q hq => ?_, ?_⟩
      · rw [show q = 0 by omega, M11.B_0]
        exact e
      · have := M11.B_pascal c 0
        rw [M11.B_0] at this
        have b1 : ∀ c, M11.B c 1 = c + 1 := by
          intro c
          induction c with
          | zero => rfl
          | succ c ih =>
            rw [M11.B_pascal c 0, ih, M11.B_0]
        rw [b1]
        omega
    have t : M11.IsT n (c + 1) (M11.S n (c + 1) 1) := ⟨1, r, rfl⟩
    rw [← t.eq]
    unfold M11.S
    rw [show c + 1 + 1 = c + 1 + 1 from rfl, M11.bin_self]
    show 1 * ((n : Int) + 1) - 1 = n
    omega
omit T in
theorem stop_full {n c : Nat} (h0 : 1 ≤ n) (h : n ≤ c + 1) : M11.IsStop n c 1 := by
  cases c with
  | zero =>
    obtain rfl : n = 1 := by omega
    exact M11.stop_1 (Nat.le_refl 1)
  | succ c =>
    refine ⟨Nat.le_refl 1, h0, ?_, fun j h1 h2 => by omega⟩
    unfold M11.sm
    rw [if_neg (Nat.succ_ne_zero c), T_full (n := n - 1) (c := c) (by omega), T_full h, Nat.sub_self, M11.T_0]
    congr 1
    show (1 : Int) + ((n - 1 : Nat) : Int) + 0 = n
    omega
/-- the law's table of least sums: n 0 to most, cells 1 to many -/
structure Tab (H : Hp) (t : Addr) (most many : Nat) : Prop where
  ex : ∃ (r : V) (rs : List V), H t = some (.lst (r :: rs)) ∧ ∀ i, i < many → ∃ a, rs[i]? = some (.ref a) ∧ H a = some (.lst ((List.range (most + 1)).map fun n => V.int (M11.T n (i + 1))))
omit T in
theorem Tab.keep {H H' : Hp} {t : Addr} {a b : Nat} (x : Tab H t a b) (s : Same H H') : Tab H' t a b := by
  obtain ⟨r, rs, h, k⟩ := x.ex
  refine ⟨r, rs, s _ _ h, fun i hi => ?_⟩
  obtain ⟨p, h1, h2⟩ := k i hi
  exact ⟨p, h1, s _ _ h2⟩
def spTable : Sp := fun vs H Q _ => ∃ a b : Int, vs = [.int a, .int b] ∧ ∃ n c : Nat, (a = n ∧ b = c) ∧ n ≤ 120 ∧ c ≤ 120 ∧ ∀ t H', Same H H' → Tab H' t n c → Q (.ref t) H'
theorem ok_leasttable {f : Addr} {fd : FuncData} (F : Fun K "_law_leasttable" "_law_leasttable" s_leasttable f fd) {f_leastups : Addr} {fd_leastups : FuncData} (D_leastups : Def K mg "_law_leastups" s_leastups p_leastups f_leastups fd_leastups) (G_leastups : FnOk P w K mg base CX0 1 f_leastups fd_leastups p_leastups spUps) : FnOk P w K mg base CX0 2 f fd p_leasttable spTable := by
  refine F.ok sc_leasttable (fun vs H Q E h => ?_) (fun cdv A outer s H vs Q E hr h => ?_)
  · obtain ⟨a, b, rfl, _⟩ := h
    rfl
  · obtain ⟨_, _, rfl, n, c, ⟨rfl, rfl⟩, hn, hc, q⟩ := h
    refine ⟨_, (pss_one (ps_ret (by exact (pe_op op_cat (pe_lst (pa_cons (pe_lst pa_nil) pa_nil)) (pe_lc (own := [("c", 3)]) (g := gName 3) rfl sc_leasttable.nd (pi_range2 (by rfl) T.b_range (pa_cons pe_int (pa_cons (pe_op op_add (pv 1) pe_int) pa_nil))) (blkOk_by (own := [("c", 3)]) (N := N_leasttable) (sc := defScope s_leasttable) (by decide +kernel)) (fun _ _ _ _ _ => pg_name (i := 3) sc_leasttable.nd rfl (Or.inr rfl)) (fun _ _ _ _ _ => pts_nil) (fun _ _ _ _ _ => (pe_lc (own := [("n", 2)]) (g := gName 2) rfl sc_leasttable.nd (pi_range1 (by rfl) T.b_range (pa_cons (pe_op op_add (pv 0) pe_int) pa_nil)) (blkOk_by (own := [("n", 2)]) (N := N_leasttable) (sc := { kind := .function, names := [(".0", .local), ("c", .cell), ("range", .globalImplicit), ("most", .cell)], isGenerator := false, isCoroutine := false }) (by decide +kernel)) (fun _ _ _ _ _ => pg_name (i := 2) sc_leasttable.nd rfl (Or.inl rfl)) (fun _ _ _ _ _ => pts_nil) (fun _ _ _ _ _ => (pe_call G_leastups (hr.mono (by first | decide | omega)) rfl D_leastups.g D_leastups.fn.kp D_leastups.b .nil pass0 (pa_cons (pv 2) (pa_cons (pv 3) pa_nil))))))))))), ?_⟩
    walk_at "rd"
    walk_at "nw"
    intro p1 h1
    walk_at "rd"
    walk_at "nw"
    intro p2 h2
    walk_at "rd"
    refine ⟨⟨by omega, by omega, by omega, by omega⟩, fun D hD => ?_⟩
    rw [show ((c : Int) + 1 - 1).toNat = c by omega]
    generalize hg : upd (upd H p1 _) p2 _ = H2 at hD ⊢
    have s2 : Same H H2 := by
      rw [← hg]
      exact (same_new h1).trans (same_new h2)
    have e2 : H2 p2 = some (.lst [.ref p1]) := by
      rw [← hg]
      exact upd_same
    clear hg
    let row : Nat → List V := fun k => (List.range (n + 1)).map fun x => V.int (M11.T x (k + 1))
    refine lc_range (lo := 1) (n := c) (fun i H' => Same H2 H' ∧ ∃ rs : List V, H' D = some (.lst rs) ∧ rs.length = i ∧ ∀ k, k < i → ∃ a, rs[k]? = some (.ref a) ∧ H' a = some (.lst (row k))) ⟨same_new hD, [], upd_same, rfl, fun k hk => absurd hk (Nat.not_lt_zero k)⟩ ?_ ?_
    · rintro i H3 hi ⟨s3, rs, er, hrs, hk⟩
      refine ⟨rfl, ?_⟩
      walk_at "rd"
      refine ⟨by omega, by omega, fun D2 hD2 => ?_⟩
      rw [show ((n : Int) + 1).toNat = n + 1 by omega]
      refine lc_range (lo := 0) (n := n + 1) (fun j H' => Same H3 H' ∧ H' D2 = some (.lst ((List.range j).map fun x => V.int (M11.T x (i + 1))))) ⟨same_new hD2, upd_same⟩ ?_ ?_
      · rintro j H4 hj ⟨s4, e4⟩
        refine ⟨rfl, ?_⟩
        walk_at "rd"
        refine ⟨j, i, ⟨by omega, by show (1 : Int) + i = ((i + 1 : Nat) : Int); omega⟩, by omega, by omega, ?_⟩
        refine ⟨_, e4, sz_lt (by rw [List.length_map, List.length_range]; omega), s4.mut hD2, ?_⟩
        rw [upd_same, List.range_succ, List.map_append]
        rfl
      · rintro H4 ⟨s4, e4⟩
        refine ⟨rs, s4 _ _ er, sz_lt (by omega), (s3.trans s4).mut hD, rs ++ [.ref D2], upd_same, by rw [List.length_append, hrs]; rfl, fun k hk2 => ?_⟩
        have nD : D2 ≠ D := fun z => by
          rw [z, er] at hD2
          cases hD2
        rcases Nat.lt_or_ge k i with z | z
        · obtain ⟨a, a1, a2⟩ := hk k z
          have na : a ≠ D := fun z2 => by
            rw [z2, er] at a2
            have a2 := Option.some.inj a2
            injection a2 with a2
            rw [a2] at a1
            have a3 : ((List.range (n + 1)).map fun x => V.int (M11.T x (k + 1)))[k]? = some (V.ref a) := a1
            rw [List.getElem?_map] at a3
            cases e : (List.range (n + 1))[k]? with
            | none =>
              rw [e] at a3
              cases a3
            | some y =>
              rw [e] at a3
              cases a3
          refine ⟨a, by rw [List.getElem?_append_left (by omega)]; exact a1, ?_⟩
          rw [upd_ne na]
          exact s4 _ _ a2
        · obtain rfl : k = i := by omega
          refine ⟨D2, by rw [List.getElem?_append_right (by omega), hrs, Nat.sub_self]; rfl, ?_⟩
          rw [upd_ne nD]
          exact e4
    · rintro H3 ⟨s3, rs, er, hrs, hk⟩
      walk_at "rd"
      refine ⟨p2, D, _, _, rfl, rfl, s3 _ _ e2, er, sz_le (by rw [hrs]; show 1 + c ≤ 100000; omega), fun t ht => ?_⟩
      have s4 : Same H3 (upd H3 t (.lst ([V.ref p1] ++ rs))) := same_new ht
      walk_at "rd"
      refine q t _ ((s2.trans s3).trans s4) ⟨.ref p1, rs, upd_same, fun k hk2 => ?_⟩
      obtain ⟨a, a1, a2⟩ := hk k hk2
      exact ⟨a, a1, s4 _ _ a2⟩
omit T in
theorem Tab.at {H : Hp} {t : Addr} {most many i x : Nat} (h : Tab H t most many) (hi : i < many) (hx : x ≤ most) : ∃ (r : V) (rs : List V) (a : Addr), H t = some (.lst (r :: rs)) ∧ atI (r :: rs) ((i + 1 : Nat) : Int) = some (.ref a) ∧
    ∃ ys, H a = some (.lst ys) ∧ atI ys ((x : Nat) : Int) = some (.int (M11.T x (i + 1))) := by
  obtain ⟨r, rs, h1, h2⟩ := h.ex
  obtain ⟨a, a1, a2⟩ := h2 i hi
  refine ⟨r, rs, a, h1, atI_nat (by rw [List.getElem?_cons_succ]; exact a1), _, a2, atI_nat ?_⟩
  rw [List.getElem?_map, List.getElem?_range (by omega)]
  rfl
def spStopOf : Sp := fun vs H Q _ => ∃ (t : Addr) (a b : Int), vs = [.ref t, .int a, .int b] ∧ ∃ n c most many : Nat, (a = n ∧ b = (c + 1 : Nat)) ∧ 1 ≤ n ∧ n ≤ most ∧ most ≤ 120 ∧ c + 1 ≤ many ∧ many ≤ 120 ∧ Tab H t most many ∧ ∀ m, M11.IsStop n c m → Q (.int m) H
theorem ok_stopof {f : Addr} {fd : FuncData} (F : Fun K "_law_stopof" "_law_stopof" s_stopof f fd) : FnOk P w K mg base CX0 1 f fd p_stopof spStopOf := by
  refine F.ok sc_stopof (fun vs H Q E h => ?_) (fun cdv A outer s H vs Q E hr h => ?_)
  · obtain ⟨t, a, b, rfl, _⟩ := h
    rfl
  · obtain ⟨t, _, _, rfl, n, c, most, many, ⟨rfl, rfl⟩, h1, hn, hm, hc, hc2, tab, q⟩ := h
    refine ⟨_, (pss_cons (ps_if (pt_cmpR op_eq (pv 2) pe_int (nomark _)) (pss_one (ps_ret (by exact (pv 1)))) pss_nil)
      (pss_cons (ps_for PassesOwn.never rfl (pi_range2 (by rfl) T.b_range (pa_cons pe_int (pa_cons (pe_op op_add (pv 1) pe_int) pa_nil))) (pg_name (i := 3) sc_stopof.nd rfl (Or.inl rfl)) (pss_one (ps_if (pt_cmpR op_eq (pe_op op_add (pe_op op_add (pv 3) (pe_ix ix_list (pe_ix ix_list (pv 0) (pe_op op_sub (pv 2) pe_int) (fun _ _ => rfl)) (pe_op op_sub (pv 1) (pv 3)) (fun _ _ => rfl))) (pe_ix ix_list (pe_ix ix_list (pv 0) (pv 2) (fun _ _ => rfl)) (pe_op op_sub (pv 3) pe_int) (fun _ _ => rfl))) (pe_ix ix_list (pe_ix ix_list (pv 0) (pv 2) (fun _ _ => rfl)) (pv 1) (fun _ _ => rfl)) (nomark _)) (pss_one (ps_ret (by exact (pv 3)))) pss_nil)))
      (pss_one (ps_ret (by exact (pv 1)))))), ?_⟩
    walk_at "rd"
    refine ite2 (fun hc => ?_) (fun hc => ?_)
    · have e : c = 0 := by
        have := V.int.inj (of_decide_eq_true hc)
        omega
      subst e
      walk_at "rd"
      exact q n (M11.stop_1 h1)
    have hc0 : c ≠ 0 := fun z => of_ndec hc (by rw [z]; rfl)
    obtain ⟨k, rfl⟩ : ∃ k, c = k + 1 := ⟨c - 1, by omega⟩
    walk_at "rd"
    refine ⟨⟨by omega, by omega, by omega, by omega⟩, ?_⟩
    rw [show ((n : Int) + 1 - 1).toNat = n by omega]
    have cell : ∀ (c' x : Nat) (j y : Int), c' < many → x ≤ most → j = ((c' + 1 : Nat) : Int) → y = ((x : Nat) : Int) → ∃ (rs : List V) (a : Addr) (ys : List V), SqL K H t rs ∧ atI rs j = some (.ref a) ∧ SqL K H a ys ∧ atI ys y = some (.int (M11.T x (c' + 1))) := by
      rintro c' x j y hc' hx rfl rfl
      obtain ⟨r, rs, a, e1, e2, ys, e3, e4⟩ := tab.at hc' hx
      exact ⟨_, a, ys, SqL.of e1, e2, SqL.of e3, e4⟩
    refine for_range (fun i σ H' => ∃ v : Option V, σ = [some (.ref t), some (.int n), some (.int ((k + 1 + 1 : Nat) : Int)), v] ∧ H' = H ∧ ∀ j, 1 ≤ j → j ≤ i → M11.sm n (k + 1) j ≠ some (M11.T n (k + 1 + 1))) ⟨none, rfl, rfl, fun j h1 h2 => by omega⟩ ?_ ?_
    · rintro i σ H' hi ⟨v, rfl, rfl, hno⟩
      obtain ⟨ra, aa, ya, a1, a2, a3, a4⟩ := cell k (n - (i + 1)) (((k + 1 + 1 : Nat) : Int) - 1) ((n : Int) - (1 + i)) (by omega) (by omega) (by omega) (by omega)
      obtain ⟨rb, ab, yb, b1, b2, b3, b4⟩ := cell (k + 1) i ((k + 1 + 1 : Nat) : Int) ((1 : Int) + i - 1) (by omega) (by omega) rfl (by omega)
      obtain ⟨rc, ac, yc, c1, c2, c3, c4⟩ := cell (k + 1) n ((k + 1 + 1 : Nat) : Int) (n : Int) (by omega) (by omega) rfl rfl
      walk_at "rd"
      refine ⟨t, ra, _, .ref aa, rfl, rfl, a1, a2, ?_⟩
      walk_at "rd"
      refine ⟨aa, ya, _, _, rfl, rfl, a3, a4, ?_⟩
      walk_at "rd"
      refine ⟨t, rb, _, .ref ab, rfl, rfl, b1, b2, ?_⟩
      walk_at "rd"
      refine ⟨ab, yb, _, _, rfl, rfl, b3, b4, ?_⟩
      walk_at "rd"
      refine ⟨t, rc, _, .ref ac, rfl, rfl, c1, c2, ?_⟩
      walk_at "rd"
      refine ⟨ac, yc, _, _, rfl, rfl, c3, c4, ?_⟩
      walk_at "rd"
      have sm : M11.sm n (k + 1) (i + 1) = some (((i + 1 : Nat) : Int) + M11.T (n - (i + 1)) (k + 1) + M11.T i (k + 1 + 1)) := by
        unfold M11.sm
        rw [if_neg (Nat.succ_ne_zero k), Nat.add_sub_cancel]
      refine ite2 (fun hc => ?_) (fun hc => ?_)
      · have e := V.int.inj (of_decide_eq_true hc)
        walk_at "rd"
        have e1 : (1 : Int) + (i : Int) = ((i + 1 : Nat) : Int) := by omega
        rw [e1]
        refine q (i + 1) ⟨by omega, by omega, ?_, fun j j1 j2 => hno j j1 (by omega)⟩
        rw [sm]
        congr 1
        have e2 : (1 : Int) + (i : Int) + M11.T (n - (i + 1)) (k + 1) + M11.T i (k + 1 + 1) = M11.T n (k + 1 + 1) := e
        omega
      · refine ⟨_, rfl, rfl, fun j j1 j2 => ?_⟩
        rcases Nat.lt_or_ge i j with z | z
        · obtain rfl : j = i + 1 := by omega
          rw [sm]
          intro z
          refine of_ndec hc (congrArg V.int ?_)
          have z := Option.some.inj z
          show (1 : Int) + (i : Int) + M11.T (n - (i + 1)) (k + 1) + M11.T i (k + 1 + 1) = M11.T n (k + 1 + 1)
          omega
        · exact hno j j1 z
    · rintro σ H' ⟨v, rfl, rfl, hno⟩
      exact absurd (M11.stop_more h1 hno) (Nat.lt_irrefl n)
end
end K12

set_option Elab.async false
set_option linter.all false
set_option maxRecDepth 100000
set_option maxHeartbeats 4000000
set_option pp.deepTerms false
set_option pp.deepTerms.threshold 12
namespace K12
open PySem PySem.Spec PyProof.Rows L2
local macro_rules | `(tactic| walk_at "ty") => `(tactic| first | exact .base (.int _) | exact .base (.bl _) | exact .base (.str _) | exact .base .non | assumption | exact .base (.tup (by assumption)) | exact .base (.lst (by assumption)))
local macro_rules | `(tactic| walk_at "cm") => `(tactic| first | exact cm_r (by decide) (by decide) | exact cm_l (by decide) (by decide) | exact cm_fmod (by decide) (by decide) | exact cm_r (by omega) (by omega) | exact cm_l (by omega) (by omega))
local macro_rules | `(tactic| walk_at "dv") => `(tactic| first | exact ⟨by decide, by decide⟩ | exact ⟨by omega, by omega⟩)
local macro_rules | `(tactic| walk_at "r1") => `(tactic| first
  | refine ⟨_, rfl, ?_⟩ | refine ⟨_, _, rfl, rfl, ?_⟩ | refine Or.inl ⟨_, rfl, ?_⟩ | refine Or.inr ⟨_, rfl, ?_⟩
  | refine And.intro (a := CMul _ _) (by walk_at "cm") ?_ | refine And.intro (a := CDivN _ _) (by walk_at "dv") ?_ | refine And.intro (a := _ ≠ (0 : Int)) (by first | decide | omega) ?_ | refine And.intro (a := scal _ _ = true) rfl ?_ | refine ⟨_, _, _, _, rfl, rfl, SqL.of (by first | exact upd_same | assumption), rfl, ?_⟩ | refine ⟨_, _, _, _, rfl, rfl, (by first | exact upd_same | assumption), rfl, ?_⟩ | refine ⟨_, _, rfl, ?_⟩ | refine And.intro (a := (_ : V) = V.non) rfl ?_ | refine And.intro (a := CPow _ _) ⟨by decide, by decide, by decide⟩ ?_ | refine And.intro (a := (_ : List V) = []) rfl ?_ | refine ⟨_, _, rfl, SqT.of (by first | exact upd_same | assumption), rfl, ?_⟩
  | refine ⟨_, _, _, _, rfl, rfl, SqT.of (by first | exact upd_same | assumption), rfl, ?_⟩
  | refine ⟨_, _, _, _, true, rfl, ClsV.ty _, (by walk_at "ty"), kit_ty (by decide +kernel), ?_⟩ | refine ⟨_, _, _, _, false, rfl, ClsV.ty _, (by walk_at "ty"), kit_ty (by decide +kernel), ?_⟩)
local macro_rules | `(tactic| walk_at "rd") => `(tactic| repeat walk_at "r1")
local macro_rules | `(tactic| walk_at "yes") => `(tactic| (change (if true = true then _ else _); rw [if_pos rfl]))
local macro_rules | `(tactic| walk_at "no") => `(tactic| (change (if false = true then _ else _); rw [if_neg Bool.false_ne_true]))
local macro_rules | `(tactic| walk_at "nw") => `(tactic| refine And.intro (a := _ ≤ sizeLine) (sz_le (Nat.le_of_ble_eq_true rfl)) ?_)

section
variable {P : Program} {w : World} {K : PySem.W.Frag} {mg : Str → Option Value} {base : Heap}
variable {C_VaultError C_TooMany C_NumberError C_BadPrime C_NoInverse C_NoNumber C_BadTable C_BadCells C_TextError C_ShapeError C_PlanError C_CourseError C_KnowError C_PaperError C_BadStep C_BadBlind C_BadMove C_NotShut C_NotOpen C_NotTheft C_NotPrice fV fI_BadMove fI_BadCells : Addr}
variable (T : Txt P K mg C_VaultError C_TooMany C_NumberError C_BadPrime C_NoInverse C_NoNumber C_BadTable C_BadCells C_TextError C_ShapeError C_PlanError C_CourseError C_KnowError C_PaperError C_BadStep C_BadBlind C_BadMove C_NotShut C_NotOpen C_NotTheft C_NotPrice fV fI_BadMove fI_BadCells)
include T
omit T in
theorem IsU.tk {H H' : Hp} {v : V} {m : Mv} (h : IsU H v m) (s : TK H H') : IsU H' v m := by
  cases h with
  | up t a b h => exact .up t a b (s _ _ h)
  | read t a h => exact .read t a (s _ _ h)
omit T in
theorem IsUs.tk {H H' : Hp} {xs : List V} {ms : List Mv} (h : Paired (IsU H) xs ms) (s : TK H H') : Paired (IsU H') xs ms := Us.map h fun _ _ h => h.tk s
/-- an open problem, or a read that is due: how many turns it takes, and its moves -/
inductive Opn (many : Int) (H : Hp) : V → Nat → List Mv → Prop
  | prob (t : Addr) (size c : Nat) (o f : Int) (ms : List Mv) (h : H t = some (.tup [.int size, .int o, .int f])) (hz : size ≤ 120) (hc : size = 0 ∨ f + c = many) (hf : 1 ≤ f) (b : Best size c o f ms) : Opn many H (.ref t) (3 * size + 1) ms
  | read (t : Addr) (f : Int) (h : H t = some (.tup [.non, .int f, .int 0])) : Opn many H (.ref t) 1 [.read f]
inductive Stk (many : Int) (H : Hp) : List V → Nat → List Mv → Prop
  | nil : Stk many H [] 0 []
  | snoc (xs : List V) (x : V) (w w1 : Nat) (ms m1 : List Mv) (s : Stk many H xs w ms) (o : Opn many H x w1 m1) : Stk many H (xs ++ [x]) (w1 + w) (m1 ++ ms)
omit T in
theorem Opn.tk {many : Int} {H H' : Hp} {x : V} {w : Nat} {ms : List Mv} (h : Opn many H x w ms) (s : TK H H') : Opn many H' x w ms := by
  cases h with
  | prob t size c o f ms h hz hc hf b => exact .prob t size c o f ms (s _ _ h) hz hc hf b
  | read t f h => exact .read t f (s _ _ h)
omit T in
theorem Opn.pos {many : Int} {H : Hp} {x : V} {w : Nat} {ms : List Mv} (h : Opn many H x w ms) : 1 ≤ w := by
  cases h <;> omega
omit T in
theorem Stk.tk {many : Int} {H H' : Hp} {xs : List V} {w : Nat} {ms : List Mv} (h : Stk many H xs w ms) (s : TK H H') : Stk many H' xs w ms := by
  induction h with
  | nil => exact .nil
  | snoc xs x w w1 ms m1 _ o ih => exact .snoc xs x w w1 ms m1 ih (o.tk s)
omit T in
theorem Stk.len {many : Int} {H : Hp} {xs : List V} {w : Nat} {ms : List Mv} (h : Stk many H xs w ms) : xs.length ≤ w := by
  induction h with
  | nil => exact Nat.le_refl 0
  | snoc xs x w w1 ms m1 _ o ih =>
    have := o.pos
    rw [List.length_append]
    show xs.length + 1 ≤ w1 + w
    omega
omit T in
theorem Stk.empty {many : Int} {H : Hp} {w : Nat} {ms : List Mv} (h : Stk many H [] w ms) : ms = [] := by
  generalize e : ([] : List V) = xs at h
  cases h with
  | nil => rfl
  | snoc xs x w w1 ms m1 _ o => exact absurd e.symm (by simp)
omit T in
/-- the last one -/
theorem Stk.top {many : Int} {H : Hp} {xs : List V} {w : Nat} {ms : List Mv} (h : Stk many H xs w ms) (hne : xs ≠ []) : ∃ ys x w0 w1 m0 m1, xs = ys ++ [x] ∧ w = w1 + w0 ∧ ms = m1 ++ m0 ∧ Stk many H ys w0 m0 ∧ Opn many H x w1 m1 := by
  cases h with
  | nil => exact absurd rfl hne
  | snoc xs x w w1 ms m1 s o => exact ⟨xs, x, w, w1, ms, m1, rfl, rfl, rfl, s, o⟩
omit T in
theorem stop_deep {n c d s t : Nat} (hn : 1 ≤ n) (h : c = d ∨ (n ≤ c + 1 ∧ n ≤ d + 1)) (a : M11.IsStop n c s) (b : M11.IsStop n d t) : t = s := by
  rcases h with rfl | ⟨h1, h2⟩
  · exact b.uniq a
  · rw [a.uniq (stop_full hn h1), b.uniq (stop_full hn h2)]
omit T in
theorem Best.split {n c d s : Nat} {o f : Int} {ms : List Mv} (h : Best n c o f ms) (h1 : 1 ≤ n) (hd : c = d ∨ (n ≤ c + 1 ∧ n ≤ d + 1)) (hs : M11.IsStop n d s) :
    ∃ (xr yr : List Mv) (k : Nat), ms = .up o f :: (List.replicate (s - 1) (.up f f) ++ (xr ++ (.read f :: yr))) ∧ (n - s = 0 ∨ k + 1 = c) ∧ Best (n - s) k f (f + 1) xr ∧ Best (s - 1) c o f yr ∧ 1 ≤ s ∧ s ≤ n := by
  cases h with
  | nil => omega
  | last _ s' _ _ ys h b =>
    obtain rfl : s = s' := stop_deep h1 hd h hs
    have e : s = n := h.uniq (M11.stop_1 h1)
    refine ⟨[], ys, 0, rfl, .inl (by omega), ?_, b, h.lo, h.hi⟩
    rw [show n - s = 0 by omega]
    exact .nil 0 f (f + 1)
  | more _ k s' _ _ xs ys h a b =>
    obtain rfl : s = s' := stop_deep h1 hd h hs
    exact ⟨xs, ys, k, rfl, .inr rfl, a, b, h.lo, h.hi⟩
def LoI (N many deep : Nat) (tb : Addr) (ms : List Mv) (H : Hp) (i : Nat) : L2.St → Hp → Prop := fun σ H' => ∃ (po pt : Addr) (st zs : List V) (w : Nat) (done rest : List Mv) (v6 v7 v8 v9 v10 : Option V),
  σ = [some (.int N), some (.int many), some (.int deep), some (.ref tb), some (.ref po), some (.ref pt), v6, v7, v8, v9, v10] ∧ H po = none ∧ H pt = none ∧ po ≠ pt ∧ Same H H' ∧ H' po = some (.lst st) ∧ H' pt = some (.lst zs) ∧
  Paired (IsU H') zs done ∧ Stk many H' st w rest ∧ ms = done ++ rest ∧ w + i ≤ 3 * N + 1
/-- the two lists at work -/
structure LS (H0 : Hp) (po pt : Addr) (ys zs : List V) (H : Hp) : Prop where
  po0 : H0 po = none
  pt0 : H0 pt = none
  ne : po ≠ pt
  sm : Same H0 H
  eo : H po = some (.lst ys)
  et : H pt = some (.lst zs)
omit T in
theorem LS.new {H0 H : Hp} {po pt t : Addr} {ys zs : List V} {o : HO} (x : LS H0 po pt ys zs H) (ht : H t = none) : LS H0 po pt ys zs (upd H t o) ∧ TK H (upd H t o) :=
  ⟨⟨x.po0, x.pt0, x.ne, x.sm.trans (same_new ht), same_new ht _ _ x.eo, same_new ht _ _ x.et⟩, TK.of (same_new ht)⟩
omit T in
theorem LS.setO {H0 H : Hp} {po pt : Addr} {ys zs ys' : List V} (x : LS H0 po pt ys zs H) : LS H0 po pt ys' zs (upd H po (.lst ys')) ∧ TK H (upd H po (.lst ys')) :=
  ⟨⟨x.po0, x.pt0, x.ne, x.sm.mut x.po0, upd_same, by rw [upd_ne (Ne.symm x.ne)]; exact x.et⟩, TK.mut x.eo⟩
omit T in
theorem LS.setT {H0 H : Hp} {po pt : Addr} {ys zs zs' : List V} (x : LS H0 po pt ys zs H) : LS H0 po pt ys zs' (upd H pt (.lst zs')) ∧ TK H (upd H pt (.lst zs')) :=
  ⟨⟨x.po0, x.pt0, x.ne, x.sm.mut x.pt0, by rw [upd_ne x.ne]; exact x.eo, upd_same⟩, TK.mut x.et⟩
omit T in
theorem LS.swap {H0 H : Hp} {po pt p : Addr} {ys zs zs' : List V} (x : LS H0 po pt ys zs H) (hp : H p = none) : LS H0 po p ys zs' (upd H p (.lst zs')) ∧ TK H (upd H p (.lst zs')) :=
  ⟨⟨x.po0, same_free hp x.sm, (fun z => by rw [← z, x.eo] at hp; cases hp), x.sm.trans (same_new hp), same_new hp _ _ x.eo, upd_same⟩, TK.of (same_new hp)⟩
def LoE (N many deep : Nat) (tb : Addr) (ms : List Mv) (H : Hp) : L2.St → Hp → Prop := fun σ H' => ∃ (po pt : Addr) (zs : List V) (v6 v7 v8 v9 v10 : Option V),
  σ = [some (.int N), some (.int many), some (.int deep), some (.ref tb), some (.ref po), some (.ref pt), v6, v7, v8, v9, v10] ∧ H pt = none ∧ Same H H' ∧ H' pt = some (.lst zs) ∧ Paired (IsU H') zs ms
def spListOf : Sp := fun vs H Q _ => ∃ a b : Int, vs = [.int a, .int b] ∧ ∃ n c : Nat, (a = n ∧ b = (c + 1 : Nat)) ∧ n ≤ 120 ∧ c < 120 ∧ spMoves n c H Q
theorem ok_listof {f : Addr} {fd : FuncData} (F : Fun K "_law_listof" "_law_listof" s_listof f fd) {f_leasttable : Addr} {fd_leasttable : FuncData} (D_leasttable : Def K mg "_law_leasttable" s_leasttable p_leasttable f_leasttable fd_leasttable) (G_leasttable : FnOk P w K mg base CX0 2 f_leasttable fd_leasttable p_leasttable spTable) {f_stopof : Addr} {fd_stopof : FuncData} (D_stopof : Def K mg "_law_stopof" s_stopof p_stopof f_stopof fd_stopof) (G_stopof : FnOk P w K mg base CX0 1 f_stopof fd_stopof p_stopof spStopOf) : FnOk P w K mg base CX0 3 f fd p_listof spListOf := by
  refine F.ok sc_listof (fun vs H Q E h => ?_) (fun cdv A outer s H vs Q E hr h => ?_)
  · obtain ⟨a, b, rfl, _⟩ := h
    rfl
  · obtain ⟨_, _, rfl, n, c, ⟨rfl, rfl⟩, hn, hc, q⟩ := h
    refine ⟨_, (pss_cons (ps_set (i := 2) sc_listof.nd rfl (Or.inl rfl) (by exact (pe_callB (call_min2 rfl) (by rfl) T.b_min (by first | exact PySem.boot_min | decide +kernel) (pa_cons (pv 0) (pa_cons (pv 1) pa_nil)))))
      (pss_cons (ps_set (i := 3) sc_listof.nd rfl (Or.inl rfl) (by exact (pe_call G_leasttable (hr.mono (by first | decide | omega)) rfl D_leasttable.g D_leasttable.fn.kp D_leasttable.b .nil pass0 (pa_cons (pv 0) (pa_cons (pv 2) pa_nil)))))
      (pss_cons (ps_set (i := 4) sc_listof.nd rfl (Or.inl rfl) (by exact (pe_lst (pa_cons (pe_tup (pa_cons (pv 0) (pa_cons pe_int (pa_cons pe_int pa_nil)))) pa_nil))))
      (pss_cons (ps_set (i := 5) sc_listof.nd rfl (Or.inl rfl) (by exact (pe_lst pa_nil)))
      (pss_mid (ps_for PassesOwn.never rfl (pi_range1 (by rfl) T.b_range (pa_cons (pe_op op_add (pe_op op_mul pe_int (pv 0)) pe_int) pa_nil)) (pg_name (i := 6) sc_listof.nd rfl (Or.inl rfl)) (pss_mid (ps_if (pt_cmpR op_eq (pe_callB call_len_seq (by rfl) T.b_len (by first | exact PySem.boot_len | decide +kernel) (pa_cons (pv 4) pa_nil)) pe_int (nomark _)) (pss_one ps_break) pss_nil)
          (pss_cons (ps_asg (by exact (pe_bm0 PySem.F.plainAttrs_list PySem.F.slot_list_pop PySem.F.type_list_pop mt_pop (pv 4))) (pg_tup rfl (pgs_cons (pg_name (i := 7) sc_listof.nd rfl (Or.inl rfl)) (pgs_cons (pg_name (i := 8) sc_listof.nd rfl (Or.inl rfl)) (pgs_cons (pg_name (i := 9) sc_listof.nd rfl (Or.inl rfl)) pgs_nil)))))
          (pss_one (ps_if (pt_cmpR op_isN (pv 7) pe_non (nomark _)) (pss_one (ps_expr (pe_bm PySem.F.plainAttrs_list PySem.F.slot_list_append PySem.F.type_list_append mt_append (pv 5) (pa_cons (pe_tup (pa_cons pe_str (pa_cons (pv 8) pa_nil))) pa_nil)))) (pss_one (ps_if (pt_cmpR op_gt (pv 7) pe_int (nomark _)) (pss_cons (ps_set (i := 10) sc_listof.nd rfl (Or.inl rfl) (by exact (pe_call G_stopof (hr.mono (by first | decide | omega)) rfl D_stopof.g D_stopof.fn.kp D_stopof.b .nil pass0 (pa_cons (pv 3) (pa_cons (pv 7) (pa_cons (pe_callB (call_min2 rfl) (by rfl) T.b_min (by first | exact PySem.boot_min | decide +kernel) (pa_cons (pe_op op_add (pe_op op_sub (pv 1) (pv 9)) pe_int) (pa_cons (pv 2) pa_nil))) pa_nil))))))
                  (pss_cons (ps_set (i := 5) sc_listof.nd rfl (Or.inl rfl) (by exact (pe_op op_cat (pe_op op_cat (pv 5) (pe_lst (pa_cons (pe_tup (pa_cons pe_str (pa_cons (pv 8) (pa_cons (pv 9) pa_nil)))) pa_nil))) (pe_op op_rep (pe_lst (pa_cons (pe_tup (pa_cons pe_str (pa_cons (pv 9) (pa_cons (pv 9) pa_nil)))) pa_nil)) (pe_op op_sub (pv 10) pe_int)))))
                  (pss_cons (ps_expr (pe_bm PySem.F.plainAttrs_list PySem.F.slot_list_append PySem.F.type_list_append mt_append (pv 4) (pa_cons (pe_tup (pa_cons (pe_op op_sub (pv 10) pe_int) (pa_cons (pv 8) (pa_cons (pv 9) pa_nil)))) pa_nil)))
                  (pss_cons (ps_expr (pe_bm PySem.F.plainAttrs_list PySem.F.slot_list_append PySem.F.type_list_append mt_append (pv 4) (pa_cons (pe_tup (pa_cons pe_non (pa_cons (pv 9) (pa_cons pe_int pa_nil)))) pa_nil)))
                  (pss_one (ps_expr (pe_bm PySem.F.plainAttrs_list PySem.F.slot_list_append PySem.F.type_list_append mt_append (pv 4) (pa_cons (pe_tup (pa_cons (pe_op op_sub (pv 7) (pv 10)) (pa_cons (pv 9) (pa_cons (pe_op op_add (pv 9) pe_int) pa_nil)))) pa_nil)))))))) pss_nil)))))))
      (pss_one (ps_ret (by exact (pv 5))))))))), ?_⟩
    walk_at "rd"
    obtain ⟨deep, hdeep, hd1, hd2, hd3⟩ : ∃ d : Nat, (if ((c + 1 : Nat) : Int) < (n : Int) then ((c + 1 : Nat) : Int) else (n : Int)) = (d : Int) ∧ d ≤ n ∧ d ≤ c + 1 ∧ (d = n ∨ d = c + 1) := by
      by_cases e : c + 1 < n
      · exact ⟨c + 1, by rw [if_pos (by omega)], by omega, Nat.le_refl _, .inr rfl⟩
      · exact ⟨n, by rw [if_neg (by omega)], Nat.le_refl _, by omega, .inl rfl⟩
    rw [hdeep]
    refine ⟨n, deep, ⟨rfl, rfl⟩, hn, by omega, fun tb H0 s0 tab => ?_⟩
    obtain ⟨ms, hb⟩ := Best.ex n n (Nat.le_refl _) c 0 1
    have hlen := hb.len
    have hT := T_small (c := c) hn
    have hml : ms.length ≤ 14640 := by omega
    walk_at "rd"
    walk_at "nw"
    intro t0 ht0
    walk_at "rd"
    walk_at "nw"
    intro po hpo
    walk_at "rd"
    walk_at "nw"
    intro pt hpt
    refine ⟨LoE n (c + 1) deep tb ms H0, ?_, ?_⟩
    · walk_at "rd"
      have base : LoI n (c + 1) deep tb ms H0 0 [some (.int n), some (.int ((c + 1 : Nat) : Int)), some (.int deep), some (.ref tb), some (.ref po), some (.ref pt), none, none, none, none, none] (upd (upd (upd H0 t0 (.tup [.int n, .int 0, .int 1])) po (.lst [.ref t0])) pt (.lst [])) := by
        have h1 : Same H0 (upd H0 t0 (.tup [.int n, .int 0, .int 1])) := same_new ht0
        have h2 : Same (upd H0 t0 (.tup [.int n, .int 0, .int 1])) (upd (upd H0 t0 (.tup [.int n, .int 0, .int 1])) po (.lst [.ref t0])) := same_new hpo
        have h3 := same_new (o := .lst []) hpt
        have e1 : (upd H0 t0 (.tup [.int n, .int 0, .int 1])) t0 = some (.tup [.int n, .int 0, .int 1]) := upd_same
        refine ⟨po, pt, [.ref t0], [], 3 * n + 1 + 0, [], ms ++ [], none, none, none, none, none, rfl, same_free hpo h1, same_free hpt (h1.trans h2), fun z => ?_, (h1.trans h2).trans h3, h3 _ _ upd_same, upd_same, .nil, .snoc [] _ _ _ _ _ .nil (.prob t0 n c 0 1 ms (h3 _ _ (h2 _ _ e1)) hn (.inr (by omega)) (by decide) hb), by rw [List.append_nil]; rfl, by omega⟩
        rw [← z, upd_same] at hpt
        cases hpt
      refine ⟨by omega, by omega, ?_⟩
      rw [show (4 * (n : Int) + 4).toNat = 4 * n + 4 by omega]
      revert base
      generalize upd (upd (upd H0 t0 _) po _) pt _ = HB
      clear hpt hpo ht0
      intro base
      refine for_range (fun i σ H' => LoI n (c + 1) deep tb ms H0 i σ H') base ?_ ?_
      · clear base po pt t0 HB
        rintro i σ H' hi ⟨po, pt, st, zs, w, done, rest, v6, v7, v8, v9, v10, rfl, hpo, hpt, hne, sm, eo, et, u, sk, hms, hw⟩
        walk_at "rd"
        refine ⟨fun σ' H'' => σ' = [some (.int n), some (.int ((c + 1 : Nat) : Int)), some (.int deep), some (.ref tb), some (.ref po), some (.ref pt), some (.int (0 + i)), v7, v8, v9, v10] ∧ H'' = H' ∧ st ≠ [], ?_, ?_⟩
        · walk_at "rd"
          refine ⟨po, st, rfl, .inl (SqL.of eo), ?_⟩
          walk_at "rd"
          refine ite2 (fun hc => ?_) (fun hc => ?_)
          · have hst : st = [] := by
              have e := V.int.inj (of_decide_eq_true hc)
              exact List.eq_nil_of_length_eq_zero (by omega)
            subst hst
            obtain rfl := sk.empty
            walk_at "rd"
            exact ⟨po, pt, zs, _, _, _, _, _, rfl, hpt, sm, et, by rw [hms, List.append_nil]; exact u⟩
          · exact ⟨rfl, rfl, fun z => of_ndec hc (by rw [z]; rfl)⟩
        rintro σ' H'' ⟨rfl, rfl, hst⟩
        obtain ⟨ys, x, w0, w1, m0, m1, rfl, rfl, rfl, sk0, ox⟩ := sk.top hst
        have lys := sk0.len
        walk_at "rd"
        refine ⟨.inl ⟨rfl, _, SqL.of eo⟩, po, _, x, rfl, rfl, eo, by rw [List.length_append]; simp, ?_⟩
        rw [List.dropLast_concat]
        generalize hg : upd H'' po _ = H1
        have k1 : TK H'' H1 := by
          rw [← hg]
          exact TK.mut eo
        have s1 : Same H0 H1 := by
          rw [← hg]
          exact sm.mut hpo
        have o1 : H1 po = some (.lst ys) := by
          rw [← hg]
          exact upd_same
        have t1 : H1 pt = some (.lst zs) := by
          rw [← hg, upd_ne (Ne.symm hne)]
          exact et
        have u1 := IsUs.tk u k1
        have sk1 := sk0.tk k1
        have ox1 := ox.tk k1
        have L1 : LS H0 po pt ys zs H1 := ⟨hpo, hpt, hne, s1, o1, t1⟩
        have hzl : zs.length = done.length := u1.length
        have hdl : done.length + (m1.length + m0.length) ≤ 14640 := by
          have := hml
          rw [hms, List.length_append, List.length_append] at this
          omega
        clear hg sm eo et u sk0 ox k1 sk hst
        cases ox1 with
        | read t f ht =>
          refine ⟨t, _, rfl, SqT.of ht, rfl, ?_⟩
          walk_at "rd"
          refine ⟨.inl ⟨rfl, _, SqL.of t1⟩, ?_⟩
          walk_at "rd"
          walk_at "nw"
          intro t2 ht2
          obtain ⟨L2', k2⟩ := L1.new (o := .tup [.str "read", .int f]) ht2
          refine ⟨pt, _, _, rfl, rfl, L2'.et, sz_lt (by omega), ?_⟩
          obtain ⟨L3, k3⟩ := L2'.setT (zs' := zs ++ [.ref t2])
          have kk := k2.trans k3
          have r3 : IsU (upd (upd H1 t2 (.tup [.str "read", .int f])) pt (.lst (zs ++ [.ref t2]))) (.ref t2) (.read f) := .read t2 f (k3 _ _ upd_same)
          exact ⟨po, pt, ys, zs ++ [.ref t2], w0, done ++ [.read f], m0, _, _, _, _, _, rfl, hpo, hpt, hne, L3.sm, L3.eo, L3.et, Us.app (IsUs.tk u1 kk) (.cons r3 .nil), sk1.tk kk, by rw [hms, List.append_assoc], by omega⟩
        | prob t size c' o f ms' ht hsz hcc hff hb' =>
          refine ⟨t, _, rfl, SqT.of ht, rfl, ?_⟩
          walk_at "rd"
          refine ite2 (fun hc => ?_) (fun hc => ?_)
          · have hpos : 0 < (size : Int) := of_decide_eq_true hc
            have hf2 : f + c' = ((c + 1 : Nat) : Int) := hcc.elim (fun z => by omega) id
            have hsn : size ≤ n := by omega
            obtain ⟨cc, hcc2, hcd, hdp⟩ : ∃ cc : Nat, (if (deep : Int) < ((c + 1 : Nat) : Int) - f + 1 then (deep : Int) else ((c + 1 : Nat) : Int) - f + 1) = ((cc + 1 : Nat) : Int) ∧ cc + 1 ≤ deep ∧ (c' = cc ∨ (size ≤ c' + 1 ∧ size ≤ cc + 1)) := by
              by_cases e : (deep : Int) < ((c + 1 : Nat) : Int) - f + 1
              · exact ⟨deep - 1, by rw [if_pos e]; omega, by omega, .inr ⟨by omega, by omega⟩⟩
              · exact ⟨c', by rw [if_neg e]; omega, by omega, .inl rfl⟩
            walk_at "rd"
            refine ⟨tb, _, _, rfl, size, cc, n, deep, ⟨rfl, hcc2⟩, by omega, hsn, hn, hcd, by omega, tab.keep L1.sm, fun s hs => ?_⟩
            obtain ⟨xr, yr, k, rfl, hk, hxr, hyr, hs1, hs2⟩ := hb'.split (by omega) hdp hs
            have hl1 : (Mv.up o f :: (List.replicate (s - 1) (Mv.up f f) ++ (xr ++ (Mv.read f :: yr)))).length = 1 + ((s - 1) + (xr.length + (1 + yr.length))) := by
              rw [List.length_cons, List.length_append, List.length_replicate, List.length_append, List.length_cons]
              omega
            rw [hl1] at hdl
            walk_at "rd"
            walk_at "nw"
            intro a1 ha1
            obtain ⟨M2, k2⟩ := L1.new (o := .tup [.str "up", .int o, .int f]) ha1
            have f1 : (upd H1 a1 (.tup [.str "up", .int o, .int f])) a1 = some (.tup [.str "up", .int o, .int f]) := upd_same
            have u2 := IsUs.tk u1 k2
            have sk2 := sk1.tk k2
            generalize upd H1 a1 _ = H2 at M2 f1 u2 sk2 ⊢
            clear k2 u1 sk1 L1 s1 o1 t1 ht ha1
            walk_at "rd"
            walk_at "nw"
            intro l1 hl1'
            obtain ⟨M3, k3⟩ := M2.new (o := .lst [.ref a1]) hl1'
            have f2 : (upd H2 l1 (.lst [.ref a1])) l1 = some (.lst [.ref a1]) := upd_same
            have f3 := k3 _ _ f1
            have u3 := IsUs.tk u2 k3
            have sk3 := sk2.tk k3
            generalize upd H2 l1 _ = H3 at M3 f2 f3 u3 sk3 ⊢
            clear k3 u2 sk2 M2 f1 hl1'
            refine ⟨pt, l1, _, _, rfl, rfl, M3.et, f2, sz_le (by rw [hzl]; show done.length + 1 ≤ 100000; omega), fun c1 hc1 => ?_⟩
            obtain ⟨M4, k4⟩ := M3.swap (zs' := zs ++ [.ref a1]) hc1
            have u4 := Us.app (IsUs.tk u3 k4) (.cons (IsU.up a1 o f (k4 _ _ f3)) .nil)
            have sk4 := sk3.tk k4
            generalize upd H3 c1 _ = H4 at M4 u4 sk4 ⊢
            clear k4 u3 sk3 M3 f2 f3 hc1
            walk_at "rd"
            walk_at "nw"
            intro a2 ha2
            obtain ⟨M5, k5⟩ := M4.new (o := .tup [.str "up", .int f, .int f]) ha2
            have f1 : (upd H4 a2 (.tup [.str "up", .int f, .int f])) a2 = some (.tup [.str "up", .int f, .int f]) := upd_same
            have u5 := IsUs.tk u4 k5
            have sk5 := sk4.tk k5
            generalize upd H4 a2 _ = H5 at M5 f1 u5 sk5 ⊢
            clear k5 u4 sk4 M4 ha2
            walk_at "rd"
            walk_at "nw"
            intro l2 hl2
            obtain ⟨M6, k6⟩ := M5.new (o := .lst [.ref a2]) hl2
            have f2 : (upd H5 l2 (.lst [.ref a2])) l2 = some (.lst [.ref a2]) := upd_same
            have f3 := k6 _ _ f1
            have u6 := IsUs.tk u5 k6
            have sk6 := sk5.tk k6
            generalize upd H5 l2 _ = H6 at M6 f2 f3 u6 sk6 ⊢
            clear k6 u5 sk5 M5 f1 hl2
            walk_at "rd"
            refine ⟨l2, (s : Int) - 1, _, rfl, rfl, f2, by omega, by omega, sz_le (by show 1 * ((s : Int) - 1).toNat ≤ 100000; omega), fun r hr => ?_⟩
            obtain ⟨M7, k7⟩ := M6.new (o := .lst (List.replicate (s - 1) (.ref a2))) hr
            have er : (List.replicate ((s : Int) - 1).toNat [V.ref a2]).flatten = List.replicate (s - 1) (V.ref a2) := by
              rw [show ((s : Int) - 1).toNat = s - 1 by omega, List.flatten_replicate_singleton]
            rw [er]
            have f4 : (upd H6 r (.lst (List.replicate (s - 1) (.ref a2)))) r = some (.lst (List.replicate (s - 1) (.ref a2))) := upd_same
            have f5 := k7 _ _ f3
            have u7 := IsUs.tk u6 k7
            have sk7 := sk6.tk k7
            generalize upd H6 r _ = H7 at M7 f4 f5 u7 sk7 ⊢
            clear k7 u6 sk6 M6 f2 f3 hr er
            refine ⟨c1, r, _, _, rfl, rfl, M7.et, f4, sz_le (by rw [List.length_append, List.length_replicate, hzl]; show done.length + 1 + (s - 1) ≤ 100000; omega), fun c2 hc2 => ?_⟩
            obtain ⟨M8, k8⟩ := M7.swap (zs' := zs ++ [.ref a1] ++ List.replicate (s - 1) (.ref a2)) hc2
            have reps : ∀ j : Nat, Paired (IsU (upd H7 c2 (.lst (zs ++ [.ref a1] ++ List.replicate (s - 1) (.ref a2))))) (List.replicate j (.ref a2)) (List.replicate j (.up f f)) := by
              intro j
              induction j with
              | zero => exact .nil
              | succ j ih =>
                rw [List.replicate_succ, List.replicate_succ]
                exact .cons (.up a2 f f (k8 _ _ f5)) ih
            have u8 := Us.app (IsUs.tk u7 k8) (reps (s - 1))
            have sk8 := sk7.tk k8
            generalize upd H7 c2 _ = H8 at M8 u8 sk8 ⊢
            clear k8 u7 sk7 M7 f4 f5 hc2 reps
            walk_at "rd"
            refine ⟨.inl ⟨rfl, _, SqL.of M8.eo⟩, ?_⟩
            walk_at "rd"
            walk_at "nw"
            intro p1 hp1
            obtain ⟨M9, k9⟩ := M8.new (o := .tup [.int ((s : Int) - 1), .int o, .int f]) hp1
            refine ⟨po, _, _, rfl, rfl, M9.eo, sz_lt (by omega), ?_⟩
            obtain ⟨M10, k10⟩ := M9.setO (ys' := ys ++ [.ref p1])
            have kk10 := k9.trans k10
            have fp1 : (upd (upd H8 p1 (.tup [.int ((s : Int) - 1), .int o, .int f])) po (.lst (ys ++ [.ref p1]))) p1 = some (.tup [.int ((s : Int) - 1), .int o, .int f]) := k10 _ _ upd_same
            have u10 := IsUs.tk u8 kk10
            have sk10 := (sk8.tk kk10).snoc _ _ _ _ _ _ (.prob p1 (s - 1) c' o f yr (by rw [show ((s - 1 : Nat) : Int) = (s : Int) - 1 by omega]; exact fp1) (by omega) (.inr hf2) hff hyr)
            generalize upd (upd H8 p1 _) po _ = H10 at M10 fp1 u10 sk10 ⊢
            clear k9 k10 kk10 u8 sk8 M8 M9 hp1 fp1
            walk_at "rd"
            refine ⟨.inl ⟨rfl, _, SqL.of M10.eo⟩, ?_⟩
            walk_at "rd"
            walk_at "nw"
            intro p2 hp2
            obtain ⟨M11, k11⟩ := M10.new (o := .tup [.non, .int f, .int 0]) hp2
            refine ⟨po, _, _, rfl, rfl, M11.eo, sz_lt (by rw [List.length_append]; show ys.length + 1 < 100000; omega), ?_⟩
            obtain ⟨M12, k12⟩ := M11.setO (ys' := ys ++ [.ref p1] ++ [.ref p2])
            have kk12 := k11.trans k12
            have fp2 : (upd (upd H10 p2 (.tup [.non, .int f, .int 0])) po (.lst (ys ++ [.ref p1] ++ [.ref p2]))) p2 = some (.tup [.non, .int f, .int 0]) := k12 _ _ upd_same
            have u12 := IsUs.tk u10 kk12
            have sk12 := (sk10.tk kk12).snoc _ _ _ _ _ _ (.read p2 f fp2)
            generalize upd (upd H10 p2 _) po _ = H12 at M12 fp2 u12 sk12 ⊢
            clear k11 k12 kk12 u10 sk10 M10 M11 hp2 fp2
            walk_at "rd"
            refine ⟨.inl ⟨rfl, _, SqL.of M12.eo⟩, ?_⟩
            walk_at "rd"
            walk_at "nw"
            intro p3 hp3
            obtain ⟨M13, k13⟩ := M12.new (o := .tup [.int ((size : Int) - s), .int f, .int (f + 1)]) hp3
            refine ⟨po, _, _, rfl, rfl, M13.eo, sz_lt (by rw [List.length_append, List.length_append]; show ys.length + 1 + 1 < 100000; omega), ?_⟩
            obtain ⟨M14, k14⟩ := M13.setO (ys' := ys ++ [.ref p1] ++ [.ref p2] ++ [.ref p3])
            have kk14 := k13.trans k14
            have fp3 : (upd (upd H12 p3 (.tup [.int ((size : Int) - s), .int f, .int (f + 1)])) po (.lst (ys ++ [.ref p1] ++ [.ref p2] ++ [.ref p3]))) p3 = some (.tup [.int ((size : Int) - s), .int f, .int (f + 1)]) := k14 _ _ upd_same
            have u14 := IsUs.tk u12 kk14
            have sk14 := (sk12.tk kk14).snoc _ _ _ _ _ _ (.prob p3 (size - s) k f (f + 1) xr (by rw [show ((size - s : Nat) : Int) = (size : Int) - s by omega]; exact fp3) (by omega) (hk.elim .inl fun z => .inr (by omega)) (by omega) hxr)
            generalize upd (upd H12 p3 _) po _ = H14 at M14 fp3 u14 sk14 ⊢
            clear k13 k14 kk14 u12 sk12 M12 M13 hp3 fp3
            refine ⟨po, c2, _, _, _, _, _, some (.int (0 + i)), some (.int size), some (.int o), some (.int f), some (.int s), rfl, M14.po0, M14.pt0, M14.ne, M14.sm, M14.eo, M14.et, u14, sk14, ?_, by omega⟩
            rw [hms]
            simp only [List.append_assoc, List.cons_append, List.nil_append]
          · have h0 : size = 0 := by
              have := of_ndec hc
              omega
            subst h0
            obtain rfl := hb'.zero
            exact ⟨po, pt, ys, zs, w0, done, m0, _, _, _, _, _, rfl, hpo, hpt, hne, L1.sm, L1.eo, L1.et, u1, sk1, hms, by omega⟩
      · rintro σ' H' ⟨po, pt, st, zs, w, done, rest, v6, v7, v8, v9, v10, rfl, hpo, hpt, hne, sm, eo, et, u, sk, hms, hw⟩
        exact absurd hw (by omega)
    · rintro σ' H' ⟨po, pt, zs, v6, v7, v8, v9, v10, rfl, hp, sm, e, u⟩
      walk_at "rd"
      exact q pt zs ms H' (s0.trans sm) (same_free hp s0) e u hb
end
end K12

set_option Elab.async false
set_option linter.all false
set_option maxRecDepth 100000
set_option maxHeartbeats 4000000
set_option pp.deepTerms false
set_option pp.deepTerms.threshold 12
namespace K12
open PySem PySem.Spec PyProof.Rows L2
local macro_rules | `(tactic| walk_at "ty") => `(tactic| first | exact .base (.int _) | exact .base (.bl _) | exact .base (.str _) | exact .base .non | assumption | exact .base (.tup (by assumption)) | exact .base (.lst (by assumption)))
local macro_rules | `(tactic| walk_at "cm") => `(tactic| first | exact cm_r (by decide) (by decide) | exact cm_l (by decide) (by decide) | exact cm_fmod (by decide) (by decide) | exact cm_r (by omega) (by omega) | exact cm_l (by omega) (by omega))
local macro_rules | `(tactic| walk_at "dv") => `(tactic| first | exact ⟨by decide, by decide⟩ | exact ⟨by omega, by omega⟩)
local macro_rules | `(tactic| walk_at "r1") => `(tactic| first
  | refine ⟨_, rfl, ?_⟩ | refine ⟨_, _, rfl, rfl, ?_⟩ | refine Or.inl ⟨_, rfl, ?_⟩ | refine Or.inr ⟨_, rfl, ?_⟩
  | refine And.intro (a := CMul _ _) (by walk_at "cm") ?_ | refine And.intro (a := CDivN _ _) (by walk_at "dv") ?_ | refine And.intro (a := _ ≠ (0 : Int)) (by first | decide | omega) ?_ | refine And.intro (a := scal _ _ = true) rfl ?_ | refine ⟨_, _, _, _, rfl, rfl, SqL.of (by first | exact upd_same | assumption), rfl, ?_⟩ | refine ⟨_, _, _, _, rfl, rfl, (by first | exact upd_same | assumption), rfl, ?_⟩ | refine ⟨_, _, rfl, ?_⟩ | refine And.intro (a := (_ : V) = V.non) rfl ?_ | refine And.intro (a := CPow _ _) ⟨by decide, by decide, by decide⟩ ?_ | refine And.intro (a := (_ : List V) = []) rfl ?_ | refine ⟨_, _, rfl, SqT.of (by first | exact upd_same | assumption), rfl, ?_⟩
  | refine ⟨_, _, _, _, rfl, rfl, SqT.of (by first | exact upd_same | assumption), rfl, ?_⟩
  | refine ⟨_, _, _, _, true, rfl, ClsV.ty _, (by walk_at "ty"), kit_ty (by decide +kernel), ?_⟩ | refine ⟨_, _, _, _, false, rfl, ClsV.ty _, (by walk_at "ty"), kit_ty (by decide +kernel), ?_⟩)
local macro_rules | `(tactic| walk_at "rd") => `(tactic| repeat walk_at "r1")
local macro_rules | `(tactic| walk_at "yes") => `(tactic| (change (if true = true then _ else _); rw [if_pos rfl]))
local macro_rules | `(tactic| walk_at "no") => `(tactic| (change (if false = true then _ else _); rw [if_neg Bool.false_ne_true]))
local macro_rules | `(tactic| walk_at "nw") => `(tactic| refine And.intro (a := _ ≤ sizeLine) (sz_le (Nat.le_of_ble_eq_true rfl)) ?_)

section
variable {P : Program} {w : World} {K : PySem.W.Frag} {mg : Str → Option Value} {base : Heap}
variable {C_VaultError C_TooMany C_NumberError C_BadPrime C_NoInverse C_NoNumber C_BadTable C_BadCells C_TextError C_ShapeError C_PlanError C_CourseError C_KnowError C_PaperError C_BadStep C_BadBlind C_BadMove C_NotShut C_NotOpen C_NotTheft C_NotPrice fV fI_BadMove fI_BadCells : Addr}
variable (T : Txt P K mg C_VaultError C_TooMany C_NumberError C_BadPrime C_NoInverse C_NoNumber C_BadTable C_BadCells C_TextError C_ShapeError C_PlanError C_CourseError C_KnowError C_PaperError C_BadStep C_BadBlind C_BadMove C_NotShut C_NotOpen C_NotTheft C_NotPrice fV fI_BadMove fI_BadCells)
include T
open L2H
def spRefZ (C : Addr) (nm fl wd : Str) (a : Addr) (cls : Value) (d : Option Addr) : Sp := fun vs H Q _ => ∃ (d' : Addr) (v : V), vs = [.ref a] ∧ (cls = .ref C ∧ d = some d') ∧ H d' = some (.xd (excD [fl] nm [v])) ∧ ∀ t H', Same H H' → H' t = some (.tup [.str wd, v]) → Q (.ref t) H'
omit T in
theorem refZ {C a : Addr} {nm fl wd : Str} {cls : Value} {d : Option Addr} {oe : Obj} (hz : L2N.Zn cls d oe) (hf : ∃ vs : Array Value, oe.data = .fields vs) : ∀ vs H Q E, spRefZ C nm fl wd a cls d vs H Q E → spRefusal C nm fl wd (a, oe) vs H Q E := by
  rintro vs H Q E ⟨d', v, rfl, ⟨rfl, rfl⟩, hd, q⟩
  exact ⟨d', v, rfl, ⟨⟨hz.zc, hf⟩, hd⟩, q⟩
def spRef2 (C D : Addr) : Addr × Obj → Sp := fun p vs H Q E => spRefusal C "BadMove" "at" "badmove" p vs H Q E ∨ spRefusal D "BadCells" "cells" "badcells" p vs H Q E
def spRefZ2 (C D : Addr) (a : Addr) (cls : Value) (d : Option Addr) : Sp := fun vs H Q E => spRefZ C "BadMove" "at" "badmove" a cls d vs H Q E ∨ spRefZ D "BadCells" "cells" "badcells" a cls d vs H Q E
omit T in
theorem refZ2 {C D a : Addr} {cls : Value} {d : Option Addr} {oe : Obj} (hz : L2N.Zn cls d oe) (hf : ∃ vs : Array Value, oe.data = .fields vs) : ∀ vs H Q E, spRefZ2 C D a cls d vs H Q E → spRef2 C D (a, oe) vs H Q E :=
  fun vs H Q E h => h.elim (fun z => .inl (refZ hz hf vs H Q E z)) fun z => .inr (refZ hz hf vs H Q E z)
omit T in
theorem ref2 {C D : Addr} {f : Addr} {fd : FuncData} {ps : List Str} {k : Nat} (a : FnE P w K mg base k f fd ps (spRefusal C "BadMove" "at" "badmove")) (b : FnE P w K mg base k f fd ps (spRefusal D "BadCells" "cells" "badcells")) : FnE P w K mg base k f fd ps (spRef2 C D) :=
  ⟨fun p vs H Q E h => h.elim (a.len p vs H Q E) (b.len p vs H Q E), fun A outer s H args us vs Q E p h1 h2 h3 h4 h5 h6 h => h.elim (a.run A outer s H args us vs Q E p h1 h2 h3 h4 h5 h6) (b.run A outer s H args us vs Q E p h1 h2 h3 h4 h5 h6)⟩
def BadC (H : Hp) (b : V) : Prop := (∃ i, b = .int i ∧ i < 1) ∨ (∃ n, NotInt H b n)
def spSaid : Sp := fun vs H Q _ => ∃ (n : Int) (b v : V), vs = [.int n, b, v] ∧
  ((∃ n' c : Nat, (n = n' ∧ b = .int (c + 1 : Nat) ∧ v = .non) ∧ n' ≤ 120 ∧ c < 120 ∧ ∀ t l zs ms H', Same H H' → H l = none → H' t = some (.tup [.bl true, .ref l]) → H' l = some (.lst zs) → Paired (IsU H') zs ms → Best n' c 0 1 ms → Q (.ref t) H') ∨
   (∃ c : Int, (b = .int c ∧ 0 ≤ n ∧ n ≤ 120 ∧ 1 ≤ c ∧ c ≤ 120) ∧ ∃ (a : Addr) (xs : List V) (ms : List Mv), v = .ref a ∧ (H a = some (.lst xs) ∨ H a = some (.tup xs)) ∧ xs.length ≤ 20000 ∧ IsMs H xs ms ∧
     (∀ k t H', verdict n c ms = .inl k → Same H H' → H' t = some (.tup [.bl true, .int k]) → Q (.ref t) H') ∧
     ∀ (j : Nat) t u H', verdict n c ms = .inr j → Same H H' → H' t = some (.tup [.bl false, .ref u]) → H' u = some (.tup [.str "badmove", .int j]) → Q (.ref t) H') ∨
   ((v = .non ∨ ∃ a, v = .ref a) ∧ BadC H b ∧ ∀ t u H', Same H H' → H' t = some (.tup [.bl false, .ref u]) → H' u = some (.tup [.str "badcells", b]) → Q (.ref t) H'))
theorem ok_said {f : Addr} {fd : FuncData} (F : Fun K "_law_said" "_law_said" s_said f fd) {f_move_list : Addr} {fd_move_list : FuncData} (D_move_list : Def K mg "move_list" s_move_list p_move_list f_move_list fd_move_list) (G_move_list : FnOk P w K mg base (L2N.CX P w) 131 f_move_list fd_move_list p_move_list (spR C_BadCells spMoves)) {f_check_moves : Addr} {fd_check_moves : FuncData} (D_check_moves : Def K mg "check_moves" s_check_moves p_check_moves f_check_moves fd_check_moves) (G_check_moves : FnOk P w K mg base (L2N.CX P w) 4 f_check_moves fd_check_moves p_check_moves (spCheck K C_BadCells C_BadMove)) {f_refusal : Addr} {fd_refusal : FuncData} (D_refusal : Def K mg "_law_refusal" s_refusal p_refusal f_refusal fd_refusal) (E_refusal : FnE P w K mg base 4 f_refusal fd_refusal p_refusal (spRef2 C_BadMove C_BadCells)) : FnOk P w K mg base CX0 132 f fd p_said spSaid := by
  refine F.ok sc_said (fun vs H Q E h => ?_) (fun cdv A outer s H vs Q E hr h => ?_)
  · obtain ⟨n, b, v, rfl, q⟩ := h
    rfl
  · obtain ⟨n, b, v, rfl, q⟩ := h
    refine ⟨_, (pss_one (L2N.ps_try_as (i := 3) (tb := _) (ts := _) (Wout := fun _ _ _ _ => False) rfl rfl sc_said.nd rfl rfl ⟨rfl, by decide, Or.inl T.g_VaultError⟩ takesN0
  (fun W pn xe tk _ => (pss_cons (ps_if (pt_cmpR op_isN (pv 2) pe_non (nomark _)) (pss_one (ps_ret (by exact (pe_tup (pa_cons pe_bl (pa_cons (pe_callS G_move_list (hr.mono (by first | decide | omega)) rfl D_move_list.g D_move_list.fn.kp D_move_list.b (fun σ => L2N.passAt tk σ) (pa_cons (pv 0) (pa_cons (pv 1) pa_nil))) pa_nil)))))) pss_nil)
          (pss_one (ps_ret (by exact (pe_tup (pa_cons pe_bl (pa_cons (pe_callS G_check_moves (hr.mono (by first | decide | omega)) rfl D_check_moves.g D_check_moves.fn.kp D_check_moves.b (fun σ => L2N.passAt tk σ) (pa_cons (pv 0) (pa_cons (pv 1) (pa_cons (pv 2) pa_nil)))) pa_nil))))))))
  (fun a oe cls d pn hz hf => (pss_one (ps_ret (by exact (pe_tup (pa_cons pe_bl (pa_cons (pe_callZ E_refusal (refZ2 hz hf) (roomH_as (roomH_of (hr.mono (by decide))) rfl rfl) (hot_of hz hf) (List.mem_cons_self (a := (a, oe))) rfl D_refusal.g D_refusal.fn.kp D_refusal.b (pa_cons (pv 3) pa_nil)) pa_nil))))))))), ?_⟩
    walk_at "rd"
    rcases q with ⟨n', c, ⟨rfl, rfl, rfl⟩, hn, hc, q⟩ | ⟨c, ⟨rfl, n0, n1, c0, c1⟩, a, xs, ms, rfl, hv, hz, hm, q1, q2⟩ | ⟨hv, hb, q⟩
    · walk_at "rd"
      refine .inl ⟨n', c, ⟨rfl, rfl⟩, hn, hc, fun l zs ms H' s1 hl e u hbst => ?_⟩
      walk_at "rd"
      walk_at "nw"
      intro t ht
      exact q t l zs ms _ (s1.trans (same_new ht)) hl upd_same (same_new ht _ _ e) (Us.map u fun _ _ z => z.keep (same_new ht)) hbst
    · walk_at "rd"
      refine ⟨n, .int c, .ref a, rfl, .inl ⟨c, rfl, ⟨n0, n1, c0, c1⟩, a, xs, ms, rfl, hv, hz, hm, fun H' s1 => ⟨fun k hk => ?_, fun j hj d hd => ⟨true, T.ix_BadMove, fun _ e he => ?_, fun z => nomatch z⟩⟩⟩⟩
      · walk_at "rd"
        walk_at "nw"
        intro t ht
        exact q1 k t _ hk (s1.trans (same_new ht)) upd_same
      · walk_at "rd"
        refine .inl ⟨d, .int j, rfl, ⟨rfl, rfl⟩, upd_same, fun u H2 s2 hu => ?_⟩
        walk_at "rd"
        walk_at "nw"
        intro t ht
        exact q2 j t u _ hj (((s1.trans (same_new hd)).trans s2).trans (same_new ht)) upd_same (same_new ht _ _ hu)
    · rcases hv with rfl | ⟨a, rfl⟩
      · walk_at "rd"
        refine .inr ⟨hb, fun d hd => ⟨true, T.ix_BadCells, fun _ e he => ?_, fun z => nomatch z⟩⟩
        walk_at "rd"
        refine .inr ⟨d, b, rfl, ⟨rfl, rfl⟩, upd_same, fun u H2 s2 hu => ?_⟩
        walk_at "rd"
        walk_at "nw"
        intro t ht
        exact q t u _ (((same_new hd).trans s2).trans (same_new ht)) upd_same (same_new ht _ _ hu)
      · walk_at "rd"
        refine ⟨n, b, .ref a, rfl, .inr ⟨hb, fun d hd => ⟨true, T.ix_BadCells, fun _ e he => ?_, fun z => nomatch z⟩⟩⟩
        walk_at "rd"
        refine .inr ⟨d, b, rfl, ⟨rfl, rfl⟩, upd_same, fun u H2 s2 hu => ?_⟩
        walk_at "rd"
        walk_at "nw"
        intro t ht
        exact q t u _ (((same_new hd).trans s2).trans (same_new ht)) upd_same (same_new ht _ _ hu)
end
end K12

set_option Elab.async false
set_option linter.all false
set_option maxRecDepth 100000
set_option maxHeartbeats 4000000
set_option pp.deepTerms false
set_option pp.deepTerms.threshold 12
namespace K12
open PySem PySem.Spec PyProof.Rows L2
local macro_rules | `(tactic| walk_at "ty") => `(tactic| first | exact .base (.int _) | exact .base (.bl _) | exact .base (.str _) | exact .base .non | assumption | exact .base (.tup (by assumption)) | exact .base (.lst (by assumption)))
local macro_rules | `(tactic| walk_at "cm") => `(tactic| first | exact cm_r (by decide) (by decide) | exact cm_l (by decide) (by decide) | exact cm_fmod (by decide) (by decide) | exact cm_r (by omega) (by omega) | exact cm_l (by omega) (by omega))
local macro_rules | `(tactic| walk_at "dv") => `(tactic| first | exact ⟨by decide, by decide⟩ | exact ⟨by omega, by omega⟩)
local macro_rules | `(tactic| walk_at "r1") => `(tactic| first
  | refine ⟨_, rfl, ?_⟩ | refine ⟨_, _, rfl, rfl, ?_⟩ | refine Or.inl ⟨_, rfl, ?_⟩ | refine Or.inr ⟨_, rfl, ?_⟩
  | refine And.intro (a := CMul _ _) (by walk_at "cm") ?_ | refine And.intro (a := CDivN _ _) (by walk_at "dv") ?_ | refine And.intro (a := _ ≠ (0 : Int)) (by first | decide | omega) ?_ | refine And.intro (a := scal _ _ = true) rfl ?_ | refine ⟨_, _, _, _, rfl, rfl, SqL.of (by first | exact upd_same | assumption), rfl, ?_⟩ | refine ⟨_, _, _, _, rfl, rfl, (by first | exact upd_same | assumption), rfl, ?_⟩ | refine ⟨_, _, rfl, ?_⟩ | refine And.intro (a := (_ : V) = V.non) rfl ?_ | refine And.intro (a := CPow _ _) ⟨by decide, by decide, by decide⟩ ?_ | refine And.intro (a := (_ : List V) = []) rfl ?_ | refine ⟨_, _, rfl, SqT.of (by first | exact upd_same | assumption), rfl, ?_⟩
  | refine ⟨_, _, _, _, rfl, rfl, SqT.of (by first | exact upd_same | assumption), rfl, ?_⟩
  | refine ⟨_, _, _, _, true, rfl, ClsV.ty _, (by walk_at "ty"), kit_ty (by decide +kernel), ?_⟩ | refine ⟨_, _, _, _, false, rfl, ClsV.ty _, (by walk_at "ty"), kit_ty (by decide +kernel), ?_⟩)
local macro_rules | `(tactic| walk_at "rd") => `(tactic| repeat walk_at "r1")
local macro_rules | `(tactic| walk_at "yes") => `(tactic| (change (if true = true then _ else _); rw [if_pos rfl]))
local macro_rules | `(tactic| walk_at "no") => `(tactic| (change (if false = true then _ else _); rw [if_neg Bool.false_ne_true]))
local macro_rules | `(tactic| walk_at "nw") => `(tactic| refine And.intro (a := _ ≤ sizeLine) (sz_le (Nat.le_of_ble_eq_true rfl)) ?_)

section
variable {P : Program} {w : World} {K : PySem.W.Frag} {mg : Str → Option Value} {base : Heap}
variable {C_VaultError C_TooMany C_NumberError C_BadPrime C_NoInverse C_NoNumber C_BadTable C_BadCells C_TextError C_ShapeError C_PlanError C_CourseError C_KnowError C_PaperError C_BadStep C_BadBlind C_BadMove C_NotShut C_NotOpen C_NotTheft C_NotPrice fV fI_BadMove fI_BadCells : Addr}
variable (T : Txt P K mg C_VaultError C_TooMany C_NumberError C_BadPrime C_NoInverse C_NoNumber C_BadTable C_BadCells C_TextError C_ShapeError C_PlanError C_CourseError C_KnowError C_PaperError C_BadStep C_BadBlind C_BadMove C_NotShut C_NotOpen C_NotTheft C_NotPrice fV fI_BadMove fI_BadCells)
include T
/-- what the play tells, as the law writes it -/
def Due (n c : Int) (ms : List Mv) (H : Hp) (t : Addr) : Prop := (∃ k, verdict n c ms = .inl k ∧ H t = some (.tup [.bl true, .int k])) ∨
  ∃ (j : Nat) (u : Addr), verdict n c ms = .inr j ∧ H t = some (.tup [.bl false, .ref u]) ∧ H u = some (.tup [.str "badmove", .int j])
omit T in
theorem Due.keep {n c : Int} {ms : List Mv} {H H' : Hp} {t : Addr} (h : Due n c ms H t) (s : Same H H') : Due n c ms H' t := by
  rcases h with ⟨k, hv, e⟩ | ⟨j, u, hv, e, e2⟩
  · exact .inl ⟨k, hv, s _ _ e⟩
  · exact .inr ⟨j, u, hv, s _ _ e, s _ _ e2⟩
omit T in
theorem sameD_flat {H : Hp} {k : Nat} {x : V} (h : flatV x = true) : SameD H (k + 1) x x := .inl ⟨rfl, h⟩
omit T in
theorem sameD_two {H : Hp} {k : Nat} {a b : Addr} {x y x' y' : V} (e : H a = some (.tup [x, y])) (e' : H b = some (.tup [x', y'])) (h : SameD H k x x') (h2 : SameD H k y y') : SameD H (k + 1) (.ref a) (.ref b) := by
  refine .inr ⟨a, b, _, _, rfl, rfl, .inl ⟨e, e'⟩, rfl, by show 2 ≤ 100000; decide, fun i p q hp hq => ?_⟩
  rcases i with _ | _ | i
  · cases hp
    cases hq
    exact h
  · cases hp
    cases hq
    exact h2
  · cases hp
omit T in
theorem Due.same {n c : Int} {ms : List Mv} {H : Hp} {t d : Addr} (a : Due n c ms H t) (b : Due n c ms H d) : SameD H 3 (.ref t) (.ref d) := by
  rcases a with ⟨k, hv, e⟩ | ⟨j, u, hv, e, e2⟩ <;> rcases b with ⟨k', hv', e'⟩ | ⟨j', u', hv', e', e2'⟩
  · rw [hv] at hv'
    cases hv'
    exact sameD_two e e' (sameD_flat rfl) (sameD_flat rfl)
  · rw [hv] at hv'
    cases hv'
  · rw [hv] at hv'
    cases hv'
  · rw [hv] at hv'
    cases hv'
    exact sameD_two e e' (sameD_flat rfl) (sameD_two e2 e2' (sameD_flat rfl) (sameD_flat rfl))
omit T in
theorem SameD.le {H : Hp} : ∀ {n m : Nat} {x y : V}, SameD H n x y → n ≤ m → SameD H m x y
  | 0, _, _, _, h, _ => h.elim
  | n + 1, 0, _, _, _, h => absurd h (Nat.not_succ_le_zero n)
  | n + 1, m + 1, x, y, h, hl => by
    rcases h with h | ⟨a, b, xs, ys, h1, h2, h3, h4, h5, h6⟩
    · exact .inl h
    · exact .inr ⟨a, b, xs, ys, h1, h2, h3, h4, h5, fun i p q hp hq => SameD.le (h6 i p q hp hq) (Nat.le_of_succ_le_succ hl)⟩
omit T in
theorem IsMs.keep {H H' : Hp} {xs : List V} {ms : List Mv} (h : IsMs H xs ms) (s : Same H H') : IsMs H' xs ms := by
  unfold IsMs at h ⊢
  induction h with
  | nil => exact .nil
  | cons a _ ih => exact .cons (a.keep s) ih
def spPlays : Sp := fun vs H Q _ => ∃ (n c : Int) (l : Addr), vs = [.int n, .int c, .ref l] ∧ (0 ≤ n ∧ n ≤ 120 ∧ 1 ≤ c ∧ c ≤ 120) ∧ ∃ (st : Addr) (xs : List V), H l = some (.lst xs) ∧ xs.length ≤ 20000 ∧ (∀ x ∈ xs, It1 st H x) ∧ ∀ H', Same H H' → Q (.bl true) H'
theorem ok_playsright {f : Addr} {fd : FuncData} (F : Fun K "_law_playsright" "_law_playsright" s_playsright f fd) {f_play : Addr} {fd_play : FuncData} (D_play : Def K mg "_law_play" s_play p_play f_play fd_play) (G_play : FnOk P w K mg base CX0 3 f_play fd_play p_play (spPlay K)) {f_same : Addr} {fd_same : FuncData} (D_same : Def K mg "_law_same" s_same p_same f_same fd_same) (G_same : FnOk P w K mg base CX0 6 f_same fd_same p_same (spSame 6)) {f_said : Addr} {fd_said : FuncData} (D_said : Def K mg "_law_said" s_said p_said f_said fd_said) (G_said : FnOk P w K mg base CX0 132 f_said fd_said p_said spSaid) : FnG P w K mg base 133 f fd p_playsright spPlays := by
  refine F.okG sc_playsright (fun vs H Q E h => ?_) (fun cdv A outer s H vs Q E gd hr h => ?_)
  · obtain ⟨n, c, l, rfl, _⟩ := h
    rfl
  · obtain ⟨n, c, l, rfl, ⟨n0, n1, c0, c1⟩, st, xs, hl, hz, hit, q⟩ := h
    obtain ⟨ms, hms⟩ := It1s.ism hit
    obtain ⟨ds, hds, sds⟩ := It1s.shn hit
    have sl := sds.lst
    refine ⟨_, (pss_cons (ps_asg (by exact (pe_call G_play (hr.mono (by first | decide | omega)) rfl D_play.g D_play.fn.kp D_play.b .nil pass0 (pa_cons (pv 0) (pa_cons (pv 1) (pa_cons (pv 2) pa_nil))))) (pg_tup rfl (pgs_cons (pg_name (i := 3) sc_playsright.nd rfl (Or.inl rfl)) (pgs_cons (pg_name (i := 4) sc_playsright.nd rfl (Or.inl rfl)) pgs_nil))))
      (pss_cons (ps_set (i := 5) sc_playsright.nd rfl (Or.inl rfl) (by exact (pe_tup (pa_cons (pv 3) (pa_cons (pv 4) pa_nil)))))
      (pss_mid (ps_if (pt_not (pt_val (pv 3))) (pss_one (ps_set (i := 5) sc_playsright.nd rfl (Or.inl rfl) (by exact (pe_tup (pa_cons pe_bl (pa_cons (pe_tup (pa_cons pe_str (pa_cons (pv 4) pa_nil))) pa_nil)))))) pss_nil)
      (pss_cons (ps_set (i := 6) sc_playsright.nd rfl (Or.inl rfl) (by exact (pe_callB (call_repr_of gd hr.units) (by rfl) T.b_repr (by first | exact PySem.boot_repr | decide +kernel) (pa_cons (pv 2) pa_nil))))
      (pss_mid (ps_if (PW.pt (pw_or (pt_not (pt_val (pe_call G_same (hr.mono (by first | decide | omega)) rfl D_same.g D_same.fn.kp D_same.b .nil pass0 (pa_cons (pe_call G_said (hr.mono (by first | decide | omega)) rfl D_said.g D_said.fn.kp D_said.b .nil pass0 (pa_cons (pv 0) (pa_cons (pv 1) (pa_cons (pv 2) pa_nil)))) (pa_cons (pv 5) pa_nil))))) (pw_or1 (pt_not (pt_val (pe_call G_same (hr.mono (by first | decide | omega)) rfl D_same.g D_same.fn.kp D_same.b .nil pass0 (pa_cons (pe_call G_said (hr.mono (by first | decide | omega)) rfl D_said.g D_said.fn.kp D_said.b .nil pass0 (pa_cons (pv 0) (pa_cons (pv 1) (pa_cons (pe_callTy call_tuple_of (by rfl) T.b_tuple (by first | exact PySem.boot_tuple | decide +kernel) (pa_cons (pv 2) pa_nil)) pa_nil)))) (pa_cons (pv 5) pa_nil)))))))) (pss_one (ps_ret (by exact pe_bl))) pss_nil)
      (pss_one (ps_ret (by exact (pe_and (pe_call G_same (hr.mono (by first | decide | omega)) rfl D_same.g D_same.fn.kp D_same.b .nil pass0 (pa_cons (pe_call G_said (hr.mono (by first | decide | omega)) rfl D_said.g D_said.fn.kp D_said.b .nil pass0 (pa_cons (pv 0) (pa_cons (pv 1) (pa_cons (pv 2) pa_nil)))) (pa_cons (pv 5) pa_nil))) (pe_one (pe_cmpR op_eq (pe_callB (call_repr_of gd hr.units) (by rfl) T.b_repr (by first | exact PySem.boot_repr | decide +kernel) (pa_cons (pv 2) pa_nil)) (pv 6) (nomark _)))))))))))), ?_⟩
    walk_at "rd"
    refine ⟨n, c, l, rfl, ⟨n0, n1, c0, c1⟩, xs, ms, hl, hz, hms, fun t H1 b k s1 et hv => ?_⟩
    refine ⟨t, _, rfl, SqT.of et, rfl, ?_⟩
    walk_at "rd"
    walk_at "nw"
    intro t2 ht2
    generalize hg : upd H1 t2 _ = H2
    have s2 : Same H H2 := by
      rw [← hg]
      exact s1.trans (same_new ht2)
    have e2 : H2 t2 = some (.tup [.bl b, .int k]) := by
      rw [← hg]
      exact upd_same
    clear hg ht2 et s1
    walk_at "rd"
    refine ⟨fun σ' H' => ∃ dt, σ' = [some (.int n), some (.int c), some (.ref l), some (.bl b), some (.int k), some (.ref dt), none] ∧ Same H H' ∧ Due n c ms H' dt, ?_, ?_⟩
    · rcases hv with ⟨rfl, hv⟩ | ⟨rfl, j, rfl, hv⟩
      · walk_at "rd"
        exact ⟨s2, .inl ⟨k, hv, e2⟩⟩
      · walk_at "rd"
        walk_at "nw"
        intro u hu
        walk_at "rd"
        walk_at "nw"
        intro t3 ht3
        exact ⟨t3, rfl, (s2.trans (same_new hu)).trans (same_new ht3), .inr ⟨j, u, hv, upd_same, same_new ht3 _ _ upd_same⟩⟩
    rintro σ' H3 ⟨dt, rfl, s3, hd⟩
    clear s2 e2 hv
    have said : ∀ (H4 : Hp) (Q4 : VK) (E4 : XK) (a : Addr), (H4 a = some (.lst xs) ∨ H4 a = some (.tup xs)) → Same H H4 → (∀ t H5, Same H4 H5 → Due n c ms H5 t → Q4 (.ref t) H5) → spSaid [.int n, .int c, .ref a] H4 Q4 E4 := by
      intro H4 Q4 E4 a ha s4 k4
      refine ⟨n, .int c, .ref a, rfl, .inr (.inl ⟨c, ⟨rfl, n0, n1, c0, c1⟩, a, xs, ms, rfl, ha, hz, IsMs.keep hms s4, fun k t H5 hv s5 e => k4 t H5 s5 (.inl ⟨k, hv, e⟩), fun j t u H5 hv s5 e e2 => k4 t H5 s5 (.inr ⟨j, u, hv, e, e2⟩)⟩)⟩
    walk_at "rd"
    have shown := PyData.shown_fits (B := 13) (by decide) (by decide) sl.lv (Nat.le_trans sl.wt (by omega))
    refine ⟨l, .list ds, rfl, .lst (s3 _ _ hl) (RdVs.keep s3 hds), sl.sh, sl.nd, Nat.le_trans sl.dp (by decide), shown, ?_⟩
    walk_at "rd"
    refine ⟨fun σ' H' => σ' = [some (.int n), some (.int c), some (.ref l), some (.bl b), some (.int k), some (.ref dt), some (.str (PyData.list ds).shown)] ∧ Same H H' ∧ Due n c ms H' dt, ?_, ?_⟩
    · walk_at "rd"
      try dsimp only [tNil, List.cons_append, List.nil_append]
      refine said _ _ _ l (.inl (s3 _ _ hl)) s3 fun t H5 s5 d5 => ?_
      walk_at "rd"
      refine ⟨SameD.le (d5.same (hd.keep s5)) (by decide), ?_⟩
      walk_at "rd"
      have s35 := s3.trans s5
      refine ⟨l, xs, rfl, .inl ⟨SqL.of (s35 _ _ hl), fun lt hlt => ?_⟩⟩
      walk_at "rd"
      have s36 := s35.trans (same_new (o := .tup xs) hlt)
      try dsimp only [tNil, List.cons_append, List.nil_append]
      try dsimp only [tNil, List.cons_append, List.nil_append]
      refine said _ _ _ lt (.inr upd_same) s36 fun t' H6 s6 d6 => ?_
      walk_at "rd"
      refine ⟨SameD.le (d6.same (((hd.keep s5).keep (same_new hlt)).keep s6)) (by decide), ?_⟩
      walk_at "rd"
      refine ite2 (fun hc => absurd hc (by decide)) fun _ => ?_
      exact ⟨rfl, s36.trans s6, ((hd.keep s5).keep (same_new hlt)).keep s6⟩
    rintro σ' H4 ⟨rfl, s4, hd4⟩
    walk_at "rd"
    try dsimp only [tNil, List.cons_append, List.nil_append]
    refine said _ _ _ l (.inl (s4 _ _ hl)) s4 fun t H5 s5 d5 => ?_
    walk_at "rd"
    refine ⟨SameD.le (d5.same (hd4.keep s5)) (by decide), ?_⟩
    walk_at "rd"
    have s6 := s4.trans s5
    refine ⟨l, .list ds, rfl, .lst (s6 _ _ hl) (RdVs.keep s6 hds), sl.sh, sl.nd, Nat.le_trans sl.dp (by decide), shown, ?_⟩
    walk_at "rd"
    rw [decide_eq_true rfl]
    exact q H5 s6
end
end K12

set_option Elab.async false
set_option linter.all false
set_option maxRecDepth 100000
set_option maxHeartbeats 4000000
set_option pp.deepTerms false
set_option pp.deepTerms.threshold 12
namespace K12
open PySem PySem.Spec PyProof.Rows L2
local macro_rules | `(tactic| walk_at "ty") => `(tactic| first | exact .base (.int _) | exact .base (.bl _) | exact .base (.str _) | exact .base .non | assumption | exact .base (.tup (by assumption)) | exact .base (.lst (by assumption)))
local macro_rules | `(tactic| walk_at "cm") => `(tactic| first | exact cm_r (by decide) (by decide) | exact cm_l (by decide) (by decide) | exact cm_fmod (by decide) (by decide) | exact cm_r (by omega) (by omega) | exact cm_l (by omega) (by omega))
local macro_rules | `(tactic| walk_at "dv") => `(tactic| first | exact ⟨by decide, by decide⟩ | exact ⟨by omega, by omega⟩)
local macro_rules | `(tactic| walk_at "r1") => `(tactic| first
  | refine ⟨_, rfl, ?_⟩ | refine ⟨_, _, rfl, rfl, ?_⟩ | refine Or.inl ⟨_, rfl, ?_⟩ | refine Or.inr ⟨_, rfl, ?_⟩
  | refine And.intro (a := CMul _ _) (by walk_at "cm") ?_ | refine And.intro (a := CDivN _ _) (by walk_at "dv") ?_ | refine And.intro (a := _ ≠ (0 : Int)) (by first | decide | omega) ?_ | refine And.intro (a := scal _ _ = true) rfl ?_ | refine ⟨_, _, _, _, rfl, rfl, SqL.of (by first | exact upd_same | assumption), rfl, ?_⟩ | refine ⟨_, _, _, _, rfl, rfl, (by first | exact upd_same | assumption), rfl, ?_⟩ | refine ⟨_, _, rfl, ?_⟩ | refine And.intro (a := (_ : V) = V.non) rfl ?_ | refine And.intro (a := CPow _ _) ⟨by decide, by decide, by decide⟩ ?_ | refine And.intro (a := (_ : List V) = []) rfl ?_ | refine ⟨_, _, rfl, SqT.of (by first | exact upd_same | assumption), rfl, ?_⟩
  | refine ⟨_, _, _, _, rfl, rfl, SqT.of (by first | exact upd_same | assumption), rfl, ?_⟩
  | refine ⟨_, _, _, _, true, rfl, ClsV.ty _, (by walk_at "ty"), kit_ty (by decide +kernel), ?_⟩ | refine ⟨_, _, _, _, false, rfl, ClsV.ty _, (by walk_at "ty"), kit_ty (by decide +kernel), ?_⟩)
local macro_rules | `(tactic| walk_at "rd") => `(tactic| repeat walk_at "r1")
local macro_rules | `(tactic| walk_at "yes") => `(tactic| (change (if true = true then _ else _); rw [if_pos rfl]))
local macro_rules | `(tactic| walk_at "no") => `(tactic| (change (if false = true then _ else _); rw [if_neg Bool.false_ne_true]))
local macro_rules | `(tactic| walk_at "nw") => `(tactic| refine And.intro (a := _ ≤ sizeLine) (sz_le (Nat.le_of_ble_eq_true rfl)) ?_)

section
variable {P : Program} {w : World} {K : PySem.W.Frag} {mg : Str → Option Value} {base : Heap}
variable {C_VaultError C_TooMany C_NumberError C_BadPrime C_NoInverse C_NoNumber C_BadTable C_BadCells C_TextError C_ShapeError C_PlanError C_CourseError C_KnowError C_PaperError C_BadStep C_BadBlind C_BadMove C_NotShut C_NotOpen C_NotTheft C_NotPrice fV fI_BadMove fI_BadCells : Addr}
variable (T : Txt P K mg C_VaultError C_TooMany C_NumberError C_BadPrime C_NoInverse C_NoNumber C_BadTable C_BadCells C_TextError C_ShapeError C_PlanError C_CourseError C_KnowError C_PaperError C_BadStep C_BadBlind C_BadMove C_NotShut C_NotOpen C_NotTheft C_NotPrice fV fI_BadMove fI_BadCells)
include T
/-- small numbers in a move -/
def smM : Mv → Prop
  | .up a b => (0 ≤ a ∧ a ≤ 127) ∧ 0 ≤ b ∧ b ≤ 127
  | .read a => 0 ≤ a ∧ a ≤ 127
  | .bad => False
omit T in
theorem Best.small {n c : Nat} {o f : Int} {ms : List Mv} (x : Best n c o f ms) : 0 ≤ o → o ≤ 127 → 0 ≤ f → f + c ≤ 127 → ∀ m ∈ ms, smM m := by
  induction x with
  | nil c o f => exact fun _ _ _ _ m h => nomatch h
  | last n s o f ys h b ih =>
    intro o0 o1 f0 f1 m hm
    simp only [List.mem_cons, List.mem_append] at hm
    rcases hm with rfl | hm | rfl | hm
    · exact ⟨⟨o0, o1⟩, f0, by omega⟩
    · obtain rfl := List.eq_of_mem_replicate hm
      exact ⟨⟨f0, by omega⟩, f0, by omega⟩
    · exact ⟨f0, by omega⟩
    · exact ih o0 o1 f0 f1 m hm
  | more n c s o f xs ys h a b iha ihb =>
    intro o0 o1 f0 f1 m hm
    simp only [List.mem_cons, List.mem_append] at hm
    rcases hm with rfl | hm | hm | rfl | hm
    · exact ⟨⟨o0, o1⟩, f0, by omega⟩
    · obtain rfl := List.eq_of_mem_replicate hm
      exact ⟨⟨f0, by omega⟩, f0, by omega⟩
    · exact iha f0 (by omega) (by omega) (by omega) m hm
    · exact ⟨f0, by omega⟩
    · exact ihb o0 o1 f0 f1 m hm
omit T in
theorem IsU.it {st : Addr} {H : Hp} {v : V} {m : Mv} (h : IsU H v m) (s : smM m) : It1 st H v := by
  cases h with
  | up t a b h =>
    obtain ⟨⟨a0, a1⟩, b0, b1⟩ := s
    exact (UR.up h a0 a1 b0 b1).it
  | read t a h => exact (UR.read h s.1 s.2).it
omit T in
theorem IsUs.it {st : Addr} {H : Hp} {xs : List V} {ms : List Mv} (h : Paired (IsU H) xs ms) (s : ∀ m ∈ ms, smM m) : ∀ x ∈ xs, It1 st H x := by
  induction h with
  | nil => exact fun _ h => nomatch h
  | cons a _ ih =>
    intro x hx
    rcases List.mem_cons.mp hx with rfl | hx
    · exact a.it (s _ List.mem_cons_self)
    · exact ih (fun m hm => s m (List.mem_cons_of_mem _ hm)) x hx
omit T in
theorem IsU.same {H : Hp} {v v' : V} {m : Mv} (h : IsU H v m) (k : IsU H v' m) : SameD H 2 v v' := by
  cases h with
  | up t a b h =>
    cases k with
    | up t' _ _ k => exact .tup h k (by show 3 ≤ 100000; decide) (.cons (sameD_flat rfl) (.cons (sameD_flat rfl) (.cons (sameD_flat rfl) .nil)))
  | read t a h =>
    cases k with
    | read t' _ k => exact .tup h k (by show 2 ≤ 100000; decide) (.cons (sameD_flat rfl) (.cons (sameD_flat rfl) .nil))
omit T in
theorem IsUs.same {H : Hp} {xs : List V} {ms : List Mv} (h : Paired (IsU H) xs ms) : ∀ {ys}, Paired (IsU H) ys ms → Paired (SameD H 2) xs ys := by
  induction h with
  | nil =>
    intro ys k
    cases k
    exact .nil
  | cons a _ ih =>
    intro ys k
    cases k with
    | cons b k => exact .cons (a.same b) (ih k)
omit T in
theorem IsUs.isMs {H : Hp} {xs : List V} {ms : List Mv} (h : Paired (IsU H) xs ms) : IsMs H xs ms := by
  unfold IsMs
  induction h with
  | nil => exact .nil
  | cons a _ ih => exact .cons a.isM ih
def spListR : Sp := fun vs H Q _ => ∃ (st : Addr) (a b : Int), vs = [.ref st, .int a, .int b] ∧ ∃ n c : Nat, (a = n ∧ b = (c + 1 : Nat)) ∧ n ≤ 120 ∧ c < 120 ∧ Store H st ∧ ∀ H', Store H' st → ButS st H H' → Q (.bl true) H'
theorem ok_listright {f : Addr} {fd : FuncData} (F : Fun K "_law_listright" "_law_listright" s_listright f fd) {f_listof : Addr} {fd_listof : FuncData} (D_listof : Def K mg "_law_listof" s_listof p_listof f_listof fd_listof) (G_listof : FnOk P w K mg base CX0 3 f_listof fd_listof p_listof spListOf) {f_move_list : Addr} {fd_move_list : FuncData} (D_move_list : Def K mg "move_list" s_move_list p_move_list f_move_list fd_move_list) (G_move_list : FnOk P w K mg base (L2N.CX P w) 131 f_move_list fd_move_list p_move_list (spR C_BadCells spMoves)) {f_same : Addr} {fd_same : FuncData} (D_same : Def K mg "_law_same" s_same p_same f_same fd_same) (G_same : FnOk P w K mg base CX0 6 f_same fd_same p_same (spSame 6)) {f_said : Addr} {fd_said : FuncData} (D_said : Def K mg "_law_said" s_said p_said f_said fd_said) (G_said : FnOk P w K mg base CX0 132 f_said fd_said p_said spSaid) {f_leastups : Addr} {fd_leastups : FuncData} (D_leastups : Def K mg "_law_leastups" s_leastups p_leastups f_leastups fd_leastups) (G_leastups : FnOk P w K mg base CX0 1 f_leastups fd_leastups p_leastups spUps) {f_movesbent : Addr} {fd_movesbent : FuncData} (D_movesbent : Def K mg "_law_movesbent" s_movesbent p_movesbent f_movesbent fd_movesbent) (G_movesbent : FnOk P w K mg base CX0 4 f_movesbent fd_movesbent p_movesbent spBent) {f_playsright : Addr} {fd_playsright : FuncData} (D_playsright : Def K mg "_law_playsright" s_playsright p_playsright f_playsright fd_playsright) (G_playsright : FnG P w K mg base 133 f_playsright fd_playsright p_playsright spPlays) : FnG P w K mg base 134 f fd p_listright spListR := by
  refine F.okG sc_listright (fun vs H Q E h => ?_) (fun cdv A outer s H vs Q E gd hr h => ?_)
  · obtain ⟨st, a, b, rfl, _⟩ := h
    rfl
  · obtain ⟨st, _, _, rfl, n, c, ⟨rfl, rfl⟩, hn, hc, S, q⟩ := h
    refine ⟨_, (pss_cons (ps_set (i := 3) sc_listright.nd rfl (Or.inl rfl) (by exact (pe_call G_listof (hr.mono (by first | decide | omega)) rfl D_listof.g D_listof.fn.kp D_listof.b .nil pass0 (pa_cons (pv 1) (pa_cons (pv 2) pa_nil)))))
      (pss_cons (ps_set (i := 4) sc_listright.nd rfl (Or.inl rfl) (by exact (pe_call G_move_list (hr.mono (by first | decide | omega)) rfl D_move_list.g D_move_list.fn.kp D_move_list.b .nil passF (pa_cons (pv 1) (pa_cons (pv 2) pa_nil)))))
      (pss_cons (ps_if (PW.pt (pw_or (pt_not (pt_val (pe_call G_same (hr.mono (by first | decide | omega)) rfl D_same.g D_same.fn.kp D_same.b .nil pass0 (pa_cons (pv 4) (pa_cons (pv 3) pa_nil))))) (pw_or1 (pt_not (pt_val (pe_call G_same (hr.mono (by first | decide | omega)) rfl D_same.g D_same.fn.kp D_same.b .nil pass0 (pa_cons (pe_call G_said (hr.mono (by first | decide | omega)) rfl D_said.g D_said.fn.kp D_said.b .nil pass0 (pa_cons (pv 1) (pa_cons (pv 2) (pa_cons (pv 3) pa_nil)))) (pa_cons (pe_tup (pa_cons pe_bl (pa_cons (pe_call G_leastups (hr.mono (by first | decide | omega)) rfl D_leastups.g D_leastups.fn.kp D_leastups.b .nil pass0 (pa_cons (pv 1) (pa_cons (pv 2) pa_nil))) pa_nil))) pa_nil)))))))) (pss_one (ps_ret (by exact pe_bl))) pss_nil)
      (pss_cons (ps_expr (pe_bm PySem.F.plainAttrs_list PySem.F.slot_list_append PySem.F.type_list_append mt_append (pv 4) (pa_cons (pe_tup (pa_cons pe_str (pa_cons pe_int pa_nil))) pa_nil)))
      (pss_one (ps_ret (by exact (pe_and (pe_call G_same (hr.mono (by first | decide | omega)) rfl D_same.g D_same.fn.kp D_same.b .nil pass0 (pa_cons (pe_call G_move_list (hr.mono (by first | decide | omega)) rfl D_move_list.g D_move_list.fn.kp D_move_list.b .nil passF (pa_cons (pv 1) (pa_cons (pv 2) pa_nil))) (pa_cons (pv 3) pa_nil))) (pe_one (pe_callG G_playsright gd (hr.mono (by first | decide | omega)) rfl D_playsright.g D_playsright.fn.kp D_playsright.b (pa_cons (pv 1) (pa_cons (pv 2) (pa_cons (pe_call G_movesbent (hr.mono (by first | decide | omega)) rfl D_movesbent.g D_movesbent.fn.kp D_movesbent.b .nil pass0 (pa_cons (pv 0) (pa_cons (pv 3) (pa_cons (pv 2) pa_nil)))) pa_nil))))))))))))), ?_⟩
    walk_at "rd"
    refine ⟨n, c, ⟨rfl, rfl⟩, hn, hc, fun d zs ms H1 s1 hd e1 u1 b1 => ?_⟩
    have hlen := b1.len
    have hT := T_small (c := c) hn
    have hml : ms.length ≤ 14640 := by omega
    have hzl : zs.length = ms.length := u1.length
    have S1 := S.keep s1
    have nd : d ≠ st := Store.ne S hd
    walk_at "rd"
    refine .inl ⟨n, c, ⟨rfl, rfl⟩, hn, hc, fun l2 zs2 ms2 H2 s2 hl2 e2 u2 b2 => ?_⟩
    obtain rfl := b1.uniq b2
    have hzl2 : zs2.length = ms.length := u2.length
    have nl : l2 ≠ d := fun z => by
      rw [z, e1] at hl2
      cases hl2
    walk_at "rd"
    have u1' := IsUs.tk u1 (TK.of s2)
    refine ⟨SameD.le (SameD.lst e2 (s2 _ _ e1) (by omega) (IsUs.same u2 u1')) (by decide), ?_⟩
    walk_at "rd"
    try dsimp only [tNil, List.cons_append, List.nil_append]
    have vd := b1.verdict
    refine ⟨n, .int ((c + 1 : Nat) : Int), .ref d, rfl, .inr (.inl ⟨((c + 1 : Nat) : Int), ⟨rfl, by omega, by omega, by omega, by omega⟩, d, zs, ms, rfl, .inl (s2 _ _ e1), by omega, IsUs.isMs u1', fun k t H3 hv s3 e3 => ?_, fun j t u H3 hv s3 e3 e4 => ?_⟩)⟩
    · rw [vd] at hv
      cases hv
      walk_at "rd"
      refine ⟨n, c, ⟨rfl, rfl⟩, by omega, by omega, ?_⟩
      walk_at "rd"
      walk_at "nw"
      intro t2 ht2
      walk_at "rd"
      refine ⟨SameD.le (sameD_two (k := 1) (same_new ht2 _ _ e3) upd_same (sameD_flat rfl) (sameD_flat rfl)) (by decide), ?_⟩
      generalize hg : upd H3 t2 _ = H4
      have s14 : Same H1 H4 := by
        rw [← hg]
        exact (s2.trans s3).trans (same_new ht2)
      have s24 : Same H2 H4 := by
        rw [← hg]
        exact s3.trans (same_new ht2)
      clear hg ht2 e3 s3 vd u1'
      walk_at "rd"
      refine ⟨.inl ⟨rfl, _, SqL.of (s24 _ _ e2)⟩, ?_⟩
      walk_at "rd"
      walk_at "nw"
      intro t3 ht3
      have s15 : Same H1 (upd H4 t3 (.tup [.str "read", .int 1])) := s14.trans (same_new ht3)
      have e25 := (s24.trans (same_new (o := .tup [.str "read", .int 1]) ht3)) _ _ e2
      refine ⟨l2, _, _, rfl, rfl, e25, sz_lt (by omega), ?_⟩
      obtain ⟨S6, b6⟩ := ButS.mutAway (o := .lst (zs2 ++ [.ref t3])) S1 (.of s15) hl2 (S1.keep s15)
      have d6 : (upd (upd H4 t3 (.tup [.str "read", .int 1])) l2 (.lst (zs2 ++ [.ref t3]))) d = some (.lst zs) := by
        rw [upd_ne (Ne.symm nl)]
        exact s15 _ _ e1
      have u6 := IsUs.tk u1 ((TK.of s15).trans (TK.mut (o := .lst (zs2 ++ [.ref t3])) e25))
      generalize upd (upd H4 t3 _) l2 _ = H6 at S6 b6 d6 u6 ⊢
      clear e25 s15 s14 s24 ht3 e2 u2 s2 hl2
      walk_at "rd"
      refine .inl ⟨n, c, ⟨rfl, rfl⟩, hn, hc, fun l3 zs3 ms3 H7 s7 hl3 e7 u7 b7 => ?_⟩
      obtain rfl := b1.uniq b7
      have hzl3 : zs3.length = ms.length := u7.length
      have d7 := s7 _ _ d6
      have S7 := S6.keep s7
      have u67 := IsUs.tk u6 (TK.of s7)
      walk_at "rd"
      refine ⟨SameD.le (SameD.lst e7 d7 (by omega) (IsUs.same u7 u67)) (by decide), ?_⟩
      walk_at "rd"
      have small := b1.small (Int.le_refl 0) (by decide) (by decide) (by omega)
      refine ⟨st, d, _, rfl, by omega, by omega, zs, d7, nd, IsUs.it u67 small, by omega, S7, fun l' ys H8 hl8 hn8 it8 len8 S8 b8 => ?_⟩
      walk_at "rd"
      refine ⟨n, _, l', rfl, ⟨by omega, by omega, by omega, by omega⟩, st, ys, hl8, by omega, it8, fun H9 s9 => ?_⟩
      exact q H9 (S8.keep s9) ((((ButS.of s1).trans b6).trans (.of s7)).trans (b8.trans (.of s9)))
    · rw [vd] at hv
      cases hv
end
end K12

set_option Elab.async false
set_option linter.all false
set_option maxRecDepth 100000
set_option maxHeartbeats 4000000
set_option pp.deepTerms false
set_option pp.deepTerms.threshold 12
namespace K12
open PySem PySem.Spec PyProof.Rows L2
local macro_rules | `(tactic| walk_at "ty") => `(tactic| first | exact .base (.int _) | exact .base (.bl _) | exact .base (.str _) | exact .base .non | assumption | exact .base (.tup (by assumption)) | exact .base (.lst (by assumption)))
local macro_rules | `(tactic| walk_at "cm") => `(tactic| first | exact cm_r (by decide) (by decide) | exact cm_l (by decide) (by decide) | exact cm_fmod (by decide) (by decide) | exact cm_r (by omega) (by omega) | exact cm_l (by omega) (by omega))
local macro_rules | `(tactic| walk_at "dv") => `(tactic| first | exact ⟨by decide, by decide⟩ | exact ⟨by omega, by omega⟩)
local macro_rules | `(tactic| walk_at "r1") => `(tactic| first
  | refine ⟨_, rfl, ?_⟩ | refine ⟨_, _, rfl, rfl, ?_⟩ | refine Or.inl ⟨_, rfl, ?_⟩ | refine Or.inr ⟨_, rfl, ?_⟩
  | refine And.intro (a := CMul _ _) (by walk_at "cm") ?_ | refine And.intro (a := CDivN _ _) (by walk_at "dv") ?_ | refine And.intro (a := _ ≠ (0 : Int)) (by first | decide | omega) ?_ | refine And.intro (a := scal _ _ = true) rfl ?_ | refine ⟨_, _, _, _, rfl, rfl, SqL.of (by first | exact upd_same | assumption), rfl, ?_⟩ | refine ⟨_, _, _, _, rfl, rfl, (by first | exact upd_same | assumption), rfl, ?_⟩ | refine ⟨_, _, rfl, ?_⟩ | refine And.intro (a := (_ : V) = V.non) rfl ?_ | refine And.intro (a := CPow _ _) ⟨by decide, by decide, by decide⟩ ?_ | refine And.intro (a := (_ : List V) = []) rfl ?_ | refine ⟨_, _, rfl, SqT.of (by first | exact upd_same | assumption), rfl, ?_⟩
  | refine ⟨_, _, _, _, rfl, rfl, SqT.of (by first | exact upd_same | assumption), rfl, ?_⟩
  | refine ⟨_, _, _, _, true, rfl, ClsV.ty _, (by walk_at "ty"), kit_ty (by decide +kernel), ?_⟩ | refine ⟨_, _, _, _, false, rfl, ClsV.ty _, (by walk_at "ty"), kit_ty (by decide +kernel), ?_⟩)
local macro_rules | `(tactic| walk_at "rd") => `(tactic| repeat walk_at "r1")
local macro_rules | `(tactic| walk_at "yes") => `(tactic| (change (if true = true then _ else _); rw [if_pos rfl]))
local macro_rules | `(tactic| walk_at "no") => `(tactic| (change (if false = true then _ else _); rw [if_neg Bool.false_ne_true]))
local macro_rules | `(tactic| walk_at "nw") => `(tactic| refine And.intro (a := _ ≤ sizeLine) (sz_le (Nat.le_of_ble_eq_true rfl)) ?_)

section
variable {P : Program} {w : World} {K : PySem.W.Frag} {mg : Str → Option Value} {base : Heap}
variable {C_VaultError C_TooMany C_NumberError C_BadPrime C_NoInverse C_NoNumber C_BadTable C_BadCells C_TextError C_ShapeError C_PlanError C_CourseError C_KnowError C_PaperError C_BadStep C_BadBlind C_BadMove C_NotShut C_NotOpen C_NotTheft C_NotPrice fV fI_BadMove fI_BadCells : Addr}
variable (T : Txt P K mg C_VaultError C_TooMany C_NumberError C_BadPrime C_NoInverse C_NoNumber C_BadTable C_BadCells C_TextError C_ShapeError C_PlanError C_CourseError C_KnowError C_PaperError C_BadStep C_BadBlind C_BadMove C_NotShut C_NotOpen C_NotTheft C_NotPrice fV fI_BadMove fI_BadCells)
include T
local macro_rules | `(tactic| walk_at "sm") => `(tactic| repeat first | exact SA.n | refine SA.c (by first | decide +kernel | exact sm_int (by omega) (by omega) | rfl) ?_)
/-- a list of moves that may be asked -/
def LM (st : Addr) (H : Hp) (l : Addr) (k : Nat) : Prop := ∃ xs : List V, H l = some (.lst xs) ∧ l ≠ st ∧ (∀ x ∈ xs, It1 st H x) ∧ xs.length ≤ k
omit T in
theorem LM.keep {st l : Addr} {k : Nat} {H H' : Hp} (h : LM st H l k) (S : Store H st) (b : ButS st H H') : LM st H' l k := by
  obtain ⟨xs, e, n, i, z⟩ := h
  exact ⟨xs, b.1 _ _ n e, n, fun x hx => (i x hx).keep S b, z⟩
omit T in
theorem LM.le {st l : Addr} {k m : Nat} {H : Hp} (h : LM st H l k) (hk : k ≤ m) : LM st H l m := by
  obtain ⟨xs, e, n, i, z⟩ := h
  exact ⟨xs, e, n, i, Nat.le_trans z hk⟩
omit T in
theorem LM.new {st l : Addr} {k : Nat} {H : Hp} {xs : List V} (S : Store H st) (hl : H l = none) (i : ∀ x ∈ xs, It1 st H x) (z : xs.length ≤ k) : LM st (upd H l (.lst xs)) l k :=
  ⟨xs, upd_same, Store.ne S hl, fun x hx => (i x hx).same (same_new hl), z⟩
omit T in
theorem LM.bent {st l : Addr} {k : Nat} {H : Hp} {c : Int} {Q : VK} {E : XK} (h : LM st H l k) (hk : k ≤ 19000) (c0 : 1 ≤ c) (c1 : c ≤ 120) (S : Store H st) (q : ∀ l' H', LM st H' l' (k + 1) → Store H' st → ButS st H H' → Q (.ref l') H') : spBent [.ref st, .ref l, .int c] H Q E := by
  obtain ⟨xs, e, n, i, z⟩ := h
  exact ⟨st, l, c, rfl, c0, c1, xs, e, n, i, by omega, S, fun l' ys H' e' h0 i' z' S' b' => q l' H' ⟨ys, e', Store.ne S h0, i', by omega⟩ S' b'⟩
omit T in
theorem LM.plays {st l : Addr} {k : Nat} {H : Hp} {n c : Int} {Q : VK} {E : XK} (h : LM st H l k) (hk : k ≤ 20000) (n0 : 0 ≤ n) (n1 : n ≤ 120) (c0 : 1 ≤ c) (c1 : c ≤ 120) (q : ∀ H', Same H H' → Q (.bl true) H') : spPlays [.int n, .int c, .ref l] H Q E := by
  obtain ⟨xs, e, ne, i, z⟩ := h
  exact ⟨n, c, l, rfl, ⟨n0, n1, c0, c1⟩, st, xs, e, by omega, i, q⟩
def spLaw (K : PySem.W.Frag) : Sp := fun vs H Q _ => ∃ (a : Addr) (ns : List Int), vs = [.ref a] ∧ SqL K H a (ns.map V.int) ∧ ∀ H', Q (.bl true) H'
theorem ok_law {f : Addr} {fd : FuncData} (F : Fun K "law" "law" s_law f fd) {f_store : Addr} {fd_store : FuncData} (D_store : Def K mg "_law_store" s_store p_store f_store fd_store) (G_store : FnOk P w K mg base CX0 1 f_store fd_store p_store (spStore K)) {f_length : Addr} {fd_length : FuncData} (D_length : Def K mg "_law_length" s_length p_length f_length fd_length) (G_length : FnOk P w K mg base CX0 4 f_length fd_length p_length spLen) {f_odds : Addr} {fd_odds : FuncData} (D_odds : Def K mg "_law_odds" s_odds p_odds f_odds fd_odds) (G_odds : FnOk P w K mg base CX0 3 f_odds fd_odds p_odds spOdds) {f_cellcount : Addr} {fd_cellcount : FuncData} (D_cellcount : Def K mg "_law_cellcount" s_cellcount p_cellcount f_cellcount fd_cellcount) (G_cellcount : FnOk P w K mg base CX0 4 f_cellcount fd_cellcount p_cellcount spLen) {f_listright : Addr} {fd_listright : FuncData} (D_listright : Def K mg "_law_listright" s_listright p_listright f_listright fd_listright) (G_listright : FnG P w K mg base 134 f_listright fd_listright p_listright spListR) {f_moves : Addr} {fd_moves : FuncData} (D_moves : Def K mg "_law_moves" s_moves p_moves f_moves fd_moves) (G_moves : FnOk P w K mg base CX0 45 f_moves fd_moves p_moves (spMv 41)) {f_movesbent : Addr} {fd_movesbent : FuncData} (D_movesbent : Def K mg "_law_movesbent" s_movesbent p_movesbent f_movesbent fd_movesbent) (G_movesbent : FnOk P w K mg base CX0 4 f_movesbent fd_movesbent p_movesbent spBent) {f_take : Addr} {fd_take : FuncData} (D_take : Def K mg "_law_take" s_take p_take f_take fd_take) (G_take : FnOk P w K mg base CX0 2 f_take fd_take p_take spTake) {f_playsright : Addr} {fd_playsright : FuncData} (D_playsright : Def K mg "_law_playsright" s_playsright p_playsright f_playsright fd_playsright) (G_playsright : FnG P w K mg base 133 f_playsright fd_playsright p_playsright spPlays) {f_badcells : Addr} {fd_badcells : FuncData} (D_badcells : Def K mg "_law_badcells" s_badcells p_badcells f_badcells fd_badcells) (G_badcells : FnOk P w K mg base CX0 4 f_badcells fd_badcells p_badcells spBad) {f_said : Addr} {fd_said : FuncData} (D_said : Def K mg "_law_said" s_said p_said f_said fd_said) (G_said : FnOk P w K mg base CX0 132 f_said fd_said p_said spSaid) {f_same : Addr} {fd_same : FuncData} (D_same : Def K mg "_law_same" s_same p_same f_same fd_same) (G_same : FnOk P w K mg base CX0 6 f_same fd_same p_same (spSame 6)) : FnG P w K mg base 135 f fd p_law (spLaw K) := by
  refine F.okG sc_law (fun vs H Q E h => ?_) (fun cdv A outer s H vs Q E gd hr h => ?_)
  · obtain ⟨a, ns, rfl, _⟩ := h
    rfl
  · obtain ⟨a, ns, rfl, hS, q⟩ := h
    refine ⟨_, (pss_cons (ps_set (i := 1) sc_law.nd rfl (Or.inl rfl) (by exact (pe_call G_store (hr.mono (by first | decide | omega)) rfl D_store.g D_store.fn.kp D_store.b .nil pass0 (pa_cons (pv 0) pa_nil))))
      (pss_cons (ps_set (i := 2) sc_law.nd rfl (Or.inl rfl) (by exact (pe_op op_sub (pe_call G_length (hr.mono (by first | decide | omega)) rfl D_length.g D_length.fn.kp D_length.b .nil pass0 (pa_cons (pv 1) pa_nil)) (pe_callTy call_int1 (by rfl) T.b_int (by first | exact PySem.boot_int | decide +kernel) (pa_cons (pe_call G_odds (hr.mono (by first | decide | omega)) rfl D_odds.g D_odds.fn.kp D_odds.b .nil pass0 (pa_cons (pv 1) (pa_cons pe_int pa_nil))) pa_nil)))))
      (pss_cons (ps_set (i := 3) sc_law.nd rfl (Or.inl rfl) (by exact (pe_call G_cellcount (hr.mono (by first | decide | omega)) rfl D_cellcount.g D_cellcount.fn.kp D_cellcount.b .nil pass0 (pa_cons (pv 1) pa_nil))))
      (pss_mid (ps_if (pt_not (pt_val (pe_callG G_listright gd (hr.mono (by first | decide | omega)) rfl D_listright.g D_listright.fn.kp D_listright.b (pa_cons (pv 1) (pa_cons (pv 2) (pa_cons (pv 3) pa_nil)))))) (pss_one (ps_ret (by exact pe_bl))) pss_nil)
      (pss_cons (ps_set (i := 4) sc_law.nd rfl (Or.inl rfl) (by exact (pe_callB (call_min2 rfl) (by rfl) T.b_min (by first | exact PySem.boot_min | decide +kernel) (pa_cons (pv 2) (pa_cons pe_int pa_nil)))))
      (pss_cons (ps_set (i := 5) sc_law.nd rfl (Or.inl rfl) (by exact (pe_call G_moves (hr.mono (by first | decide | omega)) rfl D_moves.g D_moves.fn.kp D_moves.b .nil pass0 (pa_cons (pv 1) (pa_cons (pv 4) (pa_cons pe_int (pa_cons pe_int (pa_cons (pv 3) pa_nil))))))))
      (pss_cons (ps_set (i := 6) sc_law.nd rfl (Or.inl rfl) (by exact (pe_call G_movesbent (hr.mono (by first | decide | omega)) rfl D_movesbent.g D_movesbent.fn.kp D_movesbent.b .nil pass0 (pa_cons (pv 1) (pa_cons (pv 5) (pa_cons (pv 3) pa_nil))))))
      (pss_cons (ps_set (i := 7) sc_law.nd rfl (Or.inl rfl) (by exact (pe_lst (pa_cons (pv 5) (pa_cons (pv 6) (pa_cons (pe_call G_movesbent (hr.mono (by first | decide | omega)) rfl D_movesbent.g D_movesbent.fn.kp D_movesbent.b .nil pass0 (pa_cons (pv 1) (pa_cons (pv 5) (pa_cons (pv 3) pa_nil)))) (pa_cons (pe_call G_movesbent (hr.mono (by first | decide | omega)) rfl D_movesbent.g D_movesbent.fn.kp D_movesbent.b .nil pass0 (pa_cons (pv 1) (pa_cons (pv 6) (pa_cons (pv 3) pa_nil)))) (pa_cons (pe_slice sl_list (pv 5) po_none (po_some (pe_un un_neg pe_int))) (pa_cons (pe_lst pa_nil) pa_nil)))))))))
      (pss_cons (ps_set (i := 7) sc_law.nd rfl (Or.inl rfl) (by exact (pe_op op_cat (pv 7) (pe_lst (pa_cons (pe_op op_cat (pv 5) (pe_lst (pa_cons (pe_tup (pa_cons pe_str (pa_cons pe_int pa_nil))) pa_nil))) (pa_cons (pe_op op_cat (pv 5) (pe_lst (pa_cons (pe_tup (pa_cons pe_str (pa_cons pe_int (pa_cons pe_int pa_nil)))) pa_nil))) (pa_cons (pe_slice sl_list (pv 5) po_none (po_some (pe_call G_take (hr.mono (by first | decide | omega)) rfl D_take.g D_take.fn.kp D_take.b .nil pass0 (pa_cons (pv 1) (pa_cons (pe_op op_add (pe_callB call_len_seq (by rfl) T.b_len (by first | exact PySem.boot_len | decide +kernel) (pa_cons (pv 5) pa_nil)) pe_int) pa_nil))))) pa_nil)))))))
      (pss_mid (ps_for PassesOwn.never rfl (pi_list (pv 7)) (pg_name (i := 8) sc_law.nd rfl (Or.inl rfl)) (pss_one (ps_if (pt_not (pt_val (pe_callG G_playsright gd (hr.mono (by first | decide | omega)) rfl D_playsright.g D_playsright.fn.kp D_playsright.b (pa_cons (pv 4) (pa_cons (pv 3) (pa_cons (pv 8) pa_nil)))))) (pss_one (ps_ret (by exact pe_bl))) pss_nil)))
      (pss_cons (ps_set (i := 9) sc_law.nd rfl (Or.inl rfl) (by exact (pe_lst (pa_cons (pe_tup (pa_cons pe_str (pa_cons pe_int (pa_cons pe_int pa_nil)))) (pa_cons (pe_tup (pa_cons pe_str (pa_cons pe_int pa_nil))) pa_nil)))))
      (pss_mid (ps_if (PW.pt (pw_or (pt_not (pt_val (pe_callG G_playsright gd (hr.mono (by first | decide | omega)) rfl D_playsright.g D_playsright.fn.kp D_playsright.b (pa_cons pe_int (pa_cons (pv 3) (pa_cons (pe_lst pa_nil) pa_nil)))))) (pw_or (pt_not (pt_val (pe_callG G_playsright gd (hr.mono (by first | decide | omega)) rfl D_playsright.g D_playsright.fn.kp D_playsright.b (pa_cons pe_int (pa_cons (pv 3) (pa_cons (pv 9) pa_nil)))))) (pw_or1 (pt_not (pt_val (pe_callG G_playsright gd (hr.mono (by first | decide | omega)) rfl D_playsright.g D_playsright.fn.kp D_playsright.b (pa_cons pe_int (pa_cons (pv 3) (pa_cons (pv 9) pa_nil)))))))))) (pss_one (ps_ret (by exact pe_bl))) pss_nil)
      (pss_cons (ps_set (i := 10) sc_law.nd rfl (Or.inl rfl) (by exact (pe_lst (pa_cons (pe_lst (pa_cons (pe_tup (pa_cons pe_str (pa_cons pe_bl (pa_cons pe_int pa_nil)))) (pa_cons (pe_tup (pa_cons pe_str (pa_cons pe_int pa_nil))) pa_nil))) (pa_cons (pe_lst (pa_cons (pe_tup (pa_cons pe_str (pa_cons pe_int (pa_cons pe_bl pa_nil)))) (pa_cons (pe_tup (pa_cons pe_str (pa_cons pe_int pa_nil))) pa_nil))) (pa_cons (pe_lst (pa_cons (pe_tup (pa_cons pe_str (pa_cons pe_int (pa_cons pe_int pa_nil)))) (pa_cons (pe_tup (pa_cons pe_str (pa_cons pe_bl pa_nil))) pa_nil))) pa_nil))))))
      (pss_mid (ps_for PassesOwn.never rfl (pi_list (pe_op op_cat (pv 10) (pe_lst (pa_cons (pv 9) pa_nil)))) (pg_name (i := 8) sc_law.nd rfl (Or.inl rfl)) (pss_one (ps_if (pt_not (pt_val (pe_callG G_playsright gd (hr.mono (by first | decide | omega)) rfl D_playsright.g D_playsright.fn.kp D_playsright.b (pa_cons pe_int (pa_cons pe_int (pa_cons (pv 8) pa_nil)))))) (pss_one (ps_ret (by exact pe_bl))) pss_nil)))
      (pss_cons (ps_set (i := 11) sc_law.nd rfl (Or.inr rfl) (by exact (pe_call G_badcells (hr.mono (by first | decide | omega)) rfl D_badcells.g D_badcells.fn.kp D_badcells.b .nil pass0 (pa_cons (pv 1) pa_nil))))
      (pss_cons (ps_set (i := 12) sc_law.nd rfl (Or.inl rfl) (by exact (pe_lst (pa_cons (pe_call G_said (hr.mono (by first | decide | omega)) rfl D_said.g D_said.fn.kp D_said.b .nil pass0 (pa_cons (pv 4) (pa_cons (pv 11) (pa_cons (pv 6) pa_nil)))) (pa_cons (pe_call G_said (hr.mono (by first | decide | omega)) rfl D_said.g D_said.fn.kp D_said.b .nil pass0 (pa_cons (pv 2) (pa_cons (pv 11) (pa_cons pe_non pa_nil)))) (pa_cons (pe_call G_said (hr.mono (by first | decide | omega)) rfl D_said.g D_said.fn.kp D_said.b .nil pass0 (pa_cons (pv 4) (pa_cons (pv 11) (pa_cons (pv 5) pa_nil)))) pa_nil))))))
      (pss_one (ps_ret (by exact (pe_call G_same (hr.mono (by first | decide | omega)) rfl D_same.g D_same.fn.kp D_same.b .nil pass0 (pa_cons (pv 12) (pa_cons (pe_lc (own := [("k", 13)]) (g := gName 13) rfl sc_law.nd (pi_range1 (by rfl) T.b_range (pa_cons pe_int pa_nil)) (blkOk_by (own := [("k", 13)]) (N := N_law) (sc := defScope s_law) (by decide +kernel)) (fun _ _ _ _ _ => pg_name (i := 13) sc_law.nd rfl (Or.inl rfl)) (fun _ _ _ _ _ => pts_nil) (fun _ _ _ _ _ => (pe_tup (pa_cons pe_bl (pa_cons (pe_tup (pa_cons pe_str (pa_cons (pv 11) pa_nil))) pa_nil))))) pa_nil)))))))))))))))))))))), ?_⟩
    walk_at "rd"
    refine ⟨a, ns, rfl, hS, fun st H1 S1 s1 hst => ?_⟩
    clear hS s1 hst
    walk_at "rd"
    refine ⟨S1, fun n0 H2 n01 n02 S2 b2 => ?_⟩
    clear b2 S1
    walk_at "rd"
    refine ⟨by decide, S2, fun b H3 S3 b3 => ?_⟩
    clear b3 S2
    walk_at "rd"
    refine ⟨S3, fun m H4 m1 m2 S4 b4 => ?_⟩
    clear b4 S3
    obtain ⟨n, hn, hn120⟩ : ∃ n : Nat, n0 - (if b = true then 1 else 0) = (n : Int) ∧ n ≤ 120 := by
      refine ⟨(n0 - (if b = true then 1 else 0)).toNat, ?_, ?_⟩ <;> split <;> omega
    obtain ⟨c, rfl, hc⟩ : ∃ c : Nat, m = ((c + 1 : Nat) : Int) ∧ c < 120 := ⟨(m - 1).toNat, by omega, by omega⟩
    clear m1 m2
    walk_at "rd"
    refine ⟨fun σ' H' => σ' = [some (.ref a), some (.ref st), some (.int n), some (.int ((c + 1 : Nat) : Int)), none, none, none, none, none, none, none, none, none, none] ∧ Store H' st, ?_, ?_⟩
    · walk_at "rd"
      refine ⟨st, _, _, rfl, n, c, ⟨hn, rfl⟩, hn120, hc, S4, fun H5 S5 b5 => ?_⟩
      walk_at "rd"
      refine ite2 (fun hc => absurd hc (by decide)) fun _ => ?_
      exact ⟨by rw [← hn]; rfl, S5⟩
    rintro σ' H5 ⟨rfl, S5⟩
    clear S4 hn n01 n02
    obtain ⟨size, hsz, hs40, hsn⟩ : ∃ size : Nat, (if (40 : Int) < (n : Int) then (40 : Int) else (n : Int)) = (size : Int) ∧ size ≤ 40 ∧ size ≤ 120 := by
      by_cases e : (40 : Int) < (n : Int)
      · exact ⟨40, if_pos e, Nat.le_refl _, by decide⟩
      · exact ⟨n, if_neg e, by omega, by omega⟩
    walk_at "rd"
    rw [hsz]
    refine ⟨st, size, 0, 1, _, rfl, ⟨by omega, by show (size : Int) ≤ ((40 : Nat) : Int); exact Int.ofNat_le.mpr hs40, by omega⟩, ⟨by decide, by decide, by decide, by omega, by omega, by omega⟩, S5, fun r xr H6 hr0 er ur zr S6 b6 => ?_⟩
    have nr : r ≠ st := Store.ne S5 hr0
    have Mr : LM st H6 r 1680 := ⟨xr, er, nr, fun x hx => (ur x hx).it, by omega⟩
    clear b6 S5 hr0 er ur zr
    have c0 : (1 : Int) ≤ ((c + 1 : Nat) : Int) := by omega
    have c1 : ((c + 1 : Nat) : Int) ≤ 120 := by omega
    walk_at "rd"
    try dsimp only [tNil, List.cons_append, List.nil_append]
    refine Mr.bent (by decide) c0 c1 S6 fun bt H7 Mb S7 b7 => ?_
    replace Mr := Mr.keep S6 b7
    clear b7 S6
    walk_at "rd"
    try dsimp only [tNil, List.cons_append, List.nil_append]
    refine Mr.bent (by decide) c0 c1 S7 fun b3 H8 M3 S8 b8 => ?_
    replace Mr := Mr.keep S7 b8
    replace Mb := Mb.keep S7 b8
    clear b8 S7
    walk_at "rd"
    try dsimp only [tNil, List.cons_append, List.nil_append]
    refine Mb.bent (by decide) c0 c1 S8 fun b4 H9 M4 S9 b9 => ?_
    replace Mr := Mr.keep S8 b9
    replace Mb := Mb.keep S8 b9
    replace M3 := M3.keep S8 b9
    clear b9 S8
    obtain ⟨xr, er, nr, ir, zr⟩ := id Mr
    walk_at "rd"
    refine ⟨r, xr, rfl, SqL.of er, fun sl hsl => ?_⟩
    generalize hg : upd H9 sl _ = H10
    have sa : Same H9 H10 := by
      rw [← hg]
      exact same_new hsl
    have nsl : sl ≠ st := Store.ne S9 hsl
    have Msl : LM st H10 sl 1680 := by
      rw [← hg]
      exact LM.new S9 hsl (fun x hx => ir x (cutV_mem hx)) (Nat.le_trans (cutV_length _ _ _) zr)
    clear hg hsl
    replace Mr := Mr.keep S9 (.of sa)
    replace Mb := Mb.keep S9 (.of sa)
    replace M3 := M3.keep S9 (.of sa)
    replace M4 := M4.keep S9 (.of sa)
    replace er := sa _ _ er
    have S10 := S9.keep sa
    clear sa S9
    clear ir
    walk_at "rd"
    walk_at "nw"
    intro em hem
    generalize hg : upd H10 em _ = H11
    have sa : Same H10 H11 := by
      rw [← hg]
      exact same_new hem
    have nem : em ≠ st := Store.ne S10 hem
    have Mem : LM st H11 em 0 := by
      rw [← hg]
      exact LM.new S10 hem (fun x hx => nomatch hx) (Nat.le_refl 0)
    clear hg hem
    replace Mr := Mr.keep S10 (.of sa)
    replace Mb := Mb.keep S10 (.of sa)
    replace M3 := M3.keep S10 (.of sa)
    replace M4 := M4.keep S10 (.of sa)
    replace Msl := Msl.keep S10 (.of sa)
    replace er := sa _ _ er
    have S11 := S10.keep sa
    clear sa S10
    walk_at "rd"
    walk_at "nw"
    intro td htd
    generalize hg : upd H11 td _ = H12
    have sa : Same H11 H12 := by
      rw [← hg]
      exact same_new htd
    have etd : H12 td = some (.lst [.ref r, .ref bt, .ref b3, .ref b4, .ref sl, .ref em]) := by
      rw [← hg]
      exact upd_same
    have ntd : td ≠ st := Store.ne S11 htd
    clear hg htd
    replace Mr := Mr.keep S11 (.of sa)
    replace Mb := Mb.keep S11 (.of sa)
    replace M3 := M3.keep S11 (.of sa)
    replace M4 := M4.keep S11 (.of sa)
    replace Msl := Msl.keep S11 (.of sa)
    replace Mem := Mem.keep S11 (.of sa)
    replace er := sa _ _ er
    have S12 := S11.keep sa
    clear sa S11
    walk_at "rd"
    walk_at "nw"
    intro ta hta
    generalize hg : upd H12 ta _ = H13
    have sa : Same H12 H13 := by
      rw [← hg]
      exact same_new hta
    have eta : H13 ta = some (.tup [.str "read", .int 1]) := by
      rw [← hg]
      exact upd_same
    have nta : ta ≠ st := Store.ne S12 hta
    clear hg hta
    replace Mr := Mr.keep S12 (.of sa)
    replace Mb := Mb.keep S12 (.of sa)
    replace M3 := M3.keep S12 (.of sa)
    replace M4 := M4.keep S12 (.of sa)
    replace Msl := Msl.keep S12 (.of sa)
    replace Mem := Mem.keep S12 (.of sa)
    replace er := sa _ _ er
    replace etd := sa _ _ etd
    have S13 := S12.keep sa
    clear sa S12
    walk_at "rd"
    walk_at "nw"
    intro la hla
    generalize hg : upd H13 la _ = H14
    have sa : Same H13 H14 := by
      rw [← hg]
      exact same_new hla
    have ela : H14 la = some (.lst [.ref ta]) := by
      rw [← hg]
      exact upd_same
    have nla : la ≠ st := Store.ne S13 hla
    clear hg hla
    replace Mr := Mr.keep S13 (.of sa)
    replace Mb := Mb.keep S13 (.of sa)
    replace M3 := M3.keep S13 (.of sa)
    replace M4 := M4.keep S13 (.of sa)
    replace Msl := Msl.keep S13 (.of sa)
    replace Mem := Mem.keep S13 (.of sa)
    replace er := sa _ _ er
    replace etd := sa _ _ etd
    replace eta := sa _ _ eta
    have S14 := S13.keep sa
    clear sa S13
    have it_r : ∀ x ∈ xr, It1 st H14 x := by
      obtain ⟨xs, e, _, i, _⟩ := id Mr
      rw [er] at e
      cases e
      exact i
    walk_at "rd"
    refine ⟨r, la, _, _, rfl, rfl, er, ela, sz_le (by show xr.length + 1 ≤ 100000; omega), fun ca hca => ?_⟩
    generalize hg : upd H14 ca _ = H15
    have sa : Same H14 H15 := by
      rw [← hg]
      exact same_new hca
    have nca : ca ≠ st := Store.ne S14 hca
    have Mca : LM st H15 ca 1681 := by
      rw [← hg]
      exact LM.new S14 hca (fun x hx => (List.mem_append.mp hx).elim (it_r x) fun z => by rw [List.mem_singleton.mp z]; exact (UR.read eta (by decide) (by decide)).it) (by rw [List.length_append]; exact Nat.succ_le_succ zr)
    clear hg hca
    replace Mr := Mr.keep S14 (.of sa)
    replace Mb := Mb.keep S14 (.of sa)
    replace M3 := M3.keep S14 (.of sa)
    replace M4 := M4.keep S14 (.of sa)
    replace Msl := Msl.keep S14 (.of sa)
    replace Mem := Mem.keep S14 (.of sa)
    replace er := sa _ _ er
    replace etd := sa _ _ etd
    replace eta := sa _ _ eta
    replace ela := sa _ _ ela
    have S15 := S14.keep sa
    clear sa S14
    clear it_r
    walk_at "rd"
    walk_at "nw"
    intro tb htb
    generalize hg : upd H15 tb _ = H16
    have sa : Same H15 H16 := by
      rw [← hg]
      exact same_new htb
    have etb : H16 tb = some (.tup [.str "up", .int 0, .int 1]) := by
      rw [← hg]
      exact upd_same
    have ntb : tb ≠ st := Store.ne S15 htb
    clear hg htb
    replace Mr := Mr.keep S15 (.of sa)
    replace Mb := Mb.keep S15 (.of sa)
    replace M3 := M3.keep S15 (.of sa)
    replace M4 := M4.keep S15 (.of sa)
    replace Msl := Msl.keep S15 (.of sa)
    replace Mem := Mem.keep S15 (.of sa)
    replace Mca := Mca.keep S15 (.of sa)
    replace er := sa _ _ er
    replace etd := sa _ _ etd
    replace eta := sa _ _ eta
    replace ela := sa _ _ ela
    have S16 := S15.keep sa
    clear sa S15
    walk_at "rd"
    walk_at "nw"
    intro lb hlb
    generalize hg : upd H16 lb _ = H17
    have sa : Same H16 H17 := by
      rw [← hg]
      exact same_new hlb
    have elb : H17 lb = some (.lst [.ref tb]) := by
      rw [← hg]
      exact upd_same
    have nlb : lb ≠ st := Store.ne S16 hlb
    clear hg hlb
    replace Mr := Mr.keep S16 (.of sa)
    replace Mb := Mb.keep S16 (.of sa)
    replace M3 := M3.keep S16 (.of sa)
    replace M4 := M4.keep S16 (.of sa)
    replace Msl := Msl.keep S16 (.of sa)
    replace Mem := Mem.keep S16 (.of sa)
    replace Mca := Mca.keep S16 (.of sa)
    replace er := sa _ _ er
    replace etd := sa _ _ etd
    replace eta := sa _ _ eta
    replace ela := sa _ _ ela
    replace etb := sa _ _ etb
    have S17 := S16.keep sa
    clear sa S16
    have it_r : ∀ x ∈ xr, It1 st H17 x := by
      obtain ⟨xs, e, _, i, _⟩ := id Mr
      rw [er] at e
      cases e
      exact i
    walk_at "rd"
    refine ⟨r, lb, _, _, rfl, rfl, er, elb, sz_le (by show xr.length + 1 ≤ 100000; omega), fun cb hcb => ?_⟩
    generalize hg : upd H17 cb _ = H18
    have sa : Same H17 H18 := by
      rw [← hg]
      exact same_new hcb
    have ncb : cb ≠ st := Store.ne S17 hcb
    have Mcb : LM st H18 cb 1681 := by
      rw [← hg]
      exact LM.new S17 hcb (fun x hx => (List.mem_append.mp hx).elim (it_r x) fun z => by rw [List.mem_singleton.mp z]; exact (UR.up etb (by decide) (by decide) (by decide) (by decide)).it) (by rw [List.length_append]; exact Nat.succ_le_succ zr)
    clear hg hcb
    replace Mr := Mr.keep S17 (.of sa)
    replace Mb := Mb.keep S17 (.of sa)
    replace M3 := M3.keep S17 (.of sa)
    replace M4 := M4.keep S17 (.of sa)
    replace Msl := Msl.keep S17 (.of sa)
    replace Mem := Mem.keep S17 (.of sa)
    replace Mca := Mca.keep S17 (.of sa)
    replace er := sa _ _ er
    replace etd := sa _ _ etd
    replace eta := sa _ _ eta
    replace ela := sa _ _ ela
    replace etb := sa _ _ etb
    replace elb := sa _ _ elb
    have S18 := S17.keep sa
    clear sa S17
    clear it_r
    walk_at "rd"
    refine ⟨r, xr, rfl, .inl (SqL.of er), ?_⟩
    walk_at "rd"
    refine ⟨by omega, S18, fun j H19 j0 j1 S19 ba => ?_⟩
    clear j0 j1
    replace Mr := Mr.keep S18 ba
    replace Mb := Mb.keep S18 ba
    replace M3 := M3.keep S18 ba
    replace M4 := M4.keep S18 ba
    replace Msl := Msl.keep S18 ba
    replace Mem := Mem.keep S18 ba
    replace Mca := Mca.keep S18 ba
    replace Mcb := Mcb.keep S18 ba
    replace er := ba.1 _ _ nr er
    replace etd := ba.1 _ _ ntd etd
    replace eta := ba.1 _ _ nta eta
    replace ela := ba.1 _ _ nla ela
    replace etb := ba.1 _ _ ntb etb
    replace elb := ba.1 _ _ nlb elb
    clear ba S18
    have it_r : ∀ x ∈ xr, It1 st H19 x := by
      obtain ⟨xs, e, _, i, _⟩ := id Mr
      rw [er] at e
      cases e
      exact i
    walk_at "rd"
    refine ⟨r, xr, rfl, SqL.of er, fun s2 hs2 => ?_⟩
    generalize hg : upd H19 s2 _ = H20
    have sa : Same H19 H20 := by
      rw [← hg]
      exact same_new hs2
    have ns2 : s2 ≠ st := Store.ne S19 hs2
    have Ms2 : LM st H20 s2 1680 := by
      rw [← hg]
      exact LM.new S19 hs2 (fun x hx => it_r x (cutV_mem hx)) (Nat.le_trans (cutV_length _ _ _) zr)
    clear hg hs2
    replace Mr := Mr.keep S19 (.of sa)
    replace Mb := Mb.keep S19 (.of sa)
    replace M3 := M3.keep S19 (.of sa)
    replace M4 := M4.keep S19 (.of sa)
    replace Msl := Msl.keep S19 (.of sa)
    replace Mem := Mem.keep S19 (.of sa)
    replace Mca := Mca.keep S19 (.of sa)
    replace Mcb := Mcb.keep S19 (.of sa)
    replace er := sa _ _ er
    replace etd := sa _ _ etd
    replace eta := sa _ _ eta
    replace ela := sa _ _ ela
    replace etb := sa _ _ etb
    replace elb := sa _ _ elb
    have S20 := S19.keep sa
    clear sa S19
    clear it_r
    clear eta nta
    clear ela nla
    clear etb ntb
    clear elb nlb
    walk_at "rd"
    walk_at "nw"
    intro tl htl
    generalize hg : upd H20 tl _ = H21
    have sa : Same H20 H21 := by
      rw [← hg]
      exact same_new htl
    have etl : H21 tl = some (.lst [.ref ca, .ref cb, .ref s2]) := by
      rw [← hg]
      exact upd_same
    have ntl : tl ≠ st := Store.ne S20 htl
    clear hg htl
    replace Mr := Mr.keep S20 (.of sa)
    replace Mb := Mb.keep S20 (.of sa)
    replace M3 := M3.keep S20 (.of sa)
    replace M4 := M4.keep S20 (.of sa)
    replace Msl := Msl.keep S20 (.of sa)
    replace Mem := Mem.keep S20 (.of sa)
    replace Mca := Mca.keep S20 (.of sa)
    replace Mcb := Mcb.keep S20 (.of sa)
    replace Ms2 := Ms2.keep S20 (.of sa)
    replace er := sa _ _ er
    replace etd := sa _ _ etd
    have S21 := S20.keep sa
    clear sa S20
    walk_at "rd"
    refine ⟨td, tl, _, _, rfl, rfl, etd, etl, sz_le (Nat.le_of_ble_eq_true rfl), fun t2 ht2 => ?_⟩
    generalize hg : upd H21 t2 _ = H22
    have sa : Same H21 H22 := by
      rw [← hg]
      exact same_new ht2
    have et2 : H22 t2 = some (.lst [.ref r, .ref bt, .ref b3, .ref b4, .ref sl, .ref em, .ref ca, .ref cb, .ref s2]) := by
      rw [← hg]
      exact upd_same
    have nt2 : t2 ≠ st := Store.ne S21 ht2
    clear hg ht2
    replace Mr := Mr.keep S21 (.of sa)
    replace Mb := Mb.keep S21 (.of sa)
    replace M3 := M3.keep S21 (.of sa)
    replace M4 := M4.keep S21 (.of sa)
    replace Msl := Msl.keep S21 (.of sa)
    replace Mem := Mem.keep S21 (.of sa)
    replace Mca := Mca.keep S21 (.of sa)
    replace Mcb := Mcb.keep S21 (.of sa)
    replace Ms2 := Ms2.keep S21 (.of sa)
    replace er := sa _ _ er
    replace etd := sa _ _ etd
    replace etl := sa _ _ etl
    have S22 := S21.keep sa
    clear sa S21
    clear etd
    clear etl
    clear er
    have allM : ∀ x ∈ ([.ref r, .ref bt, .ref b3, .ref b4, .ref sl, .ref em, .ref ca, .ref cb, .ref s2] : List V), ∃ l, x = .ref l ∧ LM st H22 l 20000 := by
      intro x hx
      simp only [List.mem_cons, List.mem_nil_iff, or_false] at hx
      rcases hx with rfl | rfl | rfl | rfl | rfl | rfl | rfl | rfl | rfl
      · exact ⟨_, rfl, Mr.le (by decide)⟩
      · exact ⟨_, rfl, Mb.le (by decide)⟩
      · exact ⟨_, rfl, M3.le (by decide)⟩
      · exact ⟨_, rfl, M4.le (by decide)⟩
      · exact ⟨_, rfl, Msl.le (by decide)⟩
      · exact ⟨_, rfl, Mem.le (by decide)⟩
      · exact ⟨_, rfl, Mca.le (by decide)⟩
      · exact ⟨_, rfl, Mcb.le (by decide)⟩
      · exact ⟨_, rfl, Ms2.le (by decide)⟩
    walk_at "rd"
    refine ⟨fun σ' H' => ∃ v8 : Option V, σ' = [some (.ref a), some (.ref st), some (.int n), some (.int ((c + 1 : Nat) : Int)), some (.int size), some (.ref r), some (.ref bt), some (.ref t2), v8, none, none, none, none, none] ∧ Same H22 H', ?_, ?_⟩
    · walk_at "rd"
      refine ⟨⟨_, SqL.of et2⟩, for_list (K := K) (a := t2) (xs := [.ref r, .ref bt, .ref b3, .ref b4, .ref sl, .ref em, .ref ca, .ref cb, .ref s2]) (fun _ σ' H' => ∃ v8 : Option V, σ' = [some (.ref a), some (.ref st), some (.int n), some (.int ((c + 1 : Nat) : Int)), some (.int size), some (.ref r), some (.ref bt), some (.ref t2), v8, none, none, none, none, none] ∧ Same H22 H') ⟨_, rfl, fun _ _ z => z⟩ (fun i σ' H' _ z => SqL.of (z.elim fun _ z => z.2 _ _ et2)) ?_ (fun σ' H' z => z)⟩
      rintro i x σ' H' hx ⟨v8, rfl, sx⟩
      obtain ⟨l, rfl, Ml⟩ := allM x (List.mem_of_getElem? hx)
      walk_at "rd"
      try dsimp only [tNil, List.cons_append, List.nil_append]
      refine (Ml.keep S22 (.of sx)).plays (Nat.le_refl _) (by omega) (by omega) c0 c1 fun H'' sy => ?_
      walk_at "rd"
      exact sx.trans sy
    rintro σ' H23 ⟨v822, rfl, sa⟩
    clear allM
    replace Mr := Mr.keep S22 (.of sa)
    replace Mb := Mb.keep S22 (.of sa)
    replace M3 := M3.keep S22 (.of sa)
    replace M4 := M4.keep S22 (.of sa)
    replace Msl := Msl.keep S22 (.of sa)
    replace Mem := Mem.keep S22 (.of sa)
    replace Mca := Mca.keep S22 (.of sa)
    replace Mcb := Mcb.keep S22 (.of sa)
    replace Ms2 := Ms2.keep S22 (.of sa)
    replace et2 := sa _ _ et2
    have S23 := S22.keep sa
    clear sa S22
    clear et2
    clear M3
    clear M4
    clear Msl
    clear Mem
    clear Mca
    clear Mcb
    clear Ms2
    walk_at "rd"
    walk_at "nw"
    intro pa hpa
    generalize hg : upd H23 pa _ = H24
    have sa : Same H23 H24 := by
      rw [← hg]
      exact same_new hpa
    have epa : H24 pa = some (.tup [.str "up", .int 0, .int 1]) := by
      rw [← hg]
      exact upd_same
    have npa : pa ≠ st := Store.ne S23 hpa
    clear hg hpa
    replace Mr := Mr.keep S23 (.of sa)
    replace Mb := Mb.keep S23 (.of sa)
    have S24 := S23.keep sa
    clear sa S23
    walk_at "rd"
    walk_at "nw"
    intro pb hpb
    generalize hg : upd H24 pb _ = H25
    have sa : Same H24 H25 := by
      rw [← hg]
      exact same_new hpb
    have epb : H25 pb = some (.tup [.str "read", .int 1]) := by
      rw [← hg]
      exact upd_same
    have npb : pb ≠ st := Store.ne S24 hpb
    clear hg hpb
    replace Mr := Mr.keep S24 (.of sa)
    replace Mb := Mb.keep S24 (.of sa)
    replace epa := sa _ _ epa
    have S25 := S24.keep sa
    clear sa S24
    walk_at "rd"
    walk_at "nw"
    intro bare hbare
    generalize hg : upd H25 bare _ = H26
    have sa : Same H25 H26 := by
      rw [← hg]
      exact same_new hbare
    have ebare : H26 bare = some (.lst [.ref pa, .ref pb]) := by
      rw [← hg]
      exact upd_same
    have nbare : bare ≠ st := Store.ne S25 hbare
    have Mbare : LM st H26 bare 2 := by
      rw [← hg]
      exact LM.new S25 hbare (fun x hx => by
        simp only [List.mem_cons, List.mem_nil_iff, or_false] at hx
        rcases hx with rfl | rfl
        · exact (.tup _ "up" [.int 0, .int 1] epa (show SA _ by walk_at "sm") (by show 2 ≤ 3; decide))
        · exact (.tup _ "read" [.int 1] epb (show SA _ by walk_at "sm") (by show 1 ≤ 3; decide))) (Nat.le_refl 2)
    clear hg hbare
    replace Mr := Mr.keep S25 (.of sa)
    replace Mb := Mb.keep S25 (.of sa)
    replace epa := sa _ _ epa
    replace epb := sa _ _ epb
    have S26 := S25.keep sa
    clear sa S25
    clear epa
    clear epb
    walk_at "rd"
    refine ⟨fun σ' H' => σ' = [some (.ref a), some (.ref st), some (.int n), some (.int ((c + 1 : Nat) : Int)), some (.int size), some (.ref r), some (.ref bt), some (.ref t2), v822, some (.ref bare), none, none, none, none] ∧ Same H26 H', ?_, ?_⟩
    · walk_at "rd"
      walk_at "nw"
      intro e2 he2
      have Me2 : LM st (upd H26 e2 (.lst [])) e2 0 := LM.new S26 he2 (fun x hx => nomatch hx) (Nat.le_refl 0)
      have sx : Same H26 (upd H26 e2 (.lst [])) := same_new he2
      walk_at "rd"
      try dsimp only [tNil, List.cons_append, List.nil_append]
      refine Me2.plays (by decide) (by decide) (by decide) c0 c1 fun G1 s1 => ?_
      walk_at "rd"
      try dsimp only [tNil, List.cons_append, List.nil_append]
      refine (Mbare.keep S26 (.of (sx.trans s1))).plays (by decide) (by decide) (by decide) c0 c1 fun G2 s2' => ?_
      walk_at "rd"
      try dsimp only [tNil, List.cons_append, List.nil_append]
      refine (Mbare.keep S26 (.of ((sx.trans s1).trans s2'))).plays (by decide) (by decide) (by decide) c0 c1 fun G3 s3 => ?_
      walk_at "rd"
      refine ite2 (fun hc => absurd hc (by decide)) fun _ => ?_
      exact ⟨rfl, ((sx.trans s1).trans s2').trans s3⟩
    rintro σ' H27 ⟨rfl, sa⟩
    replace Mr := Mr.keep S26 (.of sa)
    replace Mb := Mb.keep S26 (.of sa)
    replace Mbare := Mbare.keep S26 (.of sa)
    replace ebare := sa _ _ ebare
    have S27 := S26.keep sa
    clear sa S26
    walk_at "rd"
    walk_at "nw"
    intro naa hnaa
    generalize hg : upd H27 naa _ = H28
    have sa : Same H27 H28 := by
      rw [← hg]
      exact same_new hnaa
    have enaa : H28 naa = some (.tup [.str "up", .bl false, .int 1]) := by
      rw [← hg]
      exact upd_same
    have nnaa : naa ≠ st := Store.ne S27 hnaa
    clear hg hnaa
    replace Mr := Mr.keep S27 (.of sa)
    replace Mb := Mb.keep S27 (.of sa)
    replace Mbare := Mbare.keep S27 (.of sa)
    replace ebare := sa _ _ ebare
    have S28 := S27.keep sa
    clear sa S27
    walk_at "rd"
    walk_at "nw"
    intro nab hnab
    generalize hg : upd H28 nab _ = H29
    have sa : Same H28 H29 := by
      rw [← hg]
      exact same_new hnab
    have enab : H29 nab = some (.tup [.str "read", .int 1]) := by
      rw [← hg]
      exact upd_same
    have nnab : nab ≠ st := Store.ne S28 hnab
    clear hg hnab
    replace Mr := Mr.keep S28 (.of sa)
    replace Mb := Mb.keep S28 (.of sa)
    replace Mbare := Mbare.keep S28 (.of sa)
    replace ebare := sa _ _ ebare
    replace enaa := sa _ _ enaa
    have S29 := S28.keep sa
    clear sa S28
    walk_at "rd"
    walk_at "nw"
    intro na hna
    generalize hg : upd H29 na _ = H30
    have sa : Same H29 H30 := by
      rw [← hg]
      exact same_new hna
    have ena : H30 na = some (.lst [.ref naa, .ref nab]) := by
      rw [← hg]
      exact upd_same
    have nna : na ≠ st := Store.ne S29 hna
    have Mna : LM st H30 na 2 := by
      rw [← hg]
      exact LM.new S29 hna (fun x hx => by
        simp only [List.mem_cons, List.mem_nil_iff, or_false] at hx
        rcases hx with rfl | rfl
        · exact (.tup _ "up" [.bl false, .int 1] enaa (show SA _ by walk_at "sm") (by show 2 ≤ 3; decide))
        · exact (.tup _ "read" [.int 1] enab (show SA _ by walk_at "sm") (by show 1 ≤ 3; decide))) (Nat.le_refl 2)
    clear hg hna
    replace Mr := Mr.keep S29 (.of sa)
    replace Mb := Mb.keep S29 (.of sa)
    replace Mbare := Mbare.keep S29 (.of sa)
    replace ebare := sa _ _ ebare
    replace enaa := sa _ _ enaa
    replace enab := sa _ _ enab
    have S30 := S29.keep sa
    clear sa S29
    clear enaa
    clear enab
    clear ena
    walk_at "rd"
    walk_at "nw"
    intro nba hnba
    generalize hg : upd H30 nba _ = H31
    have sa : Same H30 H31 := by
      rw [← hg]
      exact same_new hnba
    have enba : H31 nba = some (.tup [.str "up", .int 0, .bl true]) := by
      rw [← hg]
      exact upd_same
    have nnba : nba ≠ st := Store.ne S30 hnba
    clear hg hnba
    replace Mr := Mr.keep S30 (.of sa)
    replace Mb := Mb.keep S30 (.of sa)
    replace Mbare := Mbare.keep S30 (.of sa)
    replace Mna := Mna.keep S30 (.of sa)
    replace ebare := sa _ _ ebare
    have S31 := S30.keep sa
    clear sa S30
    walk_at "rd"
    walk_at "nw"
    intro nbb hnbb
    generalize hg : upd H31 nbb _ = H32
    have sa : Same H31 H32 := by
      rw [← hg]
      exact same_new hnbb
    have enbb : H32 nbb = some (.tup [.str "read", .int 1]) := by
      rw [← hg]
      exact upd_same
    have nnbb : nbb ≠ st := Store.ne S31 hnbb
    clear hg hnbb
    replace Mr := Mr.keep S31 (.of sa)
    replace Mb := Mb.keep S31 (.of sa)
    replace Mbare := Mbare.keep S31 (.of sa)
    replace Mna := Mna.keep S31 (.of sa)
    replace ebare := sa _ _ ebare
    replace enba := sa _ _ enba
    have S32 := S31.keep sa
    clear sa S31
    walk_at "rd"
    walk_at "nw"
    intro nb hnb
    generalize hg : upd H32 nb _ = H33
    have sa : Same H32 H33 := by
      rw [← hg]
      exact same_new hnb
    have enb : H33 nb = some (.lst [.ref nba, .ref nbb]) := by
      rw [← hg]
      exact upd_same
    have nnb : nb ≠ st := Store.ne S32 hnb
    have Mnb : LM st H33 nb 2 := by
      rw [← hg]
      exact LM.new S32 hnb (fun x hx => by
        simp only [List.mem_cons, List.mem_nil_iff, or_false] at hx
        rcases hx with rfl | rfl
        · exact (.tup _ "up" [.int 0, .bl true] enba (show SA _ by walk_at "sm") (by show 2 ≤ 3; decide))
        · exact (.tup _ "read" [.int 1] enbb (show SA _ by walk_at "sm") (by show 1 ≤ 3; decide))) (Nat.le_refl 2)
    clear hg hnb
    replace Mr := Mr.keep S32 (.of sa)
    replace Mb := Mb.keep S32 (.of sa)
    replace Mbare := Mbare.keep S32 (.of sa)
    replace Mna := Mna.keep S32 (.of sa)
    replace ebare := sa _ _ ebare
    replace enba := sa _ _ enba
    replace enbb := sa _ _ enbb
    have S33 := S32.keep sa
    clear sa S32
    clear enba
    clear enbb
    clear enb
    walk_at "rd"
    walk_at "nw"
    intro nca hnca
    generalize hg : upd H33 nca _ = H34
    have sa : Same H33 H34 := by
      rw [← hg]
      exact same_new hnca
    have enca : H34 nca = some (.tup [.str "up", .int 0, .int 1]) := by
      rw [← hg]
      exact upd_same
    have nnca : nca ≠ st := Store.ne S33 hnca
    clear hg hnca
    replace Mr := Mr.keep S33 (.of sa)
    replace Mb := Mb.keep S33 (.of sa)
    replace Mbare := Mbare.keep S33 (.of sa)
    replace Mna := Mna.keep S33 (.of sa)
    replace Mnb := Mnb.keep S33 (.of sa)
    replace ebare := sa _ _ ebare
    have S34 := S33.keep sa
    clear sa S33
    walk_at "rd"
    walk_at "nw"
    intro ncb hncb
    generalize hg : upd H34 ncb _ = H35
    have sa : Same H34 H35 := by
      rw [← hg]
      exact same_new hncb
    have encb : H35 ncb = some (.tup [.str "read", .bl true]) := by
      rw [← hg]
      exact upd_same
    have nncb : ncb ≠ st := Store.ne S34 hncb
    clear hg hncb
    replace Mr := Mr.keep S34 (.of sa)
    replace Mb := Mb.keep S34 (.of sa)
    replace Mbare := Mbare.keep S34 (.of sa)
    replace Mna := Mna.keep S34 (.of sa)
    replace Mnb := Mnb.keep S34 (.of sa)
    replace ebare := sa _ _ ebare
    replace enca := sa _ _ enca
    have S35 := S34.keep sa
    clear sa S34
    walk_at "rd"
    walk_at "nw"
    intro nc hnc
    generalize hg : upd H35 nc _ = H36
    have sa : Same H35 H36 := by
      rw [← hg]
      exact same_new hnc
    have enc : H36 nc = some (.lst [.ref nca, .ref ncb]) := by
      rw [← hg]
      exact upd_same
    have nnc : nc ≠ st := Store.ne S35 hnc
    have Mnc : LM st H36 nc 2 := by
      rw [← hg]
      exact LM.new S35 hnc (fun x hx => by
        simp only [List.mem_cons, List.mem_nil_iff, or_false] at hx
        rcases hx with rfl | rfl
        · exact (.tup _ "up" [.int 0, .int 1] enca (show SA _ by walk_at "sm") (by show 2 ≤ 3; decide))
        · exact (.tup _ "read" [.bl true] encb (show SA _ by walk_at "sm") (by show 1 ≤ 3; decide))) (Nat.le_refl 2)
    clear hg hnc
    replace Mr := Mr.keep S35 (.of sa)
    replace Mb := Mb.keep S35 (.of sa)
    replace Mbare := Mbare.keep S35 (.of sa)
    replace Mna := Mna.keep S35 (.of sa)
    replace Mnb := Mnb.keep S35 (.of sa)
    replace ebare := sa _ _ ebare
    replace enca := sa _ _ enca
    replace encb := sa _ _ encb
    have S36 := S35.keep sa
    clear sa S35
    clear enca
    clear encb
    clear enc
    walk_at "rd"
    walk_at "nw"
    intro near hnear
    generalize hg : upd H36 near _ = H37
    have sa : Same H36 H37 := by
      rw [← hg]
      exact same_new hnear
    have enear : H37 near = some (.lst [.ref na, .ref nb, .ref nc]) := by
      rw [← hg]
      exact upd_same
    have nnear : near ≠ st := Store.ne S36 hnear
    clear hg hnear
    replace Mr := Mr.keep S36 (.of sa)
    replace Mb := Mb.keep S36 (.of sa)
    replace Mbare := Mbare.keep S36 (.of sa)
    replace Mna := Mna.keep S36 (.of sa)
    replace Mnb := Mnb.keep S36 (.of sa)
    replace Mnc := Mnc.keep S36 (.of sa)
    replace ebare := sa _ _ ebare
    have S37 := S36.keep sa
    clear sa S36
    have allM : ∀ x ∈ ([.ref na, .ref nb, .ref nc, .ref bare] : List V), ∃ l, x = .ref l ∧ LM st H37 l 20000 := by
      intro x hx
      simp only [List.mem_cons, List.mem_nil_iff, or_false] at hx
      rcases hx with rfl | rfl | rfl | rfl
      · exact ⟨_, rfl, Mna.le (by decide)⟩
      · exact ⟨_, rfl, Mnb.le (by decide)⟩
      · exact ⟨_, rfl, Mnc.le (by decide)⟩
      · exact ⟨_, rfl, Mbare.le (by decide)⟩
    walk_at "rd"
    refine ⟨fun σ' H' => ∃ v8 : Option V, σ' = [some (.ref a), some (.ref st), some (.int n), some (.int ((c + 1 : Nat) : Int)), some (.int size), some (.ref r), some (.ref bt), some (.ref t2), v8, some (.ref bare), some (.ref near), none, none, none] ∧ Same H37 H', ?_, ?_⟩
    · walk_at "rd"
      walk_at "nw"
      intro lb2 hlb2
      refine ⟨near, lb2, _, _, rfl, rfl, same_new hlb2 _ _ enear, upd_same, sz_le (Nat.le_of_ble_eq_true rfl), fun t4 ht4 => ?_⟩
      walk_at "rd"
      have sz0 : Same H37 (upd (upd H37 lb2 (.lst [.ref bare])) t4 (.lst [.ref na, .ref nb, .ref nc, .ref bare])) := (same_new hlb2).trans (same_new ht4)
      have e4 : (upd (upd H37 lb2 (.lst [.ref bare])) t4 (.lst [.ref na, .ref nb, .ref nc, .ref bare])) t4 = some (.lst [.ref na, .ref nb, .ref nc, .ref bare]) := upd_same
      refine ⟨⟨_, SqL.of upd_same⟩, for_list (K := K) (a := t4) (xs := [.ref na, .ref nb, .ref nc, .ref bare]) (fun _ σ' H' => ∃ v8 : Option V, σ' = [some (.ref a), some (.ref st), some (.int n), some (.int ((c + 1 : Nat) : Int)), some (.int size), some (.ref r), some (.ref bt), some (.ref t2), v8, some (.ref bare), some (.ref near), none, none, none] ∧ Same H37 H' ∧ H' t4 = some (.lst [.ref na, .ref nb, .ref nc, .ref bare])) ⟨_, rfl, sz0, e4⟩ (fun i σ' H' _ z => SqL.of (z.elim fun _ z => z.2.2)) ?_ (fun σ' H' z => z.elim fun v z => ⟨v, z.1, z.2.1⟩)⟩
      rintro i x σ' H' hx ⟨v8, rfl, sx, ex⟩
      obtain ⟨l, rfl, Ml⟩ := allM x (List.mem_of_getElem? hx)
      walk_at "rd"
      try dsimp only [tNil, List.cons_append, List.nil_append]
      refine (Ml.keep S37 (.of sx)).plays (Nat.le_refl _) (by decide) (by decide) (by decide) (by decide) fun H'' sy => ?_
      walk_at "rd"
      exact ⟨sx.trans sy, sy _ _ ex⟩
    rintro σ' H38 ⟨v837, rfl, sa⟩
    clear allM enear ebare
    clear Mna
    clear Mnb
    clear Mnc
    clear Mbare
    replace Mr := Mr.keep S37 (.of sa)
    replace Mb := Mb.keep S37 (.of sa)
    have S38 := S37.keep sa
    clear sa S37
    walk_at "rd"
    refine ⟨S38, fun odd H39 bv S39 ba => ?_⟩
    replace Mr := Mr.keep S38 ba
    replace Mb := Mb.keep S38 ba
    clear ba S38
    walk_at "rd"
    try dsimp only [tNil, List.cons_append, List.nil_append]
    refine ⟨size, odd, .ref bt, rfl, .inr (.inr ⟨.inr ⟨bt, rfl⟩, bv.cells, fun q1 w1 G1 s1 f1 g1 => ?_⟩)⟩
    walk_at "rd"
    try dsimp only [tNil, List.cons_append, List.nil_append]
    refine ⟨n, odd, .non, rfl, .inr (.inr ⟨.inl rfl, (bv.keep (.of s1)).cells, fun q2 w2 G2 s2' f2 g2 => ?_⟩)⟩
    walk_at "rd"
    try dsimp only [tNil, List.cons_append, List.nil_append]
    refine ⟨size, odd, .ref r, rfl, .inr (.inr ⟨.inr ⟨r, rfl⟩, ((bv.keep (.of s1)).keep (.of s2')).cells, fun q3 w3 G3 s3 f3 g3 => ?_⟩)⟩
    walk_at "rd"
    walk_at "nw"
    intro an han
    generalize hg : upd G3 an _ = G4
    have s4 : Same G3 G4 := by
      rw [← hg]
      exact same_new han
    have ean : G4 an = some (.lst [.ref q1, .ref q2, .ref q3]) := by
      rw [← hg]
      exact upd_same
    clear hg han
    have s34 := s3.trans s4
    have s24 := s2'.trans s34
    have f1 := s24 _ _ f1
    have g1 := s24 _ _ g1
    have f2 := s34 _ _ f2
    have g2 := s34 _ _ g2
    have f3 := s4 _ _ f3
    have g3 := s4 _ _ g3
    have bv4 := bv.keep (.of (s1.trans s24))
    clear s1 s2' s3 s4 s34 s24 bv
    walk_at "rd"
    refine ⟨by decide, by decide, fun D hD => ?_⟩
    refine lc_range (lo := 0) (n := 3) (fun i H' => Same G4 H' ∧ ∃ rs : List V, H' D = some (.lst rs) ∧ rs.length = i ∧ ∀ k, k < i → ∃ d u, rs[k]? = some (.ref d) ∧ H' d = some (.tup [.bl false, .ref u]) ∧ H' u = some (.tup [.str "badcells", odd])) ⟨same_new hD, [], upd_same, rfl, fun k hk => absurd hk (Nat.not_lt_zero k)⟩ ?_ ?_
    · rintro i G5 hi ⟨s5, rs, er5, hrs, hk⟩
      refine ⟨rfl, ?_⟩
      walk_at "rd"
      walk_at "nw"
      intro u hu
      walk_at "rd"
      walk_at "nw"
      intro d hd
      have sa : Same G5 (upd (upd G5 u (.tup [.str "badcells", odd])) d (.tup [.bl false, .ref u])) := (same_new hu).trans (same_new hd)
      have tk : TK (upd (upd G5 u (.tup [.str "badcells", odd])) d (.tup [.bl false, .ref u])) (upd (upd (upd G5 u (.tup [.str "badcells", odd])) d (.tup [.bl false, .ref u])) D (.lst (rs ++ [.ref d]))) := TK.mut (sa _ _ er5)
      refine ⟨rs, sa _ _ er5, sz_lt (by omega), (s5.trans sa).mut hD, rs ++ [.ref d], upd_same, by rw [List.length_append, hrs]; rfl, fun k hk2 => ?_⟩
      rcases Nat.lt_or_ge k i with z | z
      · obtain ⟨d', u', z1, z2, z3⟩ := hk k z
        exact ⟨d', u', by rw [List.getElem?_append_left (by omega)]; exact z1, tk _ _ (sa _ _ z2), tk _ _ (sa _ _ z3)⟩
      · obtain rfl : k = i := by omega
        exact ⟨d, u, by rw [List.getElem?_append_right (by omega), hrs, Nat.sub_self]; rfl, tk _ _ upd_same, tk _ _ (same_new hd _ _ upd_same)⟩
    · rintro G5 ⟨s5, rs, er5, hrs, hk⟩
      obtain ⟨d1, u1, z1, a1, b1⟩ := hk 0 (by decide)
      obtain ⟨d2, u2, z2, a2, b2⟩ := hk 1 (by decide)
      obtain ⟨d3, u3, z3, a3, b3⟩ := hk 2 (by decide)
      obtain rfl : rs = [.ref d1, .ref d2, .ref d3] := by
        rcases rs with _ | ⟨x, _ | ⟨y, _ | ⟨z, _ | ⟨t, ts⟩⟩⟩⟩
        · cases z1
        · cases z2
        · cases z3
        · cases z1
          cases z2
          cases z3
          rfl
        · exact absurd hrs (by show ts.length + 1 + 1 + 1 + 1 ≠ 3; omega)
      have bv5 := bv4.keep (.of s5)
      walk_at "rd"
      have one : ∀ {q w d u : Addr}, G4 q = some (.tup [.bl false, .ref w]) → G4 w = some (.tup [.str "badcells", odd]) → G5 d = some (.tup [.bl false, .ref u]) → G5 u = some (.tup [.str "badcells", odd]) → SameD G5 5 (.ref q) (.ref d) := fun e1 e2 e3 e4 =>
        sameD_two (s5 _ _ e1) e3 (sameD_flat rfl) (sameD_two (s5 _ _ e2) e4 (sameD_flat rfl) (bv5.same 1))
      refine ⟨.lst (s5 _ _ ean) er5 (Nat.le_of_ble_eq_true rfl) (.cons (one f1 g1 a1 b1) (.cons (one f2 g2 a2 b2) (.cons (one f3 g3 a3 b3) .nil))), ?_⟩
      exact q _
end
end K12

set_option Elab.async false
set_option linter.all false
set_option maxRecDepth 100000
set_option maxHeartbeats 4000000
namespace K12
open PySem PySem.Spec PyProof.Rows L2
section
open PySem.W PySem.Calls PySem.HandSPX PySem.VX
def pV : Pos := ⟨4, 17, 4, 21⟩
def qV : Nat → Pos
  | 0 => ⟨5, 8, 5, 12⟩
  | 1 => ⟨5, 8, 5, 17⟩
  | 2 => ⟨5, 20, 5, 24⟩
  | 3 => ⟨5, 20, 5, 34⟩
  | 4 => ⟨5, 20, 5, 43⟩
  | 5 => ⟨5, 20, 5, 49⟩
  | 6 => ⟨5, 20, 5, 51⟩
  | _ => ⟨5, 8, 5, 51⟩
def r_BadMove : Nat → Pos
  | 0 => ⟨63, 8, 63, 13⟩
  | 1 => ⟨63, 8, 63, 15⟩
  | 2 => ⟨63, 8, 63, 24⟩
  | 3 => ⟨63, 8, 63, 26⟩
  | _ => ⟨63, 8, 63, 26⟩
def st_BadMove : List Stmt := [.Assign [.Attribute (.Name "self" ⟨64, 8, 64, 12⟩) "at" ⟨64, 8, 64, 15⟩] (.Name "at" ⟨64, 18, 64, 20⟩) ⟨64, 8, 64, 20⟩]
def r_BadCells : Nat → Pos
  | 0 => ⟨36, 8, 36, 13⟩
  | 1 => ⟨36, 8, 36, 15⟩
  | 2 => ⟨36, 8, 36, 24⟩
  | 3 => ⟨36, 8, 36, 26⟩
  | _ => ⟨36, 8, 36, 26⟩
def st_BadCells : List Stmt := [.Assign [.Attribute (.Name "self" ⟨37, 8, 37, 12⟩) "cells" ⟨37, 8, 37, 18⟩] (.Name "cells" ⟨37, 21, 37, 26⟩) ⟨37, 8, 37, 26⟩]

/-- an error of the class at C is what «except S» names, S above C -/
theorem exm_of2 {K : PySem.W.Frag} {C S : Addr} (h1 : PySem.W.subIn K (.ref S) (.type "BaseException") = some true) (h2 : PySem.W.isClsIn K S = true) (h3 : PySem.W.typeIn K (.ref S) = some (.type "type")) (h4 : PySem.W.subIn K (.ref C) (.ref S) = some true) :
    PySem.W.exmOne K (.ref C) (.ref S) = some true := by
  have e1 : (PySem.W.subIn K (.ref S) (.type "BaseException") == some true) = true := by rw [h1] <;> rfl
  have e2 : ((PySem.W.clsIn K S).isSome && PySem.W.typeIn K (.ref S) == some (.type "type")) = true := by
    have h2b : (PySem.W.clsIn K S).isSome = true := h2
    rw [h2b, h3] <;> rfl
  show (if (PySem.W.subIn K (.ref S) (.type "BaseException") == some true) = true then (if ((PySem.W.clsIn K S).isSome && PySem.W.typeIn K (.ref S) == some (.type "type")) = true then PySem.W.subIn K (.ref C) (.ref S) else none) else none) = some true
  rw [if_pos e1, if_pos e2]
  exact h4
theorem all_mk {P : Program} {w : World} {K : PySem.W.Frag} {h : Heap} {mg : Str → Option Value} {fa : Addr} (X : K.In h) (G : h.Ns mainGlobals mg) (hfa : mg "law" = some (.ref fa))
    {f_is_whole f_lies_within f_choose f_need_cells f_rounds f_least_steps f_best_stop f_move_list f_write_moves f_check_moves f_is_move f_store f_mix f_take f_edge f_odds f_pick f_length f_cellcount f_badcells f_moves f_play f_moveshape f_leastups f_isint f_same f_movesbent f_kinds f_clean f_leasttable f_stopof f_listof f_refusal f_said f_playsright f_listright f_law C_VaultError C_TooMany C_NumberError C_BadPrime C_NoInverse C_NoNumber C_BadTable C_BadCells C_TextError C_ShapeError C_PlanError C_CourseError C_KnowError C_PaperError C_BadStep C_BadBlind C_BadMove C_NotShut C_NotOpen C_NotTheft C_NotPrice fV fI_BadMove cda_BadMove cc_BadMove N_BadMove fI_BadCells cda_BadCells cc_BadCells N_BadCells : Addr} {od_is_whole an_is_whole od_lies_within an_lies_within od_choose an_choose od_need_cells an_need_cells od_rounds an_rounds od_least_steps an_least_steps od_best_stop an_best_stop od_move_list an_move_list od_write_moves an_write_moves od_check_moves an_check_moves od_is_move an_is_move od_store an_store od_mix an_mix od_take an_take od_edge an_edge od_odds an_odds od_pick an_pick od_length an_length od_cellcount an_cellcount od_badcells an_badcells od_moves an_moves od_play an_play od_moveshape an_moveshape od_leastups an_leastups od_isint an_isint od_same an_same od_movesbent an_movesbent od_kinds an_kinds od_clean an_clean od_leasttable an_leasttable od_stopof an_stopof od_listof an_listof od_refusal an_refusal od_said an_said od_playsright an_playsright od_listright an_listright od_law an_law dd_BadMove odI_BadMove anI_BadMove cdd_BadMove cld_BadMove dd_BadCells odI_BadCells anI_BadCells cdd_BadCells cld_BadCells odV anV : Option Addr} {sl_is_whole sl_lies_within sl_choose sl_need_cells sl_rounds sl_least_steps sl_best_stop sl_move_list sl_write_moves sl_check_moves sl_is_move sl_store sl_mix sl_take sl_edge sl_odds sl_pick sl_length sl_cellcount sl_badcells sl_moves sl_play sl_moveshape sl_leastups sl_isint sl_same sl_movesbent sl_kinds sl_clean sl_leasttable sl_stopof sl_listof sl_refusal sl_said sl_playsright sl_listright sl_law oslI_BadMove ccs_BadMove csl_BadMove oslI_BadCells ccs_BadCells csl_BadCells oslV : Array (Option Value)} {oc_is_whole kV_is_whole dc_is_whole pm_is_whole cd_is_whole ct_is_whole oc_lies_within kV_lies_within dc_lies_within pm_lies_within cd_lies_within ct_lies_within oc_choose kV_choose dc_choose pm_choose cd_choose ct_choose oc_need_cells kV_need_cells dc_need_cells pm_need_cells cd_need_cells ct_need_cells oc_rounds kV_rounds dc_rounds pm_rounds cd_rounds ct_rounds oc_least_steps kV_least_steps dc_least_steps pm_least_steps cd_least_steps ct_least_steps oc_best_stop kV_best_stop dc_best_stop pm_best_stop cd_best_stop ct_best_stop oc_move_list kV_move_list dc_move_list pm_move_list cd_move_list ct_move_list oc_write_moves kV_write_moves dc_write_moves pm_write_moves cd_write_moves ct_write_moves oc_check_moves kV_check_moves dc_check_moves pm_check_moves cd_check_moves ct_check_moves oc_is_move kV_is_move dc_is_move pm_is_move cd_is_move ct_is_move oc_store kV_store dc_store pm_store cd_store ct_store oc_mix kV_mix dc_mix pm_mix cd_mix ct_mix oc_take kV_take dc_take pm_take cd_take ct_take oc_edge kV_edge dc_edge pm_edge cd_edge ct_edge oc_odds kV_odds dc_odds pm_odds cd_odds ct_odds oc_pick kV_pick dc_pick pm_pick cd_pick ct_pick oc_length kV_length dc_length pm_length cd_length ct_length oc_cellcount kV_cellcount dc_cellcount pm_cellcount cd_cellcount ct_cellcount oc_badcells kV_badcells dc_badcells pm_badcells cd_badcells ct_badcells oc_moves kV_moves dc_moves pm_moves cd_moves ct_moves oc_play kV_play dc_play pm_play cd_play ct_play oc_moveshape kV_moveshape dc_moveshape pm_moveshape cd_moveshape ct_moveshape oc_leastups kV_leastups dc_leastups pm_leastups cd_leastups ct_leastups oc_isint kV_isint dc_isint pm_isint cd_isint ct_isint oc_same kV_same dc_same pm_same cd_same ct_same oc_movesbent kV_movesbent dc_movesbent pm_movesbent cd_movesbent ct_movesbent oc_kinds kV_kinds dc_kinds pm_kinds cd_kinds ct_kinds oc_clean kV_clean dc_clean pm_clean cd_clean ct_clean oc_leasttable kV_leasttable dc_leasttable pm_leasttable cd_leasttable ct_leasttable oc_stopof kV_stopof dc_stopof pm_stopof cd_stopof ct_stopof oc_listof kV_listof dc_listof pm_listof cd_listof ct_listof oc_refusal kV_refusal dc_refusal pm_refusal cd_refusal ct_refusal oc_said kV_said dc_said pm_said cd_said ct_said oc_playsright kV_playsright dc_playsright pm_playsright cd_playsright ct_playsright oc_listright kV_listright dc_listright pm_listright cd_listright ct_listright oc_law kV_law dc_law pm_law cd_law ct_law ocI_BadMove docI_BadMove pmI_BadMove ctI_BadMove ccl_BadMove clc_BadMove ocI_BadCells docI_BadCells pmI_BadCells ctI_BadCells ccl_BadCells clc_BadCells ocV docV pmV cdvV ctV : Value} { q_BadMove qI_BadMove q_BadCells qI_BadCells : Str} { bs_BadMove bm_BadMove sub_BadMove bs_BadCells bm_BadCells sub_BadCells : List Value} { sn_BadMove sn_BadCells : List Str} { ab_BadMove ab_BadCells : Bool} { col_BadMove col_BadCells : Option Bool} { k0_BadMove k1_BadMove k3_BadMove k5_BadMove k0_BadCells k1_BadCells k3_BadCells k5_BadCells : Option Value} { tk_BadMove tf_BadMove tk_BadCells tf_BadCells : Tok} { vs_BadMove vs_BadCells : Array Value}
    (ptop : (P.main.scope.names.lookup ("super" : Str)).isSome = false)
    (a_is_whole : PySem.W.nsIn K mainGlobals "is_whole" = some (some (.ref f_is_whole)))
    (l_is_whole : K.lookup f_is_whole = some ⟨oc_is_whole, od_is_whole, .func (PySem.W.fnOf "is_whole" "is_whole" (defArgs s_is_whole) (defBody s_is_whole) (defScope s_is_whole) .none kV_is_whole dc_is_whole pm_is_whole an_is_whole cd_is_whole ct_is_whole), sl_is_whole⟩)
    (c_is_whole : PySem.W.codeIn K cd_is_whole "is_whole" = true)
    (k_is_whole : PySem.W.keepIn K (.ref f_is_whole) = true)
    (a_lies_within : PySem.W.nsIn K mainGlobals "lies_within" = some (some (.ref f_lies_within)))
    (l_lies_within : K.lookup f_lies_within = some ⟨oc_lies_within, od_lies_within, .func (PySem.W.fnOf "lies_within" "lies_within" (defArgs s_lies_within) (defBody s_lies_within) (defScope s_lies_within) .none kV_lies_within dc_lies_within pm_lies_within an_lies_within cd_lies_within ct_lies_within), sl_lies_within⟩)
    (c_lies_within : PySem.W.codeIn K cd_lies_within "lies_within" = true)
    (k_lies_within : PySem.W.keepIn K (.ref f_lies_within) = true)
    (a_choose : PySem.W.nsIn K mainGlobals "choose" = some (some (.ref f_choose)))
    (l_choose : K.lookup f_choose = some ⟨oc_choose, od_choose, .func (PySem.W.fnOf "choose" "choose" (defArgs s_choose) (defBody s_choose) (defScope s_choose) .none kV_choose dc_choose pm_choose an_choose cd_choose ct_choose), sl_choose⟩)
    (c_choose : PySem.W.codeIn K cd_choose "choose" = true)
    (k_choose : PySem.W.keepIn K (.ref f_choose) = true)
    (a_need_cells : PySem.W.nsIn K mainGlobals "need_cells" = some (some (.ref f_need_cells)))
    (l_need_cells : K.lookup f_need_cells = some ⟨oc_need_cells, od_need_cells, .func (PySem.W.fnOf "need_cells" "need_cells" (defArgs s_need_cells) (defBody s_need_cells) (defScope s_need_cells) .none kV_need_cells dc_need_cells pm_need_cells an_need_cells cd_need_cells ct_need_cells), sl_need_cells⟩)
    (c_need_cells : PySem.W.codeIn K cd_need_cells "need_cells" = true)
    (k_need_cells : PySem.W.keepIn K (.ref f_need_cells) = true)
    (a_rounds : PySem.W.nsIn K mainGlobals "rounds" = some (some (.ref f_rounds)))
    (l_rounds : K.lookup f_rounds = some ⟨oc_rounds, od_rounds, .func (PySem.W.fnOf "rounds" "rounds" (defArgs s_rounds) (defBody s_rounds) (defScope s_rounds) .none kV_rounds dc_rounds pm_rounds an_rounds cd_rounds ct_rounds), sl_rounds⟩)
    (c_rounds : PySem.W.codeIn K cd_rounds "rounds" = true)
    (k_rounds : PySem.W.keepIn K (.ref f_rounds) = true)
    (a_least_steps : PySem.W.nsIn K mainGlobals "least_steps" = some (some (.ref f_least_steps)))
    (l_least_steps : K.lookup f_least_steps = some ⟨oc_least_steps, od_least_steps, .func (PySem.W.fnOf "least_steps" "least_steps" (defArgs s_least_steps) (defBody s_least_steps) (defScope s_least_steps) .none kV_least_steps dc_least_steps pm_least_steps an_least_steps cd_least_steps ct_least_steps), sl_least_steps⟩)
    (c_least_steps : PySem.W.codeIn K cd_least_steps "least_steps" = true)
    (k_least_steps : PySem.W.keepIn K (.ref f_least_steps) = true)
    (a_best_stop : PySem.W.nsIn K mainGlobals "best_stop" = some (some (.ref f_best_stop)))
    (l_best_stop : K.lookup f_best_stop = some ⟨oc_best_stop, od_best_stop, .func (PySem.W.fnOf "best_stop" "best_stop" (defArgs s_best_stop) (defBody s_best_stop) (defScope s_best_stop) .none kV_best_stop dc_best_stop pm_best_stop an_best_stop cd_best_stop ct_best_stop), sl_best_stop⟩)
    (c_best_stop : PySem.W.codeIn K cd_best_stop "best_stop" = true)
    (k_best_stop : PySem.W.keepIn K (.ref f_best_stop) = true)
    (a_move_list : PySem.W.nsIn K mainGlobals "move_list" = some (some (.ref f_move_list)))
    (l_move_list : K.lookup f_move_list = some ⟨oc_move_list, od_move_list, .func (PySem.W.fnOf "move_list" "move_list" (defArgs s_move_list) (defBody s_move_list) (defScope s_move_list) .none kV_move_list dc_move_list pm_move_list an_move_list cd_move_list ct_move_list), sl_move_list⟩)
    (c_move_list : PySem.W.codeIn K cd_move_list "move_list" = true)
    (k_move_list : PySem.W.keepIn K (.ref f_move_list) = true)
    (a_write_moves : PySem.W.nsIn K mainGlobals "_write_moves" = some (some (.ref f_write_moves)))
    (l_write_moves : K.lookup f_write_moves = some ⟨oc_write_moves, od_write_moves, .func (PySem.W.fnOf "_write_moves" "_write_moves" (defArgs s_write_moves) (defBody s_write_moves) (defScope s_write_moves) .none kV_write_moves dc_write_moves pm_write_moves an_write_moves cd_write_moves ct_write_moves), sl_write_moves⟩)
    (c_write_moves : PySem.W.codeIn K cd_write_moves "_write_moves" = true)
    (k_write_moves : PySem.W.keepIn K (.ref f_write_moves) = true)
    (a_check_moves : PySem.W.nsIn K mainGlobals "check_moves" = some (some (.ref f_check_moves)))
    (l_check_moves : K.lookup f_check_moves = some ⟨oc_check_moves, od_check_moves, .func (PySem.W.fnOf "check_moves" "check_moves" (defArgs s_check_moves) (defBody s_check_moves) (defScope s_check_moves) .none kV_check_moves dc_check_moves pm_check_moves an_check_moves cd_check_moves ct_check_moves), sl_check_moves⟩)
    (c_check_moves : PySem.W.codeIn K cd_check_moves "check_moves" = true)
    (k_check_moves : PySem.W.keepIn K (.ref f_check_moves) = true)
    (a_is_move : PySem.W.nsIn K mainGlobals "_is_move" = some (some (.ref f_is_move)))
    (l_is_move : K.lookup f_is_move = some ⟨oc_is_move, od_is_move, .func (PySem.W.fnOf "_is_move" "_is_move" (defArgs s_is_move) (defBody s_is_move) (defScope s_is_move) .none kV_is_move dc_is_move pm_is_move an_is_move cd_is_move ct_is_move), sl_is_move⟩)
    (c_is_move : PySem.W.codeIn K cd_is_move "_is_move" = true)
    (k_is_move : PySem.W.keepIn K (.ref f_is_move) = true)
    (a_store : PySem.W.nsIn K mainGlobals "_law_store" = some (some (.ref f_store)))
    (l_store : K.lookup f_store = some ⟨oc_store, od_store, .func (PySem.W.fnOf "_law_store" "_law_store" (defArgs s_store) (defBody s_store) (defScope s_store) .none kV_store dc_store pm_store an_store cd_store ct_store), sl_store⟩)
    (c_store : PySem.W.codeIn K cd_store "_law_store" = true)
    (k_store : PySem.W.keepIn K (.ref f_store) = true)
    (a_mix : PySem.W.nsIn K mainGlobals "_law_mix" = some (some (.ref f_mix)))
    (l_mix : K.lookup f_mix = some ⟨oc_mix, od_mix, .func (PySem.W.fnOf "_law_mix" "_law_mix" (defArgs s_mix) (defBody s_mix) (defScope s_mix) .none kV_mix dc_mix pm_mix an_mix cd_mix ct_mix), sl_mix⟩)
    (c_mix : PySem.W.codeIn K cd_mix "_law_mix" = true)
    (k_mix : PySem.W.keepIn K (.ref f_mix) = true)
    (a_take : PySem.W.nsIn K mainGlobals "_law_take" = some (some (.ref f_take)))
    (l_take : K.lookup f_take = some ⟨oc_take, od_take, .func (PySem.W.fnOf "_law_take" "_law_take" (defArgs s_take) (defBody s_take) (defScope s_take) .none kV_take dc_take pm_take an_take cd_take ct_take), sl_take⟩)
    (c_take : PySem.W.codeIn K cd_take "_law_take" = true)
    (k_take : PySem.W.keepIn K (.ref f_take) = true)
    (a_edge : PySem.W.nsIn K mainGlobals "_law_edge" = some (some (.ref f_edge)))
    (l_edge : K.lookup f_edge = some ⟨oc_edge, od_edge, .func (PySem.W.fnOf "_law_edge" "_law_edge" (defArgs s_edge) (defBody s_edge) (defScope s_edge) .none kV_edge dc_edge pm_edge an_edge cd_edge ct_edge), sl_edge⟩)
    (c_edge : PySem.W.codeIn K cd_edge "_law_edge" = true)
    (k_edge : PySem.W.keepIn K (.ref f_edge) = true)
    (a_odds : PySem.W.nsIn K mainGlobals "_law_odds" = some (some (.ref f_odds)))
    (l_odds : K.lookup f_odds = some ⟨oc_odds, od_odds, .func (PySem.W.fnOf "_law_odds" "_law_odds" (defArgs s_odds) (defBody s_odds) (defScope s_odds) .none kV_odds dc_odds pm_odds an_odds cd_odds ct_odds), sl_odds⟩)
    (c_odds : PySem.W.codeIn K cd_odds "_law_odds" = true)
    (k_odds : PySem.W.keepIn K (.ref f_odds) = true)
    (a_pick : PySem.W.nsIn K mainGlobals "_law_pick" = some (some (.ref f_pick)))
    (l_pick : K.lookup f_pick = some ⟨oc_pick, od_pick, .func (PySem.W.fnOf "_law_pick" "_law_pick" (defArgs s_pick) (defBody s_pick) (defScope s_pick) .none kV_pick dc_pick pm_pick an_pick cd_pick ct_pick), sl_pick⟩)
    (c_pick : PySem.W.codeIn K cd_pick "_law_pick" = true)
    (k_pick : PySem.W.keepIn K (.ref f_pick) = true)
    (a_length : PySem.W.nsIn K mainGlobals "_law_length" = some (some (.ref f_length)))
    (l_length : K.lookup f_length = some ⟨oc_length, od_length, .func (PySem.W.fnOf "_law_length" "_law_length" (defArgs s_length) (defBody s_length) (defScope s_length) .none kV_length dc_length pm_length an_length cd_length ct_length), sl_length⟩)
    (c_length : PySem.W.codeIn K cd_length "_law_length" = true)
    (k_length : PySem.W.keepIn K (.ref f_length) = true)
    (a_cellcount : PySem.W.nsIn K mainGlobals "_law_cellcount" = some (some (.ref f_cellcount)))
    (l_cellcount : K.lookup f_cellcount = some ⟨oc_cellcount, od_cellcount, .func (PySem.W.fnOf "_law_cellcount" "_law_cellcount" (defArgs s_cellcount) (defBody s_cellcount) (defScope s_cellcount) .none kV_cellcount dc_cellcount pm_cellcount an_cellcount cd_cellcount ct_cellcount), sl_cellcount⟩)
    (c_cellcount : PySem.W.codeIn K cd_cellcount "_law_cellcount" = true)
    (k_cellcount : PySem.W.keepIn K (.ref f_cellcount) = true)
    (a_badcells : PySem.W.nsIn K mainGlobals "_law_badcells" = some (some (.ref f_badcells)))
    (l_badcells : K.lookup f_badcells = some ⟨oc_badcells, od_badcells, .func (PySem.W.fnOf "_law_badcells" "_law_badcells" (defArgs s_badcells) (defBody s_badcells) (defScope s_badcells) .none kV_badcells dc_badcells pm_badcells an_badcells cd_badcells ct_badcells), sl_badcells⟩)
    (c_badcells : PySem.W.codeIn K cd_badcells "_law_badcells" = true)
    (k_badcells : PySem.W.keepIn K (.ref f_badcells) = true)
    (a_moves : PySem.W.nsIn K mainGlobals "_law_moves" = some (some (.ref f_moves)))
    (l_moves : K.lookup f_moves = some ⟨oc_moves, od_moves, .func (PySem.W.fnOf "_law_moves" "_law_moves" (defArgs s_moves) (defBody s_moves) (defScope s_moves) .none kV_moves dc_moves pm_moves an_moves cd_moves ct_moves), sl_moves⟩)
    (c_moves : PySem.W.codeIn K cd_moves "_law_moves" = true)
    (k_moves : PySem.W.keepIn K (.ref f_moves) = true)
    (a_play : PySem.W.nsIn K mainGlobals "_law_play" = some (some (.ref f_play)))
    (l_play : K.lookup f_play = some ⟨oc_play, od_play, .func (PySem.W.fnOf "_law_play" "_law_play" (defArgs s_play) (defBody s_play) (defScope s_play) .none kV_play dc_play pm_play an_play cd_play ct_play), sl_play⟩)
    (c_play : PySem.W.codeIn K cd_play "_law_play" = true)
    (k_play : PySem.W.keepIn K (.ref f_play) = true)
    (a_moveshape : PySem.W.nsIn K mainGlobals "_law_moveshape" = some (some (.ref f_moveshape)))
    (l_moveshape : K.lookup f_moveshape = some ⟨oc_moveshape, od_moveshape, .func (PySem.W.fnOf "_law_moveshape" "_law_moveshape" (defArgs s_moveshape) (defBody s_moveshape) (defScope s_moveshape) .none kV_moveshape dc_moveshape pm_moveshape an_moveshape cd_moveshape ct_moveshape), sl_moveshape⟩)
    (c_moveshape : PySem.W.codeIn K cd_moveshape "_law_moveshape" = true)
    (k_moveshape : PySem.W.keepIn K (.ref f_moveshape) = true)
    (a_leastups : PySem.W.nsIn K mainGlobals "_law_leastups" = some (some (.ref f_leastups)))
    (l_leastups : K.lookup f_leastups = some ⟨oc_leastups, od_leastups, .func (PySem.W.fnOf "_law_leastups" "_law_leastups" (defArgs s_leastups) (defBody s_leastups) (defScope s_leastups) .none kV_leastups dc_leastups pm_leastups an_leastups cd_leastups ct_leastups), sl_leastups⟩)
    (c_leastups : PySem.W.codeIn K cd_leastups "_law_leastups" = true)
    (k_leastups : PySem.W.keepIn K (.ref f_leastups) = true)
    (a_isint : PySem.W.nsIn K mainGlobals "_law_isint" = some (some (.ref f_isint)))
    (l_isint : K.lookup f_isint = some ⟨oc_isint, od_isint, .func (PySem.W.fnOf "_law_isint" "_law_isint" (defArgs s_isint) (defBody s_isint) (defScope s_isint) .none kV_isint dc_isint pm_isint an_isint cd_isint ct_isint), sl_isint⟩)
    (c_isint : PySem.W.codeIn K cd_isint "_law_isint" = true)
    (k_isint : PySem.W.keepIn K (.ref f_isint) = true)
    (a_same : PySem.W.nsIn K mainGlobals "_law_same" = some (some (.ref f_same)))
    (l_same : K.lookup f_same = some ⟨oc_same, od_same, .func (PySem.W.fnOf "_law_same" "_law_same" (defArgs s_same) (defBody s_same) (defScope s_same) .none kV_same dc_same pm_same an_same cd_same ct_same), sl_same⟩)
    (c_same : PySem.W.codeIn K cd_same "_law_same" = true)
    (k_same : PySem.W.keepIn K (.ref f_same) = true)
    (a_movesbent : PySem.W.nsIn K mainGlobals "_law_movesbent" = some (some (.ref f_movesbent)))
    (l_movesbent : K.lookup f_movesbent = some ⟨oc_movesbent, od_movesbent, .func (PySem.W.fnOf "_law_movesbent" "_law_movesbent" (defArgs s_movesbent) (defBody s_movesbent) (defScope s_movesbent) .none kV_movesbent dc_movesbent pm_movesbent an_movesbent cd_movesbent ct_movesbent), sl_movesbent⟩)
    (c_movesbent : PySem.W.codeIn K cd_movesbent "_law_movesbent" = true)
    (k_movesbent : PySem.W.keepIn K (.ref f_movesbent) = true)
    (a_kinds : PySem.W.nsIn K mainGlobals "_law_kinds" = some (some (.ref f_kinds)))
    (l_kinds : K.lookup f_kinds = some ⟨oc_kinds, od_kinds, .func (PySem.W.fnOf "_law_kinds" "_law_kinds" (defArgs s_kinds) (defBody s_kinds) (defScope s_kinds) .none kV_kinds dc_kinds pm_kinds an_kinds cd_kinds ct_kinds), sl_kinds⟩)
    (c_kinds : PySem.W.codeIn K cd_kinds "_law_kinds" = true)
    (k_kinds : PySem.W.keepIn K (.ref f_kinds) = true)
    (a_clean : PySem.W.nsIn K mainGlobals "_law_clean" = some (some (.ref f_clean)))
    (l_clean : K.lookup f_clean = some ⟨oc_clean, od_clean, .func (PySem.W.fnOf "_law_clean" "_law_clean" (defArgs s_clean) (defBody s_clean) (defScope s_clean) .none kV_clean dc_clean pm_clean an_clean cd_clean ct_clean), sl_clean⟩)
    (c_clean : PySem.W.codeIn K cd_clean "_law_clean" = true)
    (k_clean : PySem.W.keepIn K (.ref f_clean) = true)
    (a_leasttable : PySem.W.nsIn K mainGlobals "_law_leasttable" = some (some (.ref f_leasttable)))
    (l_leasttable : K.lookup f_leasttable = some ⟨oc_leasttable, od_leasttable, .func (PySem.W.fnOf "_law_leasttable" "_law_leasttable" (defArgs s_leasttable) (defBody s_leasttable) (defScope s_leasttable) .none kV_leasttable dc_leasttable pm_leasttable an_leasttable cd_leasttable ct_leasttable), sl_leasttable⟩)
    (c_leasttable : PySem.W.codeIn K cd_leasttable "_law_leasttable" = true)
    (k_leasttable : PySem.W.keepIn K (.ref f_leasttable) = true)
    (a_stopof : PySem.W.nsIn K mainGlobals "_law_stopof" = some (some (.ref f_stopof)))
    (l_stopof : K.lookup f_stopof = some ⟨oc_stopof, od_stopof, .func (PySem.W.fnOf "_law_stopof" "_law_stopof" (defArgs s_stopof) (defBody s_stopof) (defScope s_stopof) .none kV_stopof dc_stopof pm_stopof an_stopof cd_stopof ct_stopof), sl_stopof⟩)
    (c_stopof : PySem.W.codeIn K cd_stopof "_law_stopof" = true)
    (k_stopof : PySem.W.keepIn K (.ref f_stopof) = true)
    (a_listof : PySem.W.nsIn K mainGlobals "_law_listof" = some (some (.ref f_listof)))
    (l_listof : K.lookup f_listof = some ⟨oc_listof, od_listof, .func (PySem.W.fnOf "_law_listof" "_law_listof" (defArgs s_listof) (defBody s_listof) (defScope s_listof) .none kV_listof dc_listof pm_listof an_listof cd_listof ct_listof), sl_listof⟩)
    (c_listof : PySem.W.codeIn K cd_listof "_law_listof" = true)
    (k_listof : PySem.W.keepIn K (.ref f_listof) = true)
    (a_refusal : PySem.W.nsIn K mainGlobals "_law_refusal" = some (some (.ref f_refusal)))
    (l_refusal : K.lookup f_refusal = some ⟨oc_refusal, od_refusal, .func (PySem.W.fnOf "_law_refusal" "_law_refusal" (defArgs s_refusal) (defBody s_refusal) (defScope s_refusal) .none kV_refusal dc_refusal pm_refusal an_refusal cd_refusal ct_refusal), sl_refusal⟩)
    (c_refusal : PySem.W.codeIn K cd_refusal "_law_refusal" = true)
    (k_refusal : PySem.W.keepIn K (.ref f_refusal) = true)
    (a_said : PySem.W.nsIn K mainGlobals "_law_said" = some (some (.ref f_said)))
    (l_said : K.lookup f_said = some ⟨oc_said, od_said, .func (PySem.W.fnOf "_law_said" "_law_said" (defArgs s_said) (defBody s_said) (defScope s_said) .none kV_said dc_said pm_said an_said cd_said ct_said), sl_said⟩)
    (c_said : PySem.W.codeIn K cd_said "_law_said" = true)
    (k_said : PySem.W.keepIn K (.ref f_said) = true)
    (a_playsright : PySem.W.nsIn K mainGlobals "_law_playsright" = some (some (.ref f_playsright)))
    (l_playsright : K.lookup f_playsright = some ⟨oc_playsright, od_playsright, .func (PySem.W.fnOf "_law_playsright" "_law_playsright" (defArgs s_playsright) (defBody s_playsright) (defScope s_playsright) .none kV_playsright dc_playsright pm_playsright an_playsright cd_playsright ct_playsright), sl_playsright⟩)
    (c_playsright : PySem.W.codeIn K cd_playsright "_law_playsright" = true)
    (k_playsright : PySem.W.keepIn K (.ref f_playsright) = true)
    (a_listright : PySem.W.nsIn K mainGlobals "_law_listright" = some (some (.ref f_listright)))
    (l_listright : K.lookup f_listright = some ⟨oc_listright, od_listright, .func (PySem.W.fnOf "_law_listright" "_law_listright" (defArgs s_listright) (defBody s_listright) (defScope s_listright) .none kV_listright dc_listright pm_listright an_listright cd_listright ct_listright), sl_listright⟩)
    (c_listright : PySem.W.codeIn K cd_listright "_law_listright" = true)
    (k_listright : PySem.W.keepIn K (.ref f_listright) = true)
    (a_law : PySem.W.nsIn K mainGlobals "law" = some (some (.ref f_law)))
    (l_law : K.lookup f_law = some ⟨oc_law, od_law, .func (PySem.W.fnOf "law" "law" (defArgs s_law) (defBody s_law) (defScope s_law) .none kV_law dc_law pm_law an_law cd_law ct_law), sl_law⟩)
    (c_law : PySem.W.codeIn K cd_law "law" = true)
    (k_law : PySem.W.keepIn K (.ref f_law) = true)
    (b_int : PySem.W.nsIn K mainGlobals "int" = some none)
    (b_bool : PySem.W.nsIn K mainGlobals "bool" = some none)
    (b_isinstance : PySem.W.nsIn K mainGlobals "isinstance" = some none)
    (b_range : PySem.W.nsIn K mainGlobals "range" = some none)
    (b_min : PySem.W.nsIn K mainGlobals "min" = some none)
    (b_max : PySem.W.nsIn K mainGlobals "max" = some none)
    (b_abs : PySem.W.nsIn K mainGlobals "abs" = some none)
    (b_len : PySem.W.nsIn K mainGlobals "len" = some none)
    (b_list : PySem.W.nsIn K mainGlobals "list" = some none)
    (b_str : PySem.W.nsIn K mainGlobals "str" = some none)
    (b_dict : PySem.W.nsIn K mainGlobals "dict" = some none)
    (b_tuple : PySem.W.nsIn K mainGlobals "tuple" = some none)
    (b_ValueError : PySem.W.nsIn K mainGlobals "ValueError" = some none)
    (b_enumerate : PySem.W.nsIn K mainGlobals "enumerate" = some none)
    (b_repr : PySem.W.nsIn K mainGlobals "repr" = some none)
    (b_super : PySem.W.nsIn K mainGlobals "super" = some none)
    (g_VaultError : PySem.W.nsIn K mainGlobals "VaultError" = some (some (.ref C_VaultError)))
    (g_TooMany : PySem.W.nsIn K mainGlobals "TooMany" = some (some (.ref C_TooMany)))
    (g_NumberError : PySem.W.nsIn K mainGlobals "NumberError" = some (some (.ref C_NumberError)))
    (g_BadPrime : PySem.W.nsIn K mainGlobals "BadPrime" = some (some (.ref C_BadPrime)))
    (g_NoInverse : PySem.W.nsIn K mainGlobals "NoInverse" = some (some (.ref C_NoInverse)))
    (g_NoNumber : PySem.W.nsIn K mainGlobals "NoNumber" = some (some (.ref C_NoNumber)))
    (g_BadTable : PySem.W.nsIn K mainGlobals "BadTable" = some (some (.ref C_BadTable)))
    (g_BadCells : PySem.W.nsIn K mainGlobals "BadCells" = some (some (.ref C_BadCells)))
    (g_TextError : PySem.W.nsIn K mainGlobals "TextError" = some (some (.ref C_TextError)))
    (g_ShapeError : PySem.W.nsIn K mainGlobals "ShapeError" = some (some (.ref C_ShapeError)))
    (g_PlanError : PySem.W.nsIn K mainGlobals "PlanError" = some (some (.ref C_PlanError)))
    (g_CourseError : PySem.W.nsIn K mainGlobals "CourseError" = some (some (.ref C_CourseError)))
    (g_KnowError : PySem.W.nsIn K mainGlobals "KnowError" = some (some (.ref C_KnowError)))
    (g_PaperError : PySem.W.nsIn K mainGlobals "PaperError" = some (some (.ref C_PaperError)))
    (g_BadStep : PySem.W.nsIn K mainGlobals "BadStep" = some (some (.ref C_BadStep)))
    (g_BadBlind : PySem.W.nsIn K mainGlobals "BadBlind" = some (some (.ref C_BadBlind)))
    (g_BadMove : PySem.W.nsIn K mainGlobals "BadMove" = some (some (.ref C_BadMove)))
    (g_NotShut : PySem.W.nsIn K mainGlobals "NotShut" = some (some (.ref C_NotShut)))
    (g_NotOpen : PySem.W.nsIn K mainGlobals "NotOpen" = some (some (.ref C_NotOpen)))
    (g_NotTheft : PySem.W.nsIn K mainGlobals "NotTheft" = some (some (.ref C_NotTheft)))
    (g_NotPrice : PySem.W.nsIn K mainGlobals "NotPrice" = some (some (.ref C_NotPrice)))
    (N_th : nsIn K cStatics "thirdparty.any" = some none)
    (N_sp : specialIn K (.builtin "object.__class__") "__get__" = some (some (.builtin "getset_descriptor.__get__")))
    (N_tk : takesIn K (.builtin "object.__class__") = some true)
    (L_lV : K.lookup fV = some ⟨ocV, odV, .func (fnOf "__init__" "VaultError.__init__" (rootArgs pV) (rootBody qV) rootScope .none .none docV pmV anV cdvV ctV), oslV⟩)
    (L_cV : codeIn K cdvV "VaultError.__init__" = true)
    (L_tV : typeIn K (.ref fV) = some (.type "function"))
    (L_fV : fnIn K fV = true)
    (x_b : PySem.W.subIn K (.ref C_VaultError) (.type "BaseException") = some true)
    (x_i : PySem.W.isClsIn K C_VaultError = true)
    (x_t : PySem.W.typeIn K (.ref C_VaultError) = some (.type "type"))
    (xL_BadMove : K.lookup C_BadMove = some (excClassObj "BadMove" q_BadMove C_BadMove N_BadMove bs_BadMove bm_BadMove true sn_BadMove sub_BadMove ab_BadMove col_BadMove dd_BadMove k0_BadMove k1_BadMove (some (.str "BadMove" tk_BadMove)) k3_BadMove k5_BadMove "ValueError.__new__"))
    (sa_BadMove : findIn K (.ref C_BadMove) "__setattr__" = some (some (.builtin "object.__setattr__")))
    (ga_BadMove : findIn K (.ref C_BadMove) "__getattribute__" = some (some (.builtin "BaseException.__getattribute__")))
    (gg_BadMove : findIn K (.ref C_BadMove) "__getattr__" = some none)
    (cl_BadMove : findIn K (.ref C_BadMove) "__class__" = some (some (.builtin "object.__class__")))
    (mo_BadMove : mroIn K C_BadMove (.type "object") = some true)
    (nw_BadMove : findIn K (.ref C_BadMove) "word" = some none)
    (ex_BadMove : subIn K (.ref C_BadMove) (.type "BaseException") = some true)
    (ty_BadMove : typeIn K (.ref C_BadMove) = some (.type "type"))
    (kp_BadMove : keepIn K (.ref C_BadMove) = true)
    (hd_BadMove : hasDictIn K C_BadMove = true)
    (nn_BadMove : findCls K (.ref C_BadMove) (.type "type") "__name__" = some (.get (.builtin "getset_descriptor.__get__") (.builtin "type.__name__") (.ref C_BadMove) (.type "type")))
    (xb_BadMove : refsVE bm_BadMove = true)
    (iC_BadMove : findIn K (.ref C_BadMove) "__init__" = some (some (.ref fI_BadMove)))
    (tI_BadMove : typeIn K (.ref fI_BadMove) = some (.type "function"))
    (up_BadMove : ks_superIn K C_BadMove C_BadMove "__init__" = some (some (.ref fV)))
    (lI_BadMove : K.lookup fI_BadMove = some ⟨ocI_BadMove, odI_BadMove, .func (ksFn "__init__" qI_BadMove (leafArgs ⟨62, 17, 62, 21⟩ [("at", ⟨62, 23, 62, 25⟩)]) (leafBody r_BadMove st_BadMove) (leafScope ["at"]) .none .none docI_BadMove pmI_BadMove anI_BadMove (.ref cda_BadMove) ctI_BadMove cc_BadMove), oslI_BadMove⟩)
    (cI_BadMove : codeIn K (.ref cda_BadMove) qI_BadMove = true)
    (lcd_BadMove : K.lookup cda_BadMove = some ⟨ccl_BadMove, cdd_BadMove, .fields vs_BadMove, ccs_BadMove⟩)
    (fl_BadMove : vs_BadMove[2]? = some (.str P.main.file tf_BadMove))
    (lcc_BadMove : K.lookup cc_BadMove = some ⟨clc_BadMove, cld_BadMove, .cell (some (.ref C_BadMove)), csl_BadMove⟩)
    (me_BadMove : mroIn K C_BadMove (.ref C_BadMove) = some true)
    (nc_at_BadMove : findIn K (.ref C_BadMove) "at" = some none)
    (xs_BadMove : PySem.W.subIn K (.ref C_BadMove) (.ref C_VaultError) = some true)
    (q_VaultError_BadMove : PySem.W.kitOne K (.ref C_BadMove) (.ref C_VaultError) = some true)
    (q_TooMany_BadMove : PySem.W.kitOne K (.ref C_BadMove) (.ref C_TooMany) = some false)
    (q_NumberError_BadMove : PySem.W.kitOne K (.ref C_BadMove) (.ref C_NumberError) = some false)
    (q_BadPrime_BadMove : PySem.W.kitOne K (.ref C_BadMove) (.ref C_BadPrime) = some false)
    (q_NoInverse_BadMove : PySem.W.kitOne K (.ref C_BadMove) (.ref C_NoInverse) = some false)
    (q_NoNumber_BadMove : PySem.W.kitOne K (.ref C_BadMove) (.ref C_NoNumber) = some false)
    (q_BadTable_BadMove : PySem.W.kitOne K (.ref C_BadMove) (.ref C_BadTable) = some false)
    (q_BadCells_BadMove : PySem.W.kitOne K (.ref C_BadMove) (.ref C_BadCells) = some false)
    (q_TextError_BadMove : PySem.W.kitOne K (.ref C_BadMove) (.ref C_TextError) = some false)
    (q_ShapeError_BadMove : PySem.W.kitOne K (.ref C_BadMove) (.ref C_ShapeError) = some false)
    (q_PlanError_BadMove : PySem.W.kitOne K (.ref C_BadMove) (.ref C_PlanError) = some false)
    (q_CourseError_BadMove : PySem.W.kitOne K (.ref C_BadMove) (.ref C_CourseError) = some false)
    (q_KnowError_BadMove : PySem.W.kitOne K (.ref C_BadMove) (.ref C_KnowError) = some false)
    (q_PaperError_BadMove : PySem.W.kitOne K (.ref C_BadMove) (.ref C_PaperError) = some true)
    (q_BadStep_BadMove : PySem.W.kitOne K (.ref C_BadMove) (.ref C_BadStep) = some false)
    (q_BadBlind_BadMove : PySem.W.kitOne K (.ref C_BadMove) (.ref C_BadBlind) = some false)
    (q_BadMove_BadMove : PySem.W.kitOne K (.ref C_BadMove) (.ref C_BadMove) = some true)
    (q_NotShut_BadMove : PySem.W.kitOne K (.ref C_BadMove) (.ref C_NotShut) = some false)
    (q_NotOpen_BadMove : PySem.W.kitOne K (.ref C_BadMove) (.ref C_NotOpen) = some false)
    (q_NotTheft_BadMove : PySem.W.kitOne K (.ref C_BadMove) (.ref C_NotTheft) = some false)
    (q_NotPrice_BadMove : PySem.W.kitOne K (.ref C_BadMove) (.ref C_NotPrice) = some false)
    (q_Value_BadMove : PySem.W.kitOne K (.ref C_BadMove) (.type "ValueError") = some true)
    (no_cells_BadMove : findIn K (.ref C_BadMove) "cells" = some none)
    (xL_BadCells : K.lookup C_BadCells = some (excClassObj "BadCells" q_BadCells C_BadCells N_BadCells bs_BadCells bm_BadCells true sn_BadCells sub_BadCells ab_BadCells col_BadCells dd_BadCells k0_BadCells k1_BadCells (some (.str "BadCells" tk_BadCells)) k3_BadCells k5_BadCells "ValueError.__new__"))
    (sa_BadCells : findIn K (.ref C_BadCells) "__setattr__" = some (some (.builtin "object.__setattr__")))
    (ga_BadCells : findIn K (.ref C_BadCells) "__getattribute__" = some (some (.builtin "BaseException.__getattribute__")))
    (gg_BadCells : findIn K (.ref C_BadCells) "__getattr__" = some none)
    (cl_BadCells : findIn K (.ref C_BadCells) "__class__" = some (some (.builtin "object.__class__")))
    (mo_BadCells : mroIn K C_BadCells (.type "object") = some true)
    (nw_BadCells : findIn K (.ref C_BadCells) "word" = some none)
    (ex_BadCells : subIn K (.ref C_BadCells) (.type "BaseException") = some true)
    (ty_BadCells : typeIn K (.ref C_BadCells) = some (.type "type"))
    (kp_BadCells : keepIn K (.ref C_BadCells) = true)
    (hd_BadCells : hasDictIn K C_BadCells = true)
    (nn_BadCells : findCls K (.ref C_BadCells) (.type "type") "__name__" = some (.get (.builtin "getset_descriptor.__get__") (.builtin "type.__name__") (.ref C_BadCells) (.type "type")))
    (xb_BadCells : refsVE bm_BadCells = true)
    (iC_BadCells : findIn K (.ref C_BadCells) "__init__" = some (some (.ref fI_BadCells)))
    (tI_BadCells : typeIn K (.ref fI_BadCells) = some (.type "function"))
    (up_BadCells : ks_superIn K C_BadCells C_BadCells "__init__" = some (some (.ref fV)))
    (lI_BadCells : K.lookup fI_BadCells = some ⟨ocI_BadCells, odI_BadCells, .func (ksFn "__init__" qI_BadCells (leafArgs ⟨35, 17, 35, 21⟩ [("cells", ⟨35, 23, 35, 28⟩)]) (leafBody r_BadCells st_BadCells) (leafScope ["cells"]) .none .none docI_BadCells pmI_BadCells anI_BadCells (.ref cda_BadCells) ctI_BadCells cc_BadCells), oslI_BadCells⟩)
    (cI_BadCells : codeIn K (.ref cda_BadCells) qI_BadCells = true)
    (lcd_BadCells : K.lookup cda_BadCells = some ⟨ccl_BadCells, cdd_BadCells, .fields vs_BadCells, ccs_BadCells⟩)
    (fl_BadCells : vs_BadCells[2]? = some (.str P.main.file tf_BadCells))
    (lcc_BadCells : K.lookup cc_BadCells = some ⟨clc_BadCells, cld_BadCells, .cell (some (.ref C_BadCells)), csl_BadCells⟩)
    (me_BadCells : mroIn K C_BadCells (.ref C_BadCells) = some true)
    (nc_cells_BadCells : findIn K (.ref C_BadCells) "cells" = some none)
    (xs_BadCells : PySem.W.subIn K (.ref C_BadCells) (.ref C_VaultError) = some true)
    (q_VaultError_BadCells : PySem.W.kitOne K (.ref C_BadCells) (.ref C_VaultError) = some true)
    (q_TooMany_BadCells : PySem.W.kitOne K (.ref C_BadCells) (.ref C_TooMany) = some false)
    (q_NumberError_BadCells : PySem.W.kitOne K (.ref C_BadCells) (.ref C_NumberError) = some true)
    (q_BadPrime_BadCells : PySem.W.kitOne K (.ref C_BadCells) (.ref C_BadPrime) = some false)
    (q_NoInverse_BadCells : PySem.W.kitOne K (.ref C_BadCells) (.ref C_NoInverse) = some false)
    (q_NoNumber_BadCells : PySem.W.kitOne K (.ref C_BadCells) (.ref C_NoNumber) = some false)
    (q_BadTable_BadCells : PySem.W.kitOne K (.ref C_BadCells) (.ref C_BadTable) = some false)
    (q_BadCells_BadCells : PySem.W.kitOne K (.ref C_BadCells) (.ref C_BadCells) = some true)
    (q_TextError_BadCells : PySem.W.kitOne K (.ref C_BadCells) (.ref C_TextError) = some false)
    (q_ShapeError_BadCells : PySem.W.kitOne K (.ref C_BadCells) (.ref C_ShapeError) = some false)
    (q_PlanError_BadCells : PySem.W.kitOne K (.ref C_BadCells) (.ref C_PlanError) = some false)
    (q_CourseError_BadCells : PySem.W.kitOne K (.ref C_BadCells) (.ref C_CourseError) = some false)
    (q_KnowError_BadCells : PySem.W.kitOne K (.ref C_BadCells) (.ref C_KnowError) = some false)
    (q_PaperError_BadCells : PySem.W.kitOne K (.ref C_BadCells) (.ref C_PaperError) = some false)
    (q_BadStep_BadCells : PySem.W.kitOne K (.ref C_BadCells) (.ref C_BadStep) = some false)
    (q_BadBlind_BadCells : PySem.W.kitOne K (.ref C_BadCells) (.ref C_BadBlind) = some false)
    (q_BadMove_BadCells : PySem.W.kitOne K (.ref C_BadCells) (.ref C_BadMove) = some false)
    (q_NotShut_BadCells : PySem.W.kitOne K (.ref C_BadCells) (.ref C_NotShut) = some false)
    (q_NotOpen_BadCells : PySem.W.kitOne K (.ref C_BadCells) (.ref C_NotOpen) = some false)
    (q_NotTheft_BadCells : PySem.W.kitOne K (.ref C_BadCells) (.ref C_NotTheft) = some false)
    (q_NotPrice_BadCells : PySem.W.kitOne K (.ref C_BadCells) (.ref C_NotPrice) = some false)
    (q_Value_BadCells : PySem.W.kitOne K (.ref C_BadCells) (.type "ValueError") = some true)
    (no_at_BadCells : findIn K (.ref C_BadCells) "at" = some none) :
    ∃ fd : FuncData, (∀ (s : Shared) (v : Value), BindsTo s fd ⟨[v], []⟩ [("script", v)]) ∧ ∀ base : Heap, K.In base → base.Ns mainGlobals mg → FnG P w K mg base 135 fa fd ["script"] (spLaw K) := by
  have e := hfa.symm.trans (PySem.W.mg_of X G a_law)
  cases e
  have root : Root K fV := ⟨⟨_, _, _, _, _, _, _, _, _, qV, L_lV, L_cV, by decide⟩, L_tV⟩
  have kind_BadMove : Kind K C_BadMove "BadMove" := { cls := ⟨_, _, _, _, _, _, _, _, _, _, _, _, _, _, xL_BadMove, xb_BadMove⟩, sa := sa_BadMove, ga := ga_BadMove, gg := gg_BadMove, cl := cl_BadMove, sp := N_sp, tk := N_tk, mo := mo_BadMove, nw := nw_BadMove, ex := ex_BadMove, ty := ty_BadMove, kp := kp_BadMove, hd := hd_BadMove, nn := nn_BadMove, th := N_th, sz := by decide }
  have hb_BadMove : ∀ (s : Shared) (x : Value) (us : List Value), us.length = (["at"] : List Str).length → BindsTo s (ksFn "__init__" qI_BadMove (leafArgs ⟨62, 17, 62, 21⟩ [("at", ⟨62, 23, 62, 25⟩)]) (leafBody r_BadMove st_BadMove) (leafScope ["at"]) .none .none docI_BadMove pmI_BadMove anI_BadMove (.ref cda_BadMove) ctI_BadMove cc_BadMove) ⟨x :: us, []⟩ ((("self" : Str) :: ["at"]).zip (x :: us)) := fun s x us hl => match us, hl with
    | [_], _ => .of_eq rfl
  have nf_BadMove : ∀ f ∈ (["at"] : List Str), findIn K (.ref C_BadMove) f = some none ∧ (f == ("__debug__" : Str)) = false ∧ (leafScope ["at"]).names.lookup f = some .local ∧ ¬ f = "self" := fun f hf => by
    simp only [List.mem_cons, List.mem_nil_iff, or_false] at hf
    rcases hf with rfl
    · exact ⟨nc_at_BadMove, by decide, by decide, by decide⟩
  have leaf_BadMove : Leaf P K mg C_BadMove fV fI_BadMove "BadMove" ["at"] := { kind := kind_BadMove, root := root, top := ptop, ms := PySem.W.mg_none_of X G b_super, iC := iC_BadMove, tI := tI_BadMove, up := up_BadMove, fV := L_fV, fn := ⟨qI_BadMove, _, _, _, _, _, _, _, _, _, _, [("at", ⟨62, 23, 62, 25⟩)], r_BadMove, st_BadMove, _, _, _, _, _, _, _, _, lI_BadMove, cI_BadMove, lcd_BadMove, fl_BadMove, by decide, lcc_BadMove, .cons _ _ _ _ (.nil), hb_BadMove⟩, nf := nf_BadMove, nd := by decide, few := by decide, ks := by decide, kc := by decide, me := me_BadMove }
  have ix_BadMove := exm_of2 x_b x_i x_t xs_BadMove
  have kind_BadCells : Kind K C_BadCells "BadCells" := { cls := ⟨_, _, _, _, _, _, _, _, _, _, _, _, _, _, xL_BadCells, xb_BadCells⟩, sa := sa_BadCells, ga := ga_BadCells, gg := gg_BadCells, cl := cl_BadCells, sp := N_sp, tk := N_tk, mo := mo_BadCells, nw := nw_BadCells, ex := ex_BadCells, ty := ty_BadCells, kp := kp_BadCells, hd := hd_BadCells, nn := nn_BadCells, th := N_th, sz := by decide }
  have hb_BadCells : ∀ (s : Shared) (x : Value) (us : List Value), us.length = (["cells"] : List Str).length → BindsTo s (ksFn "__init__" qI_BadCells (leafArgs ⟨35, 17, 35, 21⟩ [("cells", ⟨35, 23, 35, 28⟩)]) (leafBody r_BadCells st_BadCells) (leafScope ["cells"]) .none .none docI_BadCells pmI_BadCells anI_BadCells (.ref cda_BadCells) ctI_BadCells cc_BadCells) ⟨x :: us, []⟩ ((("self" : Str) :: ["cells"]).zip (x :: us)) := fun s x us hl => match us, hl with
    | [_], _ => .of_eq rfl
  have nf_BadCells : ∀ f ∈ (["cells"] : List Str), findIn K (.ref C_BadCells) f = some none ∧ (f == ("__debug__" : Str)) = false ∧ (leafScope ["cells"]).names.lookup f = some .local ∧ ¬ f = "self" := fun f hf => by
    simp only [List.mem_cons, List.mem_nil_iff, or_false] at hf
    rcases hf with rfl
    · exact ⟨nc_cells_BadCells, by decide, by decide, by decide⟩
  have leaf_BadCells : Leaf P K mg C_BadCells fV fI_BadCells "BadCells" ["cells"] := { kind := kind_BadCells, root := root, top := ptop, ms := PySem.W.mg_none_of X G b_super, iC := iC_BadCells, tI := tI_BadCells, up := up_BadCells, fV := L_fV, fn := ⟨qI_BadCells, _, _, _, _, _, _, _, _, _, _, [("cells", ⟨35, 23, 35, 28⟩)], r_BadCells, st_BadCells, _, _, _, _, _, _, _, _, lI_BadCells, cI_BadCells, lcd_BadCells, fl_BadCells, by decide, lcc_BadCells, .cons _ _ _ _ (.nil), hb_BadCells⟩, nf := nf_BadCells, nd := by decide, few := by decide, ks := by decide, kc := by decide, me := me_BadCells }
  have ix_BadCells := exm_of2 x_b x_i x_t xs_BadCells
  have T : Txt P K mg C_VaultError C_TooMany C_NumberError C_BadPrime C_NoInverse C_NoNumber C_BadTable C_BadCells C_TextError C_ShapeError C_PlanError C_CourseError C_KnowError C_PaperError C_BadStep C_BadBlind C_BadMove C_NotShut C_NotOpen C_NotTheft C_NotPrice fV fI_BadMove fI_BadCells := { b_int := PySem.W.mg_none_of X G b_int, b_bool := PySem.W.mg_none_of X G b_bool, b_isinstance := PySem.W.mg_none_of X G b_isinstance, b_range := PySem.W.mg_none_of X G b_range, b_min := PySem.W.mg_none_of X G b_min, b_max := PySem.W.mg_none_of X G b_max, b_abs := PySem.W.mg_none_of X G b_abs, b_len := PySem.W.mg_none_of X G b_len, b_list := PySem.W.mg_none_of X G b_list, b_str := PySem.W.mg_none_of X G b_str, b_dict := PySem.W.mg_none_of X G b_dict, b_tuple := PySem.W.mg_none_of X G b_tuple, b_ValueError := PySem.W.mg_none_of X G b_ValueError, b_enumerate := PySem.W.mg_none_of X G b_enumerate, b_repr := PySem.W.mg_none_of X G b_repr, g_VaultError := PySem.W.mg_of X G g_VaultError, g_TooMany := PySem.W.mg_of X G g_TooMany, g_NumberError := PySem.W.mg_of X G g_NumberError, g_BadPrime := PySem.W.mg_of X G g_BadPrime, g_NoInverse := PySem.W.mg_of X G g_NoInverse, g_NoNumber := PySem.W.mg_of X G g_NoNumber, g_BadTable := PySem.W.mg_of X G g_BadTable, g_BadCells := PySem.W.mg_of X G g_BadCells, g_TextError := PySem.W.mg_of X G g_TextError, g_ShapeError := PySem.W.mg_of X G g_ShapeError, g_PlanError := PySem.W.mg_of X G g_PlanError, g_CourseError := PySem.W.mg_of X G g_CourseError, g_KnowError := PySem.W.mg_of X G g_KnowError, g_PaperError := PySem.W.mg_of X G g_PaperError, g_BadStep := PySem.W.mg_of X G g_BadStep, g_BadBlind := PySem.W.mg_of X G g_BadBlind, g_BadMove := PySem.W.mg_of X G g_BadMove, g_NotShut := PySem.W.mg_of X G g_NotShut, g_NotOpen := PySem.W.mg_of X G g_NotOpen, g_NotTheft := PySem.W.mg_of X G g_NotTheft, g_NotPrice := PySem.W.mg_of X G g_NotPrice, lf_BadMove := leaf_BadMove, ix_BadMove := ix_BadMove, k_BadMove_VaultError := q_VaultError_BadMove, k_BadMove_TooMany := q_TooMany_BadMove, k_BadMove_NumberError := q_NumberError_BadMove, k_BadMove_BadPrime := q_BadPrime_BadMove, k_BadMove_NoInverse := q_NoInverse_BadMove, k_BadMove_NoNumber := q_NoNumber_BadMove, k_BadMove_BadTable := q_BadTable_BadMove, k_BadMove_BadCells := q_BadCells_BadMove, k_BadMove_TextError := q_TextError_BadMove, k_BadMove_ShapeError := q_ShapeError_BadMove, k_BadMove_PlanError := q_PlanError_BadMove, k_BadMove_CourseError := q_CourseError_BadMove, k_BadMove_KnowError := q_KnowError_BadMove, k_BadMove_PaperError := q_PaperError_BadMove, k_BadMove_BadStep := q_BadStep_BadMove, k_BadMove_BadBlind := q_BadBlind_BadMove, k_BadMove_BadMove := q_BadMove_BadMove, k_BadMove_NotShut := q_NotShut_BadMove, k_BadMove_NotOpen := q_NotOpen_BadMove, k_BadMove_NotTheft := q_NotTheft_BadMove, k_BadMove_NotPrice := q_NotPrice_BadMove, k_BadMove_ValueError := q_Value_BadMove, no_BadMove_cells := no_cells_BadMove, lf_BadCells := leaf_BadCells, ix_BadCells := ix_BadCells, k_BadCells_VaultError := q_VaultError_BadCells, k_BadCells_TooMany := q_TooMany_BadCells, k_BadCells_NumberError := q_NumberError_BadCells, k_BadCells_BadPrime := q_BadPrime_BadCells, k_BadCells_NoInverse := q_NoInverse_BadCells, k_BadCells_NoNumber := q_NoNumber_BadCells, k_BadCells_BadTable := q_BadTable_BadCells, k_BadCells_BadCells := q_BadCells_BadCells, k_BadCells_TextError := q_TextError_BadCells, k_BadCells_ShapeError := q_ShapeError_BadCells, k_BadCells_PlanError := q_PlanError_BadCells, k_BadCells_CourseError := q_CourseError_BadCells, k_BadCells_KnowError := q_KnowError_BadCells, k_BadCells_PaperError := q_PaperError_BadCells, k_BadCells_BadStep := q_BadStep_BadCells, k_BadCells_BadBlind := q_BadBlind_BadCells, k_BadCells_BadMove := q_BadMove_BadCells, k_BadCells_NotShut := q_NotShut_BadCells, k_BadCells_NotOpen := q_NotOpen_BadCells, k_BadCells_NotTheft := q_NotTheft_BadCells, k_BadCells_NotPrice := q_NotPrice_BadCells, k_BadCells_ValueError := q_Value_BadCells, no_BadCells_at := no_at_BadCells }
  have F_is_whole := fun_mk (st := s_is_whole) l_is_whole c_is_whole k_is_whole
  have D_is_whole : Def K mg "is_whole" s_is_whole p_is_whole f_is_whole _ := ⟨F_is_whole, PySem.W.mg_of X G a_is_whole, F_is_whole.binds (ps := p_is_whole) fun _ _ _ _ _ _ us hl => match us, hl with | [_], _ => rfl⟩
  have F_lies_within := fun_mk (st := s_lies_within) l_lies_within c_lies_within k_lies_within
  have D_lies_within : Def K mg "lies_within" s_lies_within p_lies_within f_lies_within _ := ⟨F_lies_within, PySem.W.mg_of X G a_lies_within, F_lies_within.binds (ps := p_lies_within) fun _ _ _ _ _ _ us hl => match us, hl with | [_, _, _], _ => rfl⟩
  have F_choose := fun_mk (st := s_choose) l_choose c_choose k_choose
  have D_choose : Def K mg "choose" s_choose p_choose f_choose _ := ⟨F_choose, PySem.W.mg_of X G a_choose, F_choose.binds (ps := p_choose) fun _ _ _ _ _ _ us hl => match us, hl with | [_, _], _ => rfl⟩
  have F_need_cells := fun_mk (st := s_need_cells) l_need_cells c_need_cells k_need_cells
  have D_need_cells : Def K mg "need_cells" s_need_cells p_need_cells f_need_cells _ := ⟨F_need_cells, PySem.W.mg_of X G a_need_cells, F_need_cells.binds (ps := p_need_cells) fun _ _ _ _ _ _ us hl => match us, hl with | [_], _ => rfl⟩
  have F_rounds := fun_mk (st := s_rounds) l_rounds c_rounds k_rounds
  have D_rounds : Def K mg "rounds" s_rounds p_rounds f_rounds _ := ⟨F_rounds, PySem.W.mg_of X G a_rounds, F_rounds.binds (ps := p_rounds) fun _ _ _ _ _ _ us hl => match us, hl with | [_, _], _ => rfl⟩
  have F_least_steps := fun_mk (st := s_least_steps) l_least_steps c_least_steps k_least_steps
  have D_least_steps : Def K mg "least_steps" s_least_steps p_least_steps f_least_steps _ := ⟨F_least_steps, PySem.W.mg_of X G a_least_steps, F_least_steps.binds (ps := p_least_steps) fun _ _ _ _ _ _ us hl => match us, hl with | [_, _], _ => rfl⟩
  have F_best_stop := fun_mk (st := s_best_stop) l_best_stop c_best_stop k_best_stop
  have D_best_stop : Def K mg "best_stop" s_best_stop p_best_stop f_best_stop _ := ⟨F_best_stop, PySem.W.mg_of X G a_best_stop, F_best_stop.binds (ps := p_best_stop) fun _ _ _ _ _ _ us hl => match us, hl with | [_, _], _ => rfl⟩
  have F_move_list := fun_mk (st := s_move_list) l_move_list c_move_list k_move_list
  have D_move_list : Def K mg "move_list" s_move_list p_move_list f_move_list _ := ⟨F_move_list, PySem.W.mg_of X G a_move_list, F_move_list.binds (ps := p_move_list) fun _ _ _ _ _ _ us hl => match us, hl with | [_, _], _ => rfl⟩
  have F_write_moves := fun_mk (st := s_write_moves) l_write_moves c_write_moves k_write_moves
  have D_write_moves : Def K mg "_write_moves" s_write_moves p_write_moves f_write_moves _ := ⟨F_write_moves, PySem.W.mg_of X G a_write_moves, F_write_moves.binds (ps := p_write_moves) fun _ _ _ _ _ _ us hl => match us, hl with | [_, _, _, _, _], _ => rfl⟩
  have F_check_moves := fun_mk (st := s_check_moves) l_check_moves c_check_moves k_check_moves
  have D_check_moves : Def K mg "check_moves" s_check_moves p_check_moves f_check_moves _ := ⟨F_check_moves, PySem.W.mg_of X G a_check_moves, F_check_moves.binds (ps := p_check_moves) fun _ _ _ _ _ _ us hl => match us, hl with | [_, _, _], _ => rfl⟩
  have F_is_move := fun_mk (st := s_is_move) l_is_move c_is_move k_is_move
  have D_is_move : Def K mg "_is_move" s_is_move p_is_move f_is_move _ := ⟨F_is_move, PySem.W.mg_of X G a_is_move, F_is_move.binds (ps := p_is_move) fun _ _ _ _ _ _ us hl => match us, hl with | [_, _], _ => rfl⟩
  have F_store := fun_mk (st := s_store) l_store c_store k_store
  have D_store : Def K mg "_law_store" s_store p_store f_store _ := ⟨F_store, PySem.W.mg_of X G a_store, F_store.binds (ps := p_store) fun _ _ _ _ _ _ us hl => match us, hl with | [_], _ => rfl⟩
  have F_mix := fun_mk (st := s_mix) l_mix c_mix k_mix
  have D_mix : Def K mg "_law_mix" s_mix p_mix f_mix _ := ⟨F_mix, PySem.W.mg_of X G a_mix, F_mix.binds (ps := p_mix) fun _ _ _ _ _ _ us hl => match us, hl with | [_, _], _ => rfl⟩
  have F_take := fun_mk (st := s_take) l_take c_take k_take
  have D_take : Def K mg "_law_take" s_take p_take f_take _ := ⟨F_take, PySem.W.mg_of X G a_take, F_take.binds (ps := p_take) fun _ _ _ _ _ _ us hl => match us, hl with | [_, _], _ => rfl⟩
  have F_edge := fun_mk (st := s_edge) l_edge c_edge k_edge
  have D_edge : Def K mg "_law_edge" s_edge p_edge f_edge _ := ⟨F_edge, PySem.W.mg_of X G a_edge, F_edge.binds (ps := p_edge) fun _ _ _ _ _ _ us hl => match us, hl with | [_, _], _ => rfl⟩
  have F_odds := fun_mk (st := s_odds) l_odds c_odds k_odds
  have D_odds : Def K mg "_law_odds" s_odds p_odds f_odds _ := ⟨F_odds, PySem.W.mg_of X G a_odds, F_odds.binds (ps := p_odds) fun _ _ _ _ _ _ us hl => match us, hl with | [_, _], _ => rfl⟩
  have F_pick := fun_mk (st := s_pick) l_pick c_pick k_pick
  have D_pick : Def K mg "_law_pick" s_pick p_pick f_pick _ := ⟨F_pick, PySem.W.mg_of X G a_pick, F_pick.binds (ps := p_pick) fun _ _ _ _ _ _ us hl => match us, hl with | [_, _], _ => rfl⟩
  have F_length := fun_mk (st := s_length) l_length c_length k_length
  have D_length : Def K mg "_law_length" s_length p_length f_length _ := ⟨F_length, PySem.W.mg_of X G a_length, F_length.binds (ps := p_length) fun _ _ _ _ _ _ us hl => match us, hl with | [_], _ => rfl⟩
  have F_cellcount := fun_mk (st := s_cellcount) l_cellcount c_cellcount k_cellcount
  have D_cellcount : Def K mg "_law_cellcount" s_cellcount p_cellcount f_cellcount _ := ⟨F_cellcount, PySem.W.mg_of X G a_cellcount, F_cellcount.binds (ps := p_cellcount) fun _ _ _ _ _ _ us hl => match us, hl with | [_], _ => rfl⟩
  have F_badcells := fun_mk (st := s_badcells) l_badcells c_badcells k_badcells
  have D_badcells : Def K mg "_law_badcells" s_badcells p_badcells f_badcells _ := ⟨F_badcells, PySem.W.mg_of X G a_badcells, F_badcells.binds (ps := p_badcells) fun _ _ _ _ _ _ us hl => match us, hl with | [_], _ => rfl⟩
  have F_moves := fun_mk (st := s_moves) l_moves c_moves k_moves
  have D_moves : Def K mg "_law_moves" s_moves p_moves f_moves _ := ⟨F_moves, PySem.W.mg_of X G a_moves, F_moves.binds (ps := p_moves) fun _ _ _ _ _ _ us hl => match us, hl with | [_, _, _, _, _], _ => rfl⟩
  have F_play := fun_mk (st := s_play) l_play c_play k_play
  have D_play : Def K mg "_law_play" s_play p_play f_play _ := ⟨F_play, PySem.W.mg_of X G a_play, F_play.binds (ps := p_play) fun _ _ _ _ _ _ us hl => match us, hl with | [_, _, _], _ => rfl⟩
  have F_moveshape := fun_mk (st := s_moveshape) l_moveshape c_moveshape k_moveshape
  have D_moveshape : Def K mg "_law_moveshape" s_moveshape p_moveshape f_moveshape _ := ⟨F_moveshape, PySem.W.mg_of X G a_moveshape, F_moveshape.binds (ps := p_moveshape) fun _ _ _ _ _ _ us hl => match us, hl with | [_, _], _ => rfl⟩
  have F_leastups := fun_mk (st := s_leastups) l_leastups c_leastups k_leastups
  have D_leastups : Def K mg "_law_leastups" s_leastups p_leastups f_leastups _ := ⟨F_leastups, PySem.W.mg_of X G a_leastups, F_leastups.binds (ps := p_leastups) fun _ _ _ _ _ _ us hl => match us, hl with | [_, _], _ => rfl⟩
  have F_isint := fun_mk (st := s_isint) l_isint c_isint k_isint
  have D_isint : Def K mg "_law_isint" s_isint p_isint f_isint _ := ⟨F_isint, PySem.W.mg_of X G a_isint, F_isint.binds (ps := p_isint) fun _ _ _ _ _ _ us hl => match us, hl with | [_], _ => rfl⟩
  have F_same := fun_mk (st := s_same) l_same c_same k_same
  have D_same : Def K mg "_law_same" s_same p_same f_same _ := ⟨F_same, PySem.W.mg_of X G a_same, F_same.binds (ps := p_same) fun _ _ _ _ _ _ us hl => match us, hl with | [_, _], _ => rfl⟩
  have F_movesbent := fun_mk (st := s_movesbent) l_movesbent c_movesbent k_movesbent
  have D_movesbent : Def K mg "_law_movesbent" s_movesbent p_movesbent f_movesbent _ := ⟨F_movesbent, PySem.W.mg_of X G a_movesbent, F_movesbent.binds (ps := p_movesbent) fun _ _ _ _ _ _ us hl => match us, hl with | [_, _, _], _ => rfl⟩
  have F_kinds := fun_mk (st := s_kinds) l_kinds c_kinds k_kinds
  have D_kinds : Def K mg "_law_kinds" s_kinds p_kinds f_kinds _ := ⟨F_kinds, PySem.W.mg_of X G a_kinds, F_kinds.binds (ps := p_kinds) fun _ _ _ _ _ _ us hl => match us, hl with | [_], _ => rfl⟩
  have F_clean := fun_mk (st := s_clean) l_clean c_clean k_clean
  have D_clean : Def K mg "_law_clean" s_clean p_clean f_clean _ := ⟨F_clean, PySem.W.mg_of X G a_clean, F_clean.binds (ps := p_clean) fun _ _ _ _ _ _ us hl => match us, hl with | [_, _, _], _ => rfl⟩
  have F_leasttable := fun_mk (st := s_leasttable) l_leasttable c_leasttable k_leasttable
  have D_leasttable : Def K mg "_law_leasttable" s_leasttable p_leasttable f_leasttable _ := ⟨F_leasttable, PySem.W.mg_of X G a_leasttable, F_leasttable.binds (ps := p_leasttable) fun _ _ _ _ _ _ us hl => match us, hl with | [_, _], _ => rfl⟩
  have F_stopof := fun_mk (st := s_stopof) l_stopof c_stopof k_stopof
  have D_stopof : Def K mg "_law_stopof" s_stopof p_stopof f_stopof _ := ⟨F_stopof, PySem.W.mg_of X G a_stopof, F_stopof.binds (ps := p_stopof) fun _ _ _ _ _ _ us hl => match us, hl with | [_, _, _], _ => rfl⟩
  have F_listof := fun_mk (st := s_listof) l_listof c_listof k_listof
  have D_listof : Def K mg "_law_listof" s_listof p_listof f_listof _ := ⟨F_listof, PySem.W.mg_of X G a_listof, F_listof.binds (ps := p_listof) fun _ _ _ _ _ _ us hl => match us, hl with | [_, _], _ => rfl⟩
  have F_refusal := fun_mk (st := s_refusal) l_refusal c_refusal k_refusal
  have D_refusal : Def K mg "_law_refusal" s_refusal p_refusal f_refusal _ := ⟨F_refusal, PySem.W.mg_of X G a_refusal, F_refusal.binds (ps := p_refusal) fun _ _ _ _ _ _ us hl => match us, hl with | [_], _ => rfl⟩
  have F_said := fun_mk (st := s_said) l_said c_said k_said
  have D_said : Def K mg "_law_said" s_said p_said f_said _ := ⟨F_said, PySem.W.mg_of X G a_said, F_said.binds (ps := p_said) fun _ _ _ _ _ _ us hl => match us, hl with | [_, _, _], _ => rfl⟩
  have F_playsright := fun_mk (st := s_playsright) l_playsright c_playsright k_playsright
  have D_playsright : Def K mg "_law_playsright" s_playsright p_playsright f_playsright _ := ⟨F_playsright, PySem.W.mg_of X G a_playsright, F_playsright.binds (ps := p_playsright) fun _ _ _ _ _ _ us hl => match us, hl with | [_, _, _], _ => rfl⟩
  have F_listright := fun_mk (st := s_listright) l_listright c_listright k_listright
  have D_listright : Def K mg "_law_listright" s_listright p_listright f_listright _ := ⟨F_listright, PySem.W.mg_of X G a_listright, F_listright.binds (ps := p_listright) fun _ _ _ _ _ _ us hl => match us, hl with | [_, _, _], _ => rfl⟩
  have F_law := fun_mk (st := s_law) l_law c_law k_law
  refine ⟨PySem.W.fnOf "law" "law" (defArgs s_law) (defBody s_law) (defScope s_law) .none kV_law dc_law pm_law an_law cd_law ct_law, fun s v => .of_eq rfl, fun base _ _ => ?_⟩
  have G_store := ok_store (w := w) (base := base) T F_store 
  have G_mix := ok_mix (w := w) (base := base) T F_mix 
  have G_take := ok_take (w := w) (base := base) T F_take D_mix G_mix
  have G_edge := ok_edge (w := w) (base := base) T F_edge D_take G_take
  have G_length := ok_length (w := w) (base := base) T F_length D_take G_take D_edge G_edge
  have G_odds := ok_odds (w := w) (base := base) T F_odds D_take G_take
  have G_cellcount := ok_cellcount (w := w) (base := base) T F_cellcount D_take G_take D_edge G_edge D_odds G_odds
  have G_leastups := ok_leastups (w := w) (base := base) T F_leastups 
  have G_leasttable := ok_leasttable (w := w) (base := base) T F_leasttable D_leastups G_leastups
  have G_stopof := ok_stopof (w := w) (base := base) T F_stopof 
  have G_listof := ok_listof (w := w) (base := base) T F_listof D_leasttable G_leasttable D_stopof G_stopof
  have G_is_whole := ok_is_whole (w := w) (base := base) T F_is_whole 
  have G_need_cells := ok_need_cells (w := w) (base := base) T F_need_cells D_is_whole G_is_whole
  have G_choose := ok_choose (w := w) (base := base) T F_choose 
  have G_rounds := ok_rounds (w := w) (base := base) T F_rounds D_need_cells G_need_cells D_choose G_choose
  have G_least_steps := ok_least_steps (w := w) (base := base) T F_least_steps D_rounds G_rounds D_choose G_choose
  have G_best_stop := ok_best_stop (w := w) (base := base) T F_best_stop D_need_cells G_need_cells D_least_steps G_least_steps
  have G_write_moves := ok_write (w := w) (base := base) T F_write_moves D_write_moves D_best_stop G_best_stop 124
  have G_move_list := ok_move_list (w := w) (base := base) T F_move_list D_need_cells G_need_cells D_write_moves G_write_moves
  have G_same := ok_same (w := w) (base := base) T F_same D_same 6
  have E_same := okE_same (w := w) (base := base) T F_same
  have G_lies_within := ok_lies_within (w := w) (base := base) T F_lies_within D_is_whole G_is_whole
  have G_is_move := ok_is_move (w := w) (base := base) T F_is_move D_lies_within G_lies_within
  have G_check_moves := ok_check_moves (w := w) (base := base) T F_check_moves D_need_cells G_need_cells D_is_move G_is_move
  have E_kindsM := ok_kinds_BadMove (w := w) (base := base) T F_kinds
  have E_kindsC := ok_kinds_BadCells (w := w) (base := base) T F_kinds
  have E_cleanM := ok_clean_BadMove (w := w) (base := base) T F_clean D_same E_same D_kinds E_kindsM
  have E_cleanC := ok_clean_BadCells (w := w) (base := base) T F_clean D_same E_same D_kinds E_kindsC
  have E_refusalM := ok_refusal_BadMove (w := w) (base := base) T F_refusal D_clean E_cleanM
  have E_refusalC := ok_refusal_BadCells (w := w) (base := base) T F_refusal D_clean E_cleanC
  have E_refusal2 := ref2 E_refusalM E_refusalC
  have G_said := ok_said (w := w) (base := base) T F_said D_move_list G_move_list D_check_moves G_check_moves D_refusal E_refusal2
  have G_pick := ok_pick (w := w) (base := base) T F_pick D_take G_take
  have G_movesbent := ok_movesbent (w := w) (base := base) T F_movesbent D_take G_take D_pick G_pick
  have G_isint := ok_isint (w := w) (base := base) T F_isint 
  have G_moveshape := ok_moveshape (w := w) (base := base) T F_moveshape D_isint G_isint
  have G_play := ok_play (w := w) (base := base) T F_play D_moveshape G_moveshape
  have G_playsright := ok_playsright (w := w) (base := base) T F_playsright D_play G_play D_same G_same D_said G_said
  have G_listright := ok_listright (w := w) (base := base) T F_listright D_listof G_listof D_move_list G_move_list D_same G_same D_said G_said D_leastups G_leastups D_movesbent G_movesbent D_playsright G_playsright
  have G_moves := ok_moves (w := w) (base := base) T F_moves D_moves D_edge G_edge 41
  have G_badcells := ok_badcells (w := w) (base := base) T F_badcells D_pick G_pick
  exact ok_law T F_law D_store G_store D_length G_length D_odds G_odds D_cellcount G_cellcount D_listright G_listright D_moves G_moves D_movesbent G_movesbent D_take G_take D_playsright G_playsright D_badcells G_badcells D_said G_said D_same G_same
end
theorem walk {l : PySem.W.OpenLaw} {q : Program} {loose : List Str} {XP : (Str → Option Value) → Heap → Prop} {YP : World → Heap → Prop} {d : DefRec} {K : Params → PySem.W.Frag} (hn : l.most = some 63) (hdf : d.params.defaults = [])
    (hY : ∀ (w : World) (h : Heap), YP w h → (K w.params).In h)
    (F : ∀ (w : World) (mg : Str → Option Value) (fa : Addr) (h : Heap), (K w.params).In h → h.Ns mainGlobals mg → mg d.name = some (.ref fa) →
      ∃ fd : FuncData, (∀ (s : Shared) (u : Value), BindsTo s fd ⟨[u], []⟩ [("script", u)]) ∧ ∀ base : Heap, (K w.params).In base → base.Ns mainGlobals mg → FnG l.prog w (K w.params) mg base 135 fa fd ["script"] (spLaw (K w.params))) :
    PySem.W.WalkO q loose XP YP l.row.toRowW d [] (fun f vs => PySem.call f vs) :=
  L2.walk_ofG (n := 63) (k := 135) (x := "script") (sp := fun w => spLaw (K w.params)) hn (by decide) hdf ⟨rfl, by decide, by decide⟩ hY F fun _ _ a ns hl _ hS => ⟨a, ns, rfl, hS, fun _ => rfl⟩
end K12

open PySem PySem.W PyProof.Rows
set_option maxRecDepth 100000 in
set_option maxHeartbeats 0 in
theorem PySem.Challenge.cw_holdingsshut_k12_move_lists_played_holds : PySem.Challenge.rw_holdingsshut_k12_move_lists_played.Holds := by
  w_on; o_law; k_head; (case hw => w_witness2)
  k_fill
  refine K12.walk (l := PySem.Challenge.rw_holdingsshut_k12_move_lists_played) rfl rfl (fun w h Y => PySem.W.kIn_of Y) ?F
  case F =>
    intro w mg fa h KX G hmg
    refine' K12.all_mk KX G hmg ?ptop ?a_is_whole ?l_is_whole ?c_is_whole ?k_is_whole ?a_lies_within ?l_lies_within ?c_lies_within ?k_lies_within ?a_choose ?l_choose ?c_choose ?k_choose ?a_need_cells ?l_need_cells ?c_need_cells ?k_need_cells ?a_rounds ?l_rounds ?c_rounds ?k_rounds ?a_least_steps ?l_least_steps ?c_least_steps ?k_least_steps ?a_best_stop ?l_best_stop ?c_best_stop ?k_best_stop ?a_move_list ?l_move_list ?c_move_list ?k_move_list ?a_write_moves ?l_write_moves ?c_write_moves ?k_write_moves ?a_check_moves ?l_check_moves ?c_check_moves ?k_check_moves ?a_is_move ?l_is_move ?c_is_move ?k_is_move ?a_store ?l_store ?c_store ?k_store ?a_mix ?l_mix ?c_mix ?k_mix ?a_take ?l_take ?c_take ?k_take ?a_edge ?l_edge ?c_edge ?k_edge ?a_odds ?l_odds ?c_odds ?k_odds ?a_pick ?l_pick ?c_pick ?k_pick ?a_length ?l_length ?c_length ?k_length ?a_cellcount ?l_cellcount ?c_cellcount ?k_cellcount ?a_badcells ?l_badcells ?c_badcells ?k_badcells ?a_moves ?l_moves ?c_moves ?k_moves ?a_play ?l_play ?c_play ?k_play ?a_moveshape ?l_moveshape ?c_moveshape ?k_moveshape ?a_leastups ?l_leastups ?c_leastups ?k_leastups ?a_isint ?l_isint ?c_isint ?k_isint ?a_same ?l_same ?c_same ?k_same ?a_movesbent ?l_movesbent ?c_movesbent ?k_movesbent ?a_kinds ?l_kinds ?c_kinds ?k_kinds ?a_clean ?l_clean ?c_clean ?k_clean ?a_leasttable ?l_leasttable ?c_leasttable ?k_leasttable ?a_stopof ?l_stopof ?c_stopof ?k_stopof ?a_listof ?l_listof ?c_listof ?k_listof ?a_refusal ?l_refusal ?c_refusal ?k_refusal ?a_said ?l_said ?c_said ?k_said ?a_playsright ?l_playsright ?c_playsright ?k_playsright ?a_listright ?l_listright ?c_listright ?k_listright ?a_law ?l_law ?c_law ?k_law ?b_int ?b_bool ?b_isinstance ?b_range ?b_min ?b_max ?b_abs ?b_len ?b_list ?b_str ?b_dict ?b_tuple ?b_ValueError ?b_enumerate ?b_repr ?b_super ?g_VaultError ?g_TooMany ?g_NumberError ?g_BadPrime ?g_NoInverse ?g_NoNumber ?g_BadTable ?g_BadCells ?g_TextError ?g_ShapeError ?g_PlanError ?g_CourseError ?g_KnowError ?g_PaperError ?g_BadStep ?g_BadBlind ?g_BadMove ?g_NotShut ?g_NotOpen ?g_NotTheft ?g_NotPrice ?N_th ?N_sp ?N_tk ?L_lV ?L_cV ?L_tV ?L_fV ?x_b ?x_i ?x_t ?xL_BadMove ?sa_BadMove ?ga_BadMove ?gg_BadMove ?cl_BadMove ?mo_BadMove ?nw_BadMove ?ex_BadMove ?ty_BadMove ?kp_BadMove ?hd_BadMove ?nn_BadMove ?xb_BadMove ?iC_BadMove ?tI_BadMove ?up_BadMove ?lI_BadMove ?cI_BadMove ?lcd_BadMove ?fl_BadMove ?lcc_BadMove ?me_BadMove ?nc_at_BadMove ?xs_BadMove ?q_VaultError_BadMove ?q_TooMany_BadMove ?q_NumberError_BadMove ?q_BadPrime_BadMove ?q_NoInverse_BadMove ?q_NoNumber_BadMove ?q_BadTable_BadMove ?q_BadCells_BadMove ?q_TextError_BadMove ?q_ShapeError_BadMove ?q_PlanError_BadMove ?q_CourseError_BadMove ?q_KnowError_BadMove ?q_PaperError_BadMove ?q_BadStep_BadMove ?q_BadBlind_BadMove ?q_BadMove_BadMove ?q_NotShut_BadMove ?q_NotOpen_BadMove ?q_NotTheft_BadMove ?q_NotPrice_BadMove ?q_Value_BadMove ?no_cells_BadMove ?xL_BadCells ?sa_BadCells ?ga_BadCells ?gg_BadCells ?cl_BadCells ?mo_BadCells ?nw_BadCells ?ex_BadCells ?ty_BadCells ?kp_BadCells ?hd_BadCells ?nn_BadCells ?xb_BadCells ?iC_BadCells ?tI_BadCells ?up_BadCells ?lI_BadCells ?cI_BadCells ?lcd_BadCells ?fl_BadCells ?lcc_BadCells ?me_BadCells ?nc_cells_BadCells ?xs_BadCells ?q_VaultError_BadCells ?q_TooMany_BadCells ?q_NumberError_BadCells ?q_BadPrime_BadCells ?q_NoInverse_BadCells ?q_NoNumber_BadCells ?q_BadTable_BadCells ?q_BadCells_BadCells ?q_TextError_BadCells ?q_ShapeError_BadCells ?q_PlanError_BadCells ?q_CourseError_BadCells ?q_KnowError_BadCells ?q_PaperError_BadCells ?q_BadStep_BadCells ?q_BadBlind_BadCells ?q_BadMove_BadCells ?q_NotShut_BadCells ?q_NotOpen_BadCells ?q_NotTheft_BadCells ?q_NotPrice_BadCells ?q_Value_BadCells ?no_at_BadCells
    (case ptop => first | rfl | decide +kernel)
    (case a_is_whole => k_is)
    (case l_is_whole => k_is)
    (case c_is_whole => k_is)
    (case k_is_whole => k_is)
    (case a_lies_within => k_is)
    (case l_lies_within => k_is)
    (case c_lies_within => k_is)
    (case k_lies_within => k_is)
    (case a_choose => k_is)
    (case l_choose => k_is)
    (case c_choose => k_is)
    (case k_choose => k_is)
    (case a_need_cells => k_is)
    (case l_need_cells => k_is)
    (case c_need_cells => k_is)
    (case k_need_cells => k_is)
    (case a_rounds => k_is)
    (case l_rounds => k_is)
    (case c_rounds => k_is)
    (case k_rounds => k_is)
    (case a_least_steps => k_is)
    (case l_least_steps => k_is)
    (case c_least_steps => k_is)
    (case k_least_steps => k_is)
    (case a_best_stop => k_is)
    (case l_best_stop => k_is)
    (case c_best_stop => k_is)
    (case k_best_stop => k_is)
    (case a_move_list => k_is)
    (case l_move_list => k_is)
    (case c_move_list => k_is)
    (case k_move_list => k_is)
    (case a_write_moves => k_is)
    (case l_write_moves => k_is)
    (case c_write_moves => k_is)
    (case k_write_moves => k_is)
    (case a_check_moves => k_is)
    (case l_check_moves => k_is)
    (case c_check_moves => k_is)
    (case k_check_moves => k_is)
    (case a_is_move => k_is)
    (case l_is_move => k_is)
    (case c_is_move => k_is)
    (case k_is_move => k_is)
    (case a_store => k_is)
    (case l_store => k_is)
    (case c_store => k_is)
    (case k_store => k_is)
    (case a_mix => k_is)
    (case l_mix => k_is)
    (case c_mix => k_is)
    (case k_mix => k_is)
    (case a_take => k_is)
    (case l_take => k_is)
    (case c_take => k_is)
    (case k_take => k_is)
    (case a_edge => k_is)
    (case l_edge => k_is)
    (case c_edge => k_is)
    (case k_edge => k_is)
    (case a_odds => k_is)
    (case l_odds => k_is)
    (case c_odds => k_is)
    (case k_odds => k_is)
    (case a_pick => k_is)
    (case l_pick => k_is)
    (case c_pick => k_is)
    (case k_pick => k_is)
    (case a_length => k_is)
    (case l_length => k_is)
    (case c_length => k_is)
    (case k_length => k_is)
    (case a_cellcount => k_is)
    (case l_cellcount => k_is)
    (case c_cellcount => k_is)
    (case k_cellcount => k_is)
    (case a_badcells => k_is)
    (case l_badcells => k_is)
    (case c_badcells => k_is)
    (case k_badcells => k_is)
    (case a_moves => k_is)
    (case l_moves => k_is)
    (case c_moves => k_is)
    (case k_moves => k_is)
    (case a_play => k_is)
    (case l_play => k_is)
    (case c_play => k_is)
    (case k_play => k_is)
    (case a_moveshape => k_is)
    (case l_moveshape => k_is)
    (case c_moveshape => k_is)
    (case k_moveshape => k_is)
    (case a_leastups => k_is)
    (case l_leastups => k_is)
    (case c_leastups => k_is)
    (case k_leastups => k_is)
    (case a_isint => k_is)
    (case l_isint => k_is)
    (case c_isint => k_is)
    (case k_isint => k_is)
    (case a_same => k_is)
    (case l_same => k_is)
    (case c_same => k_is)
    (case k_same => k_is)
    (case a_movesbent => k_is)
    (case l_movesbent => k_is)
    (case c_movesbent => k_is)
    (case k_movesbent => k_is)
    (case a_kinds => k_is)
    (case l_kinds => k_is)
    (case c_kinds => k_is)
    (case k_kinds => k_is)
    (case a_clean => k_is)
    (case l_clean => k_is)
    (case c_clean => k_is)
    (case k_clean => k_is)
    (case a_leasttable => k_is)
    (case l_leasttable => k_is)
    (case c_leasttable => k_is)
    (case k_leasttable => k_is)
    (case a_stopof => k_is)
    (case l_stopof => k_is)
    (case c_stopof => k_is)
    (case k_stopof => k_is)
    (case a_listof => k_is)
    (case l_listof => k_is)
    (case c_listof => k_is)
    (case k_listof => k_is)
    (case a_refusal => k_is)
    (case l_refusal => k_is)
    (case c_refusal => k_is)
    (case k_refusal => k_is)
    (case a_said => k_is)
    (case l_said => k_is)
    (case c_said => k_is)
    (case k_said => k_is)
    (case a_playsright => k_is)
    (case l_playsright => k_is)
    (case c_playsright => k_is)
    (case k_playsright => k_is)
    (case a_listright => k_is)
    (case l_listright => k_is)
    (case c_listright => k_is)
    (case k_listright => k_is)
    (case a_law => k_is)
    (case l_law => k_is)
    (case c_law => k_is)
    (case k_law => k_is)
    (case b_int => k_is)
    (case b_bool => k_is)
    (case b_isinstance => k_is)
    (case b_range => k_is)
    (case b_min => k_is)
    (case b_max => k_is)
    (case b_abs => k_is)
    (case b_len => k_is)
    (case b_list => k_is)
    (case b_str => k_is)
    (case b_dict => k_is)
    (case b_tuple => k_is)
    (case b_ValueError => k_is)
    (case b_enumerate => k_is)
    (case b_repr => k_is)
    (case b_super => k_is)
    (case g_VaultError => k_is)
    (case g_TooMany => k_is)
    (case g_NumberError => k_is)
    (case g_BadPrime => k_is)
    (case g_NoInverse => k_is)
    (case g_NoNumber => k_is)
    (case g_BadTable => k_is)
    (case g_BadCells => k_is)
    (case g_TextError => k_is)
    (case g_ShapeError => k_is)
    (case g_PlanError => k_is)
    (case g_CourseError => k_is)
    (case g_KnowError => k_is)
    (case g_PaperError => k_is)
    (case g_BadStep => k_is)
    (case g_BadBlind => k_is)
    (case g_BadMove => k_is)
    (case g_NotShut => k_is)
    (case g_NotOpen => k_is)
    (case g_NotTheft => k_is)
    (case g_NotPrice => k_is)
    (case N_th => k_is)
    (case N_sp => k_is)
    (case N_tk => k_is)
    (case x_b => k_is)
    (case x_i => k_is)
    (case x_t => k_is)
    (case xL_BadMove => k_is)
    (case sa_BadMove => k_is)
    (case ga_BadMove => k_is)
    (case gg_BadMove => k_is)
    (case cl_BadMove => k_is)
    (case mo_BadMove => k_is)
    (case nw_BadMove => k_is)
    (case ex_BadMove => k_is)
    (case ty_BadMove => k_is)
    (case kp_BadMove => k_is)
    (case hd_BadMove => k_is)
    (case nn_BadMove => k_is)
    (case xb_BadMove => first | rfl | decide +kernel)
    (case iC_BadMove => k_is)
    (case tI_BadMove => k_is)
    (case up_BadMove => ks_is)
    (case lI_BadMove => k_is)
    (case cI_BadMove => k_is)
    (case lcd_BadMove => k_is)
    (case fl_BadMove => rfl)
    (case lcc_BadMove => k_is)
    (case me_BadMove => k_is)
    (case nc_at_BadMove => k_is)
    (case xs_BadMove => k_is)
    (case q_VaultError_BadMove => first | k_is | kit_is)
    (case q_TooMany_BadMove => first | k_is | kit_is)
    (case q_NumberError_BadMove => first | k_is | kit_is)
    (case q_BadPrime_BadMove => first | k_is | kit_is)
    (case q_NoInverse_BadMove => first | k_is | kit_is)
    (case q_NoNumber_BadMove => first | k_is | kit_is)
    (case q_BadTable_BadMove => first | k_is | kit_is)
    (case q_BadCells_BadMove => first | k_is | kit_is)
    (case q_TextError_BadMove => first | k_is | kit_is)
    (case q_ShapeError_BadMove => first | k_is | kit_is)
    (case q_PlanError_BadMove => first | k_is | kit_is)
    (case q_CourseError_BadMove => first | k_is | kit_is)
    (case q_KnowError_BadMove => first | k_is | kit_is)
    (case q_PaperError_BadMove => first | k_is | kit_is)
    (case q_BadStep_BadMove => first | k_is | kit_is)
    (case q_BadBlind_BadMove => first | k_is | kit_is)
    (case q_BadMove_BadMove => first | k_is | kit_is)
    (case q_NotShut_BadMove => first | k_is | kit_is)
    (case q_NotOpen_BadMove => first | k_is | kit_is)
    (case q_NotTheft_BadMove => first | k_is | kit_is)
    (case q_NotPrice_BadMove => first | k_is | kit_is)
    (case q_Value_BadMove => first | k_is | kit_is)
    (case no_cells_BadMove => k_is)
    (case xL_BadCells => k_is)
    (case sa_BadCells => k_is)
    (case ga_BadCells => k_is)
    (case gg_BadCells => k_is)
    (case cl_BadCells => k_is)
    (case mo_BadCells => k_is)
    (case nw_BadCells => k_is)
    (case ex_BadCells => k_is)
    (case ty_BadCells => k_is)
    (case kp_BadCells => k_is)
    (case hd_BadCells => k_is)
    (case nn_BadCells => k_is)
    (case xb_BadCells => first | rfl | decide +kernel)
    (case iC_BadCells => k_is)
    (case tI_BadCells => k_is)
    (case up_BadCells => ks_is)
    (case lI_BadCells => k_is)
    (case cI_BadCells => k_is)
    (case lcd_BadCells => k_is)
    (case fl_BadCells => rfl)
    (case lcc_BadCells => k_is)
    (case me_BadCells => k_is)
    (case nc_cells_BadCells => k_is)
    (case xs_BadCells => k_is)
    (case q_VaultError_BadCells => first | k_is | kit_is)
    (case q_TooMany_BadCells => first | k_is | kit_is)
    (case q_NumberError_BadCells => first | k_is | kit_is)
    (case q_BadPrime_BadCells => first | k_is | kit_is)
    (case q_NoInverse_BadCells => first | k_is | kit_is)
    (case q_NoNumber_BadCells => first | k_is | kit_is)
    (case q_BadTable_BadCells => first | k_is | kit_is)
    (case q_BadCells_BadCells => first | k_is | kit_is)
    (case q_TextError_BadCells => first | k_is | kit_is)
    (case q_ShapeError_BadCells => first | k_is | kit_is)
    (case q_PlanError_BadCells => first | k_is | kit_is)
    (case q_CourseError_BadCells => first | k_is | kit_is)
    (case q_KnowError_BadCells => first | k_is | kit_is)
    (case q_PaperError_BadCells => first | k_is | kit_is)
    (case q_BadStep_BadCells => first | k_is | kit_is)
    (case q_BadBlind_BadCells => first | k_is | kit_is)
    (case q_BadMove_BadCells => first | k_is | kit_is)
    (case q_NotShut_BadCells => first | k_is | kit_is)
    (case q_NotOpen_BadCells => first | k_is | kit_is)
    (case q_NotTheft_BadCells => first | k_is | kit_is)
    (case q_NotPrice_BadCells => first | k_is | kit_is)
    (case q_Value_BadCells => first | k_is | kit_is)
    (case no_at_BadCells => k_is)
    (case L_lV => k_is)
    (case L_cV => k_is)
    (case L_tV => k_is)
    (case L_fV => k_is)
