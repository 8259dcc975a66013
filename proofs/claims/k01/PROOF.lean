import PyProof.Rows.All
import Wide.All
import OpenK.AllK
import Wide.FinOn
import PyProof.EqAt
import PyProof.EqKinds
import PyProof.TupleCall
import KE.KExcSuper
import KE.KExcIs
import HandS.ForMost
import HandS.ExcCtx
import HandS.HotCalls
import HandS.ExcInit
import HandS.ExcIs
import HandS.ExcField
import HandS.IsInst
import HandS.Wide
import HandS.Style
import HandS.TupAny
import HandS.Evl
import PySem.Challenge.RW_ibidem_k01_errors
set_option Elab.async false
set_option linter.all false
set_option maxRecDepth 100000
set_option maxHeartbeats 4000000
namespace Er
open PySem PySem.W PySem.Calls PyProof.Rows PySem.HandSPX

section
variable {prog : Program} {w : World} {A : Around} {E : Value → Shared → Prop} {s : Shared} {K : Frag}

/-- the wrapper of ValueError.__init__ for x, at u, is called: x's record gets new args, nothing else is changed -/
theorem wrap_called {nm q : Str} {C N x u t0 : Addr} {bs bm : List Value} {hd ab : Bool} {sn : List Str} {sub rest : List Value} {col : Option Bool} {dd : Option Addr} {k0 k1 k2 k3 k5 : Option Value} {Q : Value → Shared → Prop}
    (oC : s.heap.get? C = some (excClassObj nm q C N bs bm hd sn sub ab col dd k0 k1 k2 k3 k5 "ValueError.__new__"))
    (ox : s.heap.get? x = some (excO C t0)) (ou : s.heap.get? u = some (kxs_mw "ValueError.__init__" x)) (short : rest.length ≤ sizeLine)
    (go : ∀ h' t1, (∀ b o, b ≠ x → s.heap.get? b = some o → h'.get? b = some o) → h'.get? x = some (excO C t1) → Q .none { s with heap := h' }) :
    wpAny (model prog w) A (call (.ref u) rest) Q E s := by
  obtain ⟨h, g, d, t, os⟩ := s
  refine wpAny_call (codeAny_of_tree ?_)
  show wpAny _ A.in1 (callAny (.ref u) ⟨rest, []⟩) _ _ _
  simp only [callAny]
  refine wpAny_bind (wpAny_load ou ?_)
  have isMw : (Value.type "method-wrapper" == Value.type "method" || Value.type "method-wrapper" == Value.type "builtin_function_or_method" ||
    Value.type "method-wrapper" == Value.type "method-wrapper") = true := by decide
  simp only [kxs_mw, isMw, if_true]
  refine KFB.if_so (by decide) ?_
  have FB := F.excBase_ValueError
  refine wpAny_bind (check_bound_init FB.toExcCallFacts oC ox rfl ?_)
  refine wpAny_bind (wpAny_pure (wpAny_pure ?_))
  refine ⟨plainId_quiet FB.init.plain _, codeAny_builtin FB.initEntry ?_⟩
  exact exc_init_tree (cls := .ref C) (t0 := t0) (dv := none) (c2 := .none) (c3 := .none) (b4 := .bool false) ox short fun h' keep new _ => go h' _ keep new
end

/-- what the written part says of an own error class C: its __init__ at fI closes over the cell cc, its code stands at cda -/
structure ErC (P : Program) (K : Frag) (C fI cc cda : Addr) : Prop where
  cls : ∃ nm q N bs bm sn sub ab col dd k0 k1 k2 k3 k5, K.lookup C = some (excClassObj nm q C N bs bm true sn sub ab col dd k0 k1 k2 k3 k5 "ValueError.__new__") ∧ refsVE bm = true
  store : findIn K (.ref C) "__setattr__" = some (some (.builtin "object.__setattr__"))
  init : findIn K (.ref C) "__init__" = some (some (.ref fI))
  fn : typeIn K (.ref fI) = some (.type "function")
  keep : keepIn K (.ref C) = true
  exc : subIn K (.ref C) (.type "BaseException") = some true
  val : subIn K (.ref C) (.type "ValueError") = some true
  typ : typeIn K (.ref C) = some (.type "type")
  own : hasDictIn K C = true
  self : mroIn K C (.ref C) = some true
  sup : ks_superIn K C C "__init__" = some (some (.builtin "ValueError.__init__"))
  third : nsIn K cStatics "thirdparty.any" = some none
  cell : ∃ a b c, K.lookup cc = some ⟨a, b, .cell (some (.ref C)), c⟩
  code : ∃ (a : Value) (b : Option Addr) (vs : Array Value) (c : Array (Option Value)) (file : Str) (tf : Tok), K.lookup cda = some ⟨a, b, .fields vs, c⟩ ∧ vs[2]? = some (.str file tf) ∧ ((P.main.file : Str) == file) = true
  supG : (P.main.scope.names.lookup ("super" : Str)).isSome = false

theorem ErC.clsIn {P : Program} {K : Frag} {C fI cc cda : Addr} (T : ErC P K C fI cc cda) : ∃ cd, PySem.W.clsIn K C = some cd ∧ refsVE cd.mro = true ∧ cd.hasDict = true := by
  obtain ⟨nm, q, N, bs, bm, sn, sub, ab, col, dd, k0, k1, k2, k3, k5, hC, hbm⟩ := T.cls
  exact ⟨{ name := nm, bases := bs, mro := .ref C :: bm, ns := N, qualname := q, hasDict := true, slotNames := sn, subclasses := sub, abstract := ab, collection := col, hasDel := false },
    by unfold PySem.W.clsIn; rw [hC] <;> rfl, hbm, rfl⟩

section
variable {prog : Program} {w : World} {A : Around} {E : Value → Shared → Prop} {s : Shared} {K : Frag} {C fI cc cda L x : Addr}

/-- super().__init__('..') at the head of C's __init__ -/
theorem super_done {scope : Scope} {q : Str} {m mg mb : Str → Option Value} {body : List Stmt} {p1 p2 p3 p4 p5 p6 : Pos} {msg : Str} {j : Nat} {t0 : Addr} {oc ctv doc pm dV kV : Value} {od an : Option Addr} {osl : Array (Option Value)}
    {fname fqual : Str} {params : Arguments} {ar : Arg} {fbody : List Stmt} {Q : Flow → Shared → Prop} (T : ErC prog K C fI cc cda) (X : K.In s.heap)
    (G : s.heap.Ns mainGlobals mg) (hg : mg "super" = none) (Bl : s.heap.Ns builtinsNs mb) (hb : mb "super" = some (.type "super"))
    (hf : K.lookup fI = some ⟨oc, od, .func (ksFn fname fqual params fbody scope dV kV doc pm an (.ref cda) ctv cc), osl⟩)
    (hp : (params.posonlyargs ++ params.args).head? = some ar) (hns : s.heap.Ns L m) (hx : m ar.arg = some (.ref x)) (ox : s.heap.get? x = some (excO C t0)) (hk : scope.kind = .function)
    (hks : scope.names.lookup ("super" : Str) = some .globalImplicit) (hkc : scope.names.lookup ("__class__" : Str) = some .free) (hka : scope.names.lookup ar.arg = some .local)
    {pl : Sem Bool} (hev : eval (.Call (.Attribute (.Call (.Name "super" p1) [] [] p2) "__init__" p3) [.Constant (.str msg) j p4] [] p5) (ksEnv q scope L fI (.ref cda) cc) = (do
      let ov ← attributeBase (.Call (.Name "super" p1) [] [] p2) "__init__" (ksEnv q scope L fI (.ref cda) cc) (eval (.Call (.Name "super" p1) [] [] p2) (ksEnv q scope L fI (.ref cda) cc))
      standAt p3.atName
      let (f, first) ← holding [ov] (getMethod ov "__init__" pl)
      callWith p5 f first (backTo p5 (starEach [.Constant (.str msg) j p4] (ksEnv q scope L fI (.ref cda) cc))) []))
    (go : ∀ h' t1 tk, (∀ b o, b ≠ x → s.heap.get? b = some o → h'.get? b = some o) → h'.get? x = some (excO C t1) → Q .next { s with heap := h', toks := tk }) :
    _root_.PySem.wpAt (model prog w) A (.func body (ksEnv q scope L fI (.ref cda) cc)) (exec (.Expr (.Call (.Attribute (.Call (.Name "super" p1) [] [] p2) "__init__" p3) [.Constant (.str msg) j p4] [] p5) p6) (ksEnv q scope L fI (.ref cda) cc)) Q E s := by
  obtain ⟨kind, names, sg, sc, sm⟩ := scope
  dsimp only at hk hks hkc hka hev
  subst hk
  obtain ⟨nm, qn, N, bs, bm, sn, sub, ab, col, dd, k0, k1, k2, k3, k5, hC, hbm⟩ := T.cls
  obtain ⟨va, vb, vs, vc, file, tf, hcode, hvs, hfile⟩ := T.code
  obtain ⟨ca, cb, c3, hcell⟩ := T.cell
  obtain ⟨h, g, d, t, os⟩ := s
  have oC := X _ _ hC
  refine ks_wpAt_Expr_any ?_
  refine ks_wpAt_MethodCall ?_ hev
  refine ks_wpAt_super_base (env := ksEnv q ⟨.function, names, sg, sc, sm⟩ L fI (.ref cda) cc) hks hkc (by decide) rfl (X _ _ hf) rfl hp rfl (X _ _ hcode) rfl hvs hfile T.supG ?_
  refine ks_loadName_global rfl hks (loadGlobal_builtin (env := ksEnv q ⟨.function, names, sg, sc, sm⟩ L fI (.ref cda) cc) G hg Bl hb ⟨rfl, ?_⟩)
  refine wpAny_loadName_free rfl hkc rfl ⟨_, X _ _ hcell, rfl⟩ ?_
  refine wpAny_loadName_local rfl hka hns hx ?_
  refine ks_wpAny_isType_cls oC rfl ⟨rfl, ?_⟩
  refine ks_wpAny_call_super oC rfl ox rfl (fun c e => by cases e) (looks_mroIn X T.self) (fun h1 e1 kp1 => ?_)
  have X1 : K.In h1 := X.keeps kp1
  have hci : PySem.W.clsIn K C = some { name := nm, bases := bs, mro := .ref C :: bm, ns := N, qualname := qn, hasDict := true, slotNames := sn, subclasses := sub, abstract := ab, collection := col, hasDel := false } := by
    unfold PySem.W.clsIn; rw [hC] <;> rfl
  have I1 : PySem.W.InstAt h1 x (excO C t0) C none := ⟨kp1 _ _ ox, rfl, rfl, trivial⟩
  have hI : Looks (model prog w) h1 (isInstance (.ref x) (.type "ValueError")) true := I1.type.andThen (looks_subIn X1 T.val)
  have hsup := T.sup
  unfold ks_superIn at hsup
  rw [hci] at hsup
  refine kxs_getMethod kxs_ValueError e1 (looks_opaque X1 T.third) (l₀ := .ref C :: bm) (fun A Q E s k q => wpAny_bind ((looks_clsIn X1 hci) A _ E s k (wpAny_pure q))) rfl X1 hsup hI (ks_ne X1 I1 hci) (by decide) ?_
  have kp2 : ∀ b o, h.get? b = some o → (h1.push (kxs_mw "ValueError.__init__" x)).get? b = some o := fun b o e => Heap.get?_push_of_some _ (kp1 b o e)
  refine kxs_callWith (i := "ValueError.__init__") (x := x) (by rfl) (evalArgs_plain (spliced_more (Constant_str (spliced_none ⟨?_, ?_⟩)) (by rfl)))
  · exact Heap.get?_push_size _ rfl
  · refine wrap_called (kp2 _ _ oC) (kp2 _ _ ox) (Heap.get?_push_size _ rfl) (by show 1 ≤ sizeLine; rw [sizeLine_eq]; decide) fun h' t1 keep new => ?_
    exact go h' t1 _ (fun b o hb e => keep b o hb (kp2 b o e)) new
end
end Er
namespace Er
open PySem PySem.W PySem.Calls PyProof.Rows PySem.HandSPX
def supS (msg : Str) (p1 p2 p3 p4 p5 p6 : Pos) : Stmt := .Expr (.Call (.Attribute (.Call (.Name "super" p1) [] [] p2) "__init__" p3) [.Constant (.str msg) 0 p4] [] p5) p6
def fldS (f : Str) (q1 q2 q3 q4 : Pos) : Stmt := .Assign [.Attribute (.Name "self" q1) f q2] (.Name f q3) q4
/-- the module's names and the built-ins, as a heap has them -/
structure Mods (mg : Str → Option Value) (h : Heap) : Prop where
  g : h.Ns mainGlobals mg
  b : ∃ mb, h.Ns builtinsNs mb ∧ mb "super" = some (.type "super")
  s : mg "super" = none
theorem Mods.keeps {mg : Str → Option Value} {h h' : Heap} (M : Mods mg h) (k : ∀ b o, h.get? b = some o → h'.get? b = some o) : Mods mg h' := by
  obtain ⟨mb, hb, e⟩ := M.b
  exact ⟨M.g.keeps k, ⟨mb, hb.keeps k, e⟩, M.s⟩
/-- a fresh error x behind its __init__: its fields stand in its own dict dx, all else as it was -/
structure Filled (h h' : Heap) (x C dx : Addr) (mA : Str → Option Value) : Prop where
  keep : ∀ b o, b ≠ x → h.get? b = some o → h'.get? b = some o
  obj : ∃ t1, h'.get? x = some { cls := .ref C, dict := some dx, data := .fields #[.ref t1, .none, .none, .none, .bool false, .none] }
  big : h.objs.size ≤ dx
  ne : dx ≠ x
  ns : h'.Ns1 dx mA
theorem K_but {K : Frag} {h h' : Heap} {x : Addr} (X : K.In h) (out : K.lookup x = none) (k : ∀ b o, b ≠ x → h.get? b = some o → h'.get? b = some o) : K.In h' :=
  fun a o e => k a o (fun z => by rw [z, out] at e; cases e) (X a o e)
theorem size_but {h h' : Heap} {x : Addr} {ox : Obj} (ho : h'.get? x = some ox) (k : ∀ b o, b ≠ x → h.get? b = some o → h'.get? b = some o) (hx : ∃ o, h.get? x = some o) {L : Addr} {o : Obj} (hL : h.get? L = some o) : L < h'.objs.size := by
  by_cases e : L = x
  · rw [e]; exact Heap.lt_size ho
  · exact Heap.lt_size (k _ _ e hL)

def arg_value (p0 p_value : Pos) : Arguments := { posonlyargs := [], args := [{ arg := "self", annotation := none, pos := p0 }, { arg := "value", annotation := none, pos := p_value }], vararg := none, kwonlyargs := [], kw_defaults := [], kwarg := none, defaults := [] }
def sc_value : Scope := { kind := .function, names := [("self", .local), ("value", .local), ("__class__", .free), ("super", .globalImplicit)], isGenerator := false, isCoroutine := false, more := [] }
section
variable {prog : Program} {w : World} {A : Around} {E : Value → Shared → Prop} {R : Result → Shared → Prop} {s : Shared} {K : Frag} {C fI cc cda x : Addr} {mg : Str → Option Value}
theorem init_value {msg qual : Str} {p0 p_value p1 p2 p3 p4 p5 p6 q1_value q2_value q3_value q4_value : Pos} {kV doc pm ct oc : Value} {an od : Option Addr} {osl : Array (Option Value)} {t0 : Addr} {v_value : Value}
    (T : ErC prog K C fI cc cda) (no_value : findIn K (.ref C) "value" = some none)
    (lk : K.lookup fI = some ⟨oc, od, .func (ksFn "__init__" qual (arg_value p0 p_value) [supS msg p1 p2 p3 p4 p5 p6, fldS "value" q1_value q2_value q3_value q4_value] sc_value .none kV doc pm an (.ref cda) ct cc), osl⟩)
    (hcd : codeIn K (.ref cda) qual = true) (X : K.In s.heap) (M : Mods mg s.heap) (lim : s.heap.NoLimit) (ox : s.heap.get? x = some (excO C t0)) (out : K.lookup x = none) (room : A.depth < recursionLimit)
    (hev : ∀ L : Addr, ∃ pl, eval (.Call (.Attribute (.Call (.Name "super" p1) [] [] p2) "__init__" p3) [.Constant (.str msg) 0 p4] [] p5) (ksEnv qual sc_value L fI (.ref cda) cc) = (do
      let ov ← attributeBase (.Call (.Name "super" p1) [] [] p2) "__init__" (ksEnv qual sc_value L fI (.ref cda) cc) (eval (.Call (.Name "super" p1) [] [] p2) (ksEnv qual sc_value L fI (.ref cda) cc))
      standAt p3.atName
      let (f, first) ← holding [ov] (getMethod ov "__init__" pl)
      callWith p5 f first (backTo p5 (starEach [.Constant (.str msg) 0 p4] (ksEnv qual sc_value L fI (.ref cda) cc))) []))
    (go : ∀ h' tk dx, Filled s.heap h' x C dx (fun y => if y = "value" then some v_value else none) → R (.ok (.ret .none)) { s with heap := h', toks := tk }) :
    codeAny (model prog w) A (.call (.ref fI) ⟨[.ref x, v_value], []⟩) R s := by
  obtain ⟨nm, qn, N, bs, bm, sn, sub, ab, col, dd, k0, k1, k2, k3, k5, hC, hbm⟩ := T.cls
  have hcl : PySem.W.clsIn K C = some { name := nm, bases := bs, mro := .ref C :: bm, ns := N, qualname := qn, hasDict := true, slotNames := sn, subclasses := sub, abstract := ab, collection := col, hasDel := false } := by
    unfold PySem.W.clsIn; rw [hC] <;> rfl
  refine ks_codeAny_call_defAt (fd := ksFn "__init__" qual (arg_value p0 p_value) [supS msg p1 p2 p3 p4 p5 p6, fldS "value" q1_value q2_value q3_value q4_value] sc_value .none kV doc pm an (.ref cda) ct cc) (binds := [("self", .ref x), ("value", v_value)]) room (X _ _ lk) rfl lim (codeRec_of X hcd) rfl
    (BindsTo.of_eq (by first | rfl | with_unfolding_all rfl)) (fun y hy => (by decide : ∀ y ∈ sc_value.names, y.2 ≠ .cell) y hy) (locs rfl) (fun h₀ hns kp => ?_) rfl rfl rfl
  have X0 : K.In h₀ := X.keeps kp
  have M0 : Mods mg h₀ := M.keeps kp
  have ox0 := kp _ _ ox
  obtain ⟨mb, hmb, emb⟩ := M0.b
  have Lx : s.heap.objs.size ≠ x := Nat.ne_of_gt (Heap.lt_size ox)
  obtain ⟨pl, hev⟩ := hev s.heap.objs.size
  refine ks_wpAt_execs_cons ?_
  refine super_done (ar := { arg := "self", annotation := none, pos := p0 }) T X0 M0.g M0.s hmb emb lk rfl hns (by rfl) ox0 rfl (by rfl) (by rfl) (by rfl) hev (fun h1 t1 tk1 kp1 ox1 => ?_)
  obtain ⟨oL, esL, epL, hoL, rL⟩ := hns
  have hns1 : h1.Ns s.heap.objs.size _ := ⟨oL, esL, epL, kp1 _ _ Lx hoL, rL⟩
  have X1 : K.In h1 := K_but X0 out kp1
  refine wpAt_of_wpAny ?_

  show wpAny _ _ (execs _ _) _ _ _
  refine wpAny_execs_cons (plainObj_wpAny_Assign_Attribute ?_)
  refine wpAny_Name (wpAny_loadName_local (v := v_value) rfl (by rfl) hns1 (by rfl) ?_) (by decide)
  refine wpAny_Name (wpAny_loadName_local (v := .ref x) rfl (by rfl) hns1 (by rfl) ?_) (by decide)
  refine set_plain X1 (ox := excO C t1) (od := none) ⟨ox1, rfl, rfl, trivial⟩ T.store ?_
  refine exc_osa X1 ox1 hcl (show refsVE (.ref C :: bm) = true from hbm) rfl no_value (fun h2 tk2 dx kp2 big dne ox2 ns2 => ?_)
  have zb : s.heap.objs.size ≤ dx := Nat.le_trans (Nat.le_of_lt (Heap.lt_size (kp1 _ _ Lx hoL))) big

  show wpAny _ _ (execs _ _) _ _ _
  exact wpAny_execs_nil (go h2 tk2 dx ⟨fun b o hb e => kp2 b o hb (kp1 b o hb (kp b o e)), ⟨_, ox2⟩, zb, dne, ns2⟩)
end
def arg_claim (p0 p_claim : Pos) : Arguments := { posonlyargs := [], args := [{ arg := "self", annotation := none, pos := p0 }, { arg := "claim", annotation := none, pos := p_claim }], vararg := none, kwonlyargs := [], kw_defaults := [], kwarg := none, defaults := [] }
def sc_claim : Scope := { kind := .function, names := [("self", .local), ("claim", .local), ("__class__", .free), ("super", .globalImplicit)], isGenerator := false, isCoroutine := false, more := [] }
section
variable {prog : Program} {w : World} {A : Around} {E : Value → Shared → Prop} {R : Result → Shared → Prop} {s : Shared} {K : Frag} {C fI cc cda x : Addr} {mg : Str → Option Value}
theorem init_claim {msg qual : Str} {p0 p_claim p1 p2 p3 p4 p5 p6 q1_claim q2_claim q3_claim q4_claim : Pos} {kV doc pm ct oc : Value} {an od : Option Addr} {osl : Array (Option Value)} {t0 : Addr} {v_claim : Value}
    (T : ErC prog K C fI cc cda) (no_claim : findIn K (.ref C) "claim" = some none)
    (lk : K.lookup fI = some ⟨oc, od, .func (ksFn "__init__" qual (arg_claim p0 p_claim) [supS msg p1 p2 p3 p4 p5 p6, fldS "claim" q1_claim q2_claim q3_claim q4_claim] sc_claim .none kV doc pm an (.ref cda) ct cc), osl⟩)
    (hcd : codeIn K (.ref cda) qual = true) (X : K.In s.heap) (M : Mods mg s.heap) (lim : s.heap.NoLimit) (ox : s.heap.get? x = some (excO C t0)) (out : K.lookup x = none) (room : A.depth < recursionLimit)
    (hev : ∀ L : Addr, ∃ pl, eval (.Call (.Attribute (.Call (.Name "super" p1) [] [] p2) "__init__" p3) [.Constant (.str msg) 0 p4] [] p5) (ksEnv qual sc_claim L fI (.ref cda) cc) = (do
      let ov ← attributeBase (.Call (.Name "super" p1) [] [] p2) "__init__" (ksEnv qual sc_claim L fI (.ref cda) cc) (eval (.Call (.Name "super" p1) [] [] p2) (ksEnv qual sc_claim L fI (.ref cda) cc))
      standAt p3.atName
      let (f, first) ← holding [ov] (getMethod ov "__init__" pl)
      callWith p5 f first (backTo p5 (starEach [.Constant (.str msg) 0 p4] (ksEnv qual sc_claim L fI (.ref cda) cc))) []))
    (go : ∀ h' tk dx, Filled s.heap h' x C dx (fun y => if y = "claim" then some v_claim else none) → R (.ok (.ret .none)) { s with heap := h', toks := tk }) :
    codeAny (model prog w) A (.call (.ref fI) ⟨[.ref x, v_claim], []⟩) R s := by
  obtain ⟨nm, qn, N, bs, bm, sn, sub, ab, col, dd, k0, k1, k2, k3, k5, hC, hbm⟩ := T.cls
  have hcl : PySem.W.clsIn K C = some { name := nm, bases := bs, mro := .ref C :: bm, ns := N, qualname := qn, hasDict := true, slotNames := sn, subclasses := sub, abstract := ab, collection := col, hasDel := false } := by
    unfold PySem.W.clsIn; rw [hC] <;> rfl
  refine ks_codeAny_call_defAt (fd := ksFn "__init__" qual (arg_claim p0 p_claim) [supS msg p1 p2 p3 p4 p5 p6, fldS "claim" q1_claim q2_claim q3_claim q4_claim] sc_claim .none kV doc pm an (.ref cda) ct cc) (binds := [("self", .ref x), ("claim", v_claim)]) room (X _ _ lk) rfl lim (codeRec_of X hcd) rfl
    (BindsTo.of_eq (by first | rfl | with_unfolding_all rfl)) (fun y hy => (by decide : ∀ y ∈ sc_claim.names, y.2 ≠ .cell) y hy) (locs rfl) (fun h₀ hns kp => ?_) rfl rfl rfl
  have X0 : K.In h₀ := X.keeps kp
  have M0 : Mods mg h₀ := M.keeps kp
  have ox0 := kp _ _ ox
  obtain ⟨mb, hmb, emb⟩ := M0.b
  have Lx : s.heap.objs.size ≠ x := Nat.ne_of_gt (Heap.lt_size ox)
  obtain ⟨pl, hev⟩ := hev s.heap.objs.size
  refine ks_wpAt_execs_cons ?_
  refine super_done (ar := { arg := "self", annotation := none, pos := p0 }) T X0 M0.g M0.s hmb emb lk rfl hns (by rfl) ox0 rfl (by rfl) (by rfl) (by rfl) hev (fun h1 t1 tk1 kp1 ox1 => ?_)
  obtain ⟨oL, esL, epL, hoL, rL⟩ := hns
  have hns1 : h1.Ns s.heap.objs.size _ := ⟨oL, esL, epL, kp1 _ _ Lx hoL, rL⟩
  have X1 : K.In h1 := K_but X0 out kp1
  refine wpAt_of_wpAny ?_

  show wpAny _ _ (execs _ _) _ _ _
  refine wpAny_execs_cons (plainObj_wpAny_Assign_Attribute ?_)
  refine wpAny_Name (wpAny_loadName_local (v := v_claim) rfl (by rfl) hns1 (by rfl) ?_) (by decide)
  refine wpAny_Name (wpAny_loadName_local (v := .ref x) rfl (by rfl) hns1 (by rfl) ?_) (by decide)
  refine set_plain X1 (ox := excO C t1) (od := none) ⟨ox1, rfl, rfl, trivial⟩ T.store ?_
  refine exc_osa X1 ox1 hcl (show refsVE (.ref C :: bm) = true from hbm) rfl no_claim (fun h2 tk2 dx kp2 big dne ox2 ns2 => ?_)
  have zb : s.heap.objs.size ≤ dx := Nat.le_trans (Nat.le_of_lt (Heap.lt_size (kp1 _ _ Lx hoL))) big

  show wpAny _ _ (execs _ _) _ _ _
  exact wpAny_execs_nil (go h2 tk2 dx ⟨fun b o hb e => kp2 b o hb (kp1 b o hb (kp b o e)), ⟨_, ox2⟩, zb, dne, ns2⟩)
end
def arg_word (p0 p_word : Pos) : Arguments := { posonlyargs := [], args := [{ arg := "self", annotation := none, pos := p0 }, { arg := "word", annotation := none, pos := p_word }], vararg := none, kwonlyargs := [], kw_defaults := [], kwarg := none, defaults := [] }
def sc_word : Scope := { kind := .function, names := [("self", .local), ("word", .local), ("__class__", .free), ("super", .globalImplicit)], isGenerator := false, isCoroutine := false, more := [] }
section
variable {prog : Program} {w : World} {A : Around} {E : Value → Shared → Prop} {R : Result → Shared → Prop} {s : Shared} {K : Frag} {C fI cc cda x : Addr} {mg : Str → Option Value}
theorem init_word {msg qual : Str} {p0 p_word p1 p2 p3 p4 p5 p6 q1_word q2_word q3_word q4_word : Pos} {kV doc pm ct oc : Value} {an od : Option Addr} {osl : Array (Option Value)} {t0 : Addr} {v_word : Value}
    (T : ErC prog K C fI cc cda) (no_word : findIn K (.ref C) "word" = some none)
    (lk : K.lookup fI = some ⟨oc, od, .func (ksFn "__init__" qual (arg_word p0 p_word) [supS msg p1 p2 p3 p4 p5 p6, fldS "word" q1_word q2_word q3_word q4_word] sc_word .none kV doc pm an (.ref cda) ct cc), osl⟩)
    (hcd : codeIn K (.ref cda) qual = true) (X : K.In s.heap) (M : Mods mg s.heap) (lim : s.heap.NoLimit) (ox : s.heap.get? x = some (excO C t0)) (out : K.lookup x = none) (room : A.depth < recursionLimit)
    (hev : ∀ L : Addr, ∃ pl, eval (.Call (.Attribute (.Call (.Name "super" p1) [] [] p2) "__init__" p3) [.Constant (.str msg) 0 p4] [] p5) (ksEnv qual sc_word L fI (.ref cda) cc) = (do
      let ov ← attributeBase (.Call (.Name "super" p1) [] [] p2) "__init__" (ksEnv qual sc_word L fI (.ref cda) cc) (eval (.Call (.Name "super" p1) [] [] p2) (ksEnv qual sc_word L fI (.ref cda) cc))
      standAt p3.atName
      let (f, first) ← holding [ov] (getMethod ov "__init__" pl)
      callWith p5 f first (backTo p5 (starEach [.Constant (.str msg) 0 p4] (ksEnv qual sc_word L fI (.ref cda) cc))) []))
    (go : ∀ h' tk dx, Filled s.heap h' x C dx (fun y => if y = "word" then some v_word else none) → R (.ok (.ret .none)) { s with heap := h', toks := tk }) :
    codeAny (model prog w) A (.call (.ref fI) ⟨[.ref x, v_word], []⟩) R s := by
  obtain ⟨nm, qn, N, bs, bm, sn, sub, ab, col, dd, k0, k1, k2, k3, k5, hC, hbm⟩ := T.cls
  have hcl : PySem.W.clsIn K C = some { name := nm, bases := bs, mro := .ref C :: bm, ns := N, qualname := qn, hasDict := true, slotNames := sn, subclasses := sub, abstract := ab, collection := col, hasDel := false } := by
    unfold PySem.W.clsIn; rw [hC] <;> rfl
  refine ks_codeAny_call_defAt (fd := ksFn "__init__" qual (arg_word p0 p_word) [supS msg p1 p2 p3 p4 p5 p6, fldS "word" q1_word q2_word q3_word q4_word] sc_word .none kV doc pm an (.ref cda) ct cc) (binds := [("self", .ref x), ("word", v_word)]) room (X _ _ lk) rfl lim (codeRec_of X hcd) rfl
    (BindsTo.of_eq (by first | rfl | with_unfolding_all rfl)) (fun y hy => (by decide : ∀ y ∈ sc_word.names, y.2 ≠ .cell) y hy) (locs rfl) (fun h₀ hns kp => ?_) rfl rfl rfl
  have X0 : K.In h₀ := X.keeps kp
  have M0 : Mods mg h₀ := M.keeps kp
  have ox0 := kp _ _ ox
  obtain ⟨mb, hmb, emb⟩ := M0.b
  have Lx : s.heap.objs.size ≠ x := Nat.ne_of_gt (Heap.lt_size ox)
  obtain ⟨pl, hev⟩ := hev s.heap.objs.size
  refine ks_wpAt_execs_cons ?_
  refine super_done (ar := { arg := "self", annotation := none, pos := p0 }) T X0 M0.g M0.s hmb emb lk rfl hns (by rfl) ox0 rfl (by rfl) (by rfl) (by rfl) hev (fun h1 t1 tk1 kp1 ox1 => ?_)
  obtain ⟨oL, esL, epL, hoL, rL⟩ := hns
  have hns1 : h1.Ns s.heap.objs.size _ := ⟨oL, esL, epL, kp1 _ _ Lx hoL, rL⟩
  have X1 : K.In h1 := K_but X0 out kp1
  refine wpAt_of_wpAny ?_

  show wpAny _ _ (execs _ _) _ _ _
  refine wpAny_execs_cons (plainObj_wpAny_Assign_Attribute ?_)
  refine wpAny_Name (wpAny_loadName_local (v := v_word) rfl (by rfl) hns1 (by rfl) ?_) (by decide)
  refine wpAny_Name (wpAny_loadName_local (v := .ref x) rfl (by rfl) hns1 (by rfl) ?_) (by decide)
  refine set_plain X1 (ox := excO C t1) (od := none) ⟨ox1, rfl, rfl, trivial⟩ T.store ?_
  refine exc_osa X1 ox1 hcl (show refsVE (.ref C :: bm) = true from hbm) rfl no_word (fun h2 tk2 dx kp2 big dne ox2 ns2 => ?_)
  have zb : s.heap.objs.size ≤ dx := Nat.le_trans (Nat.le_of_lt (Heap.lt_size (kp1 _ _ Lx hoL))) big

  show wpAny _ _ (execs _ _) _ _ _
  exact wpAny_execs_nil (go h2 tk2 dx ⟨fun b o hb e => kp2 b o hb (kp1 b o hb (kp b o e)), ⟨_, ox2⟩, zb, dne, ns2⟩)
end
def arg_what (p0 p_what : Pos) : Arguments := { posonlyargs := [], args := [{ arg := "self", annotation := none, pos := p0 }, { arg := "what", annotation := none, pos := p_what }], vararg := none, kwonlyargs := [], kw_defaults := [], kwarg := none, defaults := [] }
def sc_what : Scope := { kind := .function, names := [("self", .local), ("what", .local), ("__class__", .free), ("super", .globalImplicit)], isGenerator := false, isCoroutine := false, more := [] }
section
variable {prog : Program} {w : World} {A : Around} {E : Value → Shared → Prop} {R : Result → Shared → Prop} {s : Shared} {K : Frag} {C fI cc cda x : Addr} {mg : Str → Option Value}
theorem init_what {msg qual : Str} {p0 p_what p1 p2 p3 p4 p5 p6 q1_what q2_what q3_what q4_what : Pos} {kV doc pm ct oc : Value} {an od : Option Addr} {osl : Array (Option Value)} {t0 : Addr} {v_what : Value}
    (T : ErC prog K C fI cc cda) (no_what : findIn K (.ref C) "what" = some none)
    (lk : K.lookup fI = some ⟨oc, od, .func (ksFn "__init__" qual (arg_what p0 p_what) [supS msg p1 p2 p3 p4 p5 p6, fldS "what" q1_what q2_what q3_what q4_what] sc_what .none kV doc pm an (.ref cda) ct cc), osl⟩)
    (hcd : codeIn K (.ref cda) qual = true) (X : K.In s.heap) (M : Mods mg s.heap) (lim : s.heap.NoLimit) (ox : s.heap.get? x = some (excO C t0)) (out : K.lookup x = none) (room : A.depth < recursionLimit)
    (hev : ∀ L : Addr, ∃ pl, eval (.Call (.Attribute (.Call (.Name "super" p1) [] [] p2) "__init__" p3) [.Constant (.str msg) 0 p4] [] p5) (ksEnv qual sc_what L fI (.ref cda) cc) = (do
      let ov ← attributeBase (.Call (.Name "super" p1) [] [] p2) "__init__" (ksEnv qual sc_what L fI (.ref cda) cc) (eval (.Call (.Name "super" p1) [] [] p2) (ksEnv qual sc_what L fI (.ref cda) cc))
      standAt p3.atName
      let (f, first) ← holding [ov] (getMethod ov "__init__" pl)
      callWith p5 f first (backTo p5 (starEach [.Constant (.str msg) 0 p4] (ksEnv qual sc_what L fI (.ref cda) cc))) []))
    (go : ∀ h' tk dx, Filled s.heap h' x C dx (fun y => if y = "what" then some v_what else none) → R (.ok (.ret .none)) { s with heap := h', toks := tk }) :
    codeAny (model prog w) A (.call (.ref fI) ⟨[.ref x, v_what], []⟩) R s := by
  obtain ⟨nm, qn, N, bs, bm, sn, sub, ab, col, dd, k0, k1, k2, k3, k5, hC, hbm⟩ := T.cls
  have hcl : PySem.W.clsIn K C = some { name := nm, bases := bs, mro := .ref C :: bm, ns := N, qualname := qn, hasDict := true, slotNames := sn, subclasses := sub, abstract := ab, collection := col, hasDel := false } := by
    unfold PySem.W.clsIn; rw [hC] <;> rfl
  refine ks_codeAny_call_defAt (fd := ksFn "__init__" qual (arg_what p0 p_what) [supS msg p1 p2 p3 p4 p5 p6, fldS "what" q1_what q2_what q3_what q4_what] sc_what .none kV doc pm an (.ref cda) ct cc) (binds := [("self", .ref x), ("what", v_what)]) room (X _ _ lk) rfl lim (codeRec_of X hcd) rfl
    (BindsTo.of_eq (by first | rfl | with_unfolding_all rfl)) (fun y hy => (by decide : ∀ y ∈ sc_what.names, y.2 ≠ .cell) y hy) (locs rfl) (fun h₀ hns kp => ?_) rfl rfl rfl
  have X0 : K.In h₀ := X.keeps kp
  have M0 : Mods mg h₀ := M.keeps kp
  have ox0 := kp _ _ ox
  obtain ⟨mb, hmb, emb⟩ := M0.b
  have Lx : s.heap.objs.size ≠ x := Nat.ne_of_gt (Heap.lt_size ox)
  obtain ⟨pl, hev⟩ := hev s.heap.objs.size
  refine ks_wpAt_execs_cons ?_
  refine super_done (ar := { arg := "self", annotation := none, pos := p0 }) T X0 M0.g M0.s hmb emb lk rfl hns (by rfl) ox0 rfl (by rfl) (by rfl) (by rfl) hev (fun h1 t1 tk1 kp1 ox1 => ?_)
  obtain ⟨oL, esL, epL, hoL, rL⟩ := hns
  have hns1 : h1.Ns s.heap.objs.size _ := ⟨oL, esL, epL, kp1 _ _ Lx hoL, rL⟩
  have X1 : K.In h1 := K_but X0 out kp1
  refine wpAt_of_wpAny ?_

  show wpAny _ _ (execs _ _) _ _ _
  refine wpAny_execs_cons (plainObj_wpAny_Assign_Attribute ?_)
  refine wpAny_Name (wpAny_loadName_local (v := v_what) rfl (by rfl) hns1 (by rfl) ?_) (by decide)
  refine wpAny_Name (wpAny_loadName_local (v := .ref x) rfl (by rfl) hns1 (by rfl) ?_) (by decide)
  refine set_plain X1 (ox := excO C t1) (od := none) ⟨ox1, rfl, rfl, trivial⟩ T.store ?_
  refine exc_osa X1 ox1 hcl (show refsVE (.ref C :: bm) = true from hbm) rfl no_what (fun h2 tk2 dx kp2 big dne ox2 ns2 => ?_)
  have zb : s.heap.objs.size ≤ dx := Nat.le_trans (Nat.le_of_lt (Heap.lt_size (kp1 _ _ Lx hoL))) big

  show wpAny _ _ (execs _ _) _ _ _
  exact wpAny_execs_nil (go h2 tk2 dx ⟨fun b o hb e => kp2 b o hb (kp1 b o hb (kp b o e)), ⟨_, ox2⟩, zb, dne, ns2⟩)
end
def arg_text_at (p0 p_text p_at : Pos) : Arguments := { posonlyargs := [], args := [{ arg := "self", annotation := none, pos := p0 }, { arg := "text", annotation := none, pos := p_text }, { arg := "at", annotation := none, pos := p_at }], vararg := none, kwonlyargs := [], kw_defaults := [], kwarg := none, defaults := [] }
def sc_text_at : Scope := { kind := .function, names := [("self", .local), ("text", .local), ("at", .local), ("__class__", .free), ("super", .globalImplicit)], isGenerator := false, isCoroutine := false, more := [] }
section
variable {prog : Program} {w : World} {A : Around} {E : Value → Shared → Prop} {R : Result → Shared → Prop} {s : Shared} {K : Frag} {C fI cc cda x : Addr} {mg : Str → Option Value}
theorem init_text_at {msg qual : Str} {p0 p_text p_at p1 p2 p3 p4 p5 p6 q1_text q2_text q3_text q4_text q1_at q2_at q3_at q4_at : Pos} {kV doc pm ct oc : Value} {an od : Option Addr} {osl : Array (Option Value)} {t0 : Addr} {v_text v_at : Value}
    (T : ErC prog K C fI cc cda) (no_text : findIn K (.ref C) "text" = some none) (no_at : findIn K (.ref C) "at" = some none)
    (lk : K.lookup fI = some ⟨oc, od, .func (ksFn "__init__" qual (arg_text_at p0 p_text p_at) [supS msg p1 p2 p3 p4 p5 p6, fldS "text" q1_text q2_text q3_text q4_text, fldS "at" q1_at q2_at q3_at q4_at] sc_text_at .none kV doc pm an (.ref cda) ct cc), osl⟩)
    (hcd : codeIn K (.ref cda) qual = true) (X : K.In s.heap) (M : Mods mg s.heap) (lim : s.heap.NoLimit) (ox : s.heap.get? x = some (excO C t0)) (out : K.lookup x = none) (room : A.depth < recursionLimit)
    (hev : ∀ L : Addr, ∃ pl, eval (.Call (.Attribute (.Call (.Name "super" p1) [] [] p2) "__init__" p3) [.Constant (.str msg) 0 p4] [] p5) (ksEnv qual sc_text_at L fI (.ref cda) cc) = (do
      let ov ← attributeBase (.Call (.Name "super" p1) [] [] p2) "__init__" (ksEnv qual sc_text_at L fI (.ref cda) cc) (eval (.Call (.Name "super" p1) [] [] p2) (ksEnv qual sc_text_at L fI (.ref cda) cc))
      standAt p3.atName
      let (f, first) ← holding [ov] (getMethod ov "__init__" pl)
      callWith p5 f first (backTo p5 (starEach [.Constant (.str msg) 0 p4] (ksEnv qual sc_text_at L fI (.ref cda) cc))) []))
    (go : ∀ h' tk dx, Filled s.heap h' x C dx (fun y => if y = "at" then some v_at else if y = "text" then some v_text else none) → R (.ok (.ret .none)) { s with heap := h', toks := tk }) :
    codeAny (model prog w) A (.call (.ref fI) ⟨[.ref x, v_text, v_at], []⟩) R s := by
  obtain ⟨nm, qn, N, bs, bm, sn, sub, ab, col, dd, k0, k1, k2, k3, k5, hC, hbm⟩ := T.cls
  have hcl : PySem.W.clsIn K C = some { name := nm, bases := bs, mro := .ref C :: bm, ns := N, qualname := qn, hasDict := true, slotNames := sn, subclasses := sub, abstract := ab, collection := col, hasDel := false } := by
    unfold PySem.W.clsIn; rw [hC] <;> rfl
  refine ks_codeAny_call_defAt (fd := ksFn "__init__" qual (arg_text_at p0 p_text p_at) [supS msg p1 p2 p3 p4 p5 p6, fldS "text" q1_text q2_text q3_text q4_text, fldS "at" q1_at q2_at q3_at q4_at] sc_text_at .none kV doc pm an (.ref cda) ct cc) (binds := [("self", .ref x), ("text", v_text), ("at", v_at)]) room (X _ _ lk) rfl lim (codeRec_of X hcd) rfl
    (BindsTo.of_eq (by first | rfl | with_unfolding_all rfl)) (fun y hy => (by decide : ∀ y ∈ sc_text_at.names, y.2 ≠ .cell) y hy) (locs rfl) (fun h₀ hns kp => ?_) rfl rfl rfl
  have X0 : K.In h₀ := X.keeps kp
  have M0 : Mods mg h₀ := M.keeps kp
  have ox0 := kp _ _ ox
  obtain ⟨mb, hmb, emb⟩ := M0.b
  have Lx : s.heap.objs.size ≠ x := Nat.ne_of_gt (Heap.lt_size ox)
  obtain ⟨pl, hev⟩ := hev s.heap.objs.size
  refine ks_wpAt_execs_cons ?_
  refine super_done (ar := { arg := "self", annotation := none, pos := p0 }) T X0 M0.g M0.s hmb emb lk rfl hns (by rfl) ox0 rfl (by rfl) (by rfl) (by rfl) hev (fun h1 t1 tk1 kp1 ox1 => ?_)
  obtain ⟨oL, esL, epL, hoL, rL⟩ := hns
  have hns1 : h1.Ns s.heap.objs.size _ := ⟨oL, esL, epL, kp1 _ _ Lx hoL, rL⟩
  have X1 : K.In h1 := K_but X0 out kp1
  refine wpAt_of_wpAny ?_

  show wpAny _ _ (execs _ _) _ _ _
  refine wpAny_execs_cons (plainObj_wpAny_Assign_Attribute ?_)
  refine wpAny_Name (wpAny_loadName_local (v := v_text) rfl (by rfl) hns1 (by rfl) ?_) (by decide)
  refine wpAny_Name (wpAny_loadName_local (v := .ref x) rfl (by rfl) hns1 (by rfl) ?_) (by decide)
  refine set_plain X1 (ox := excO C t1) (od := none) ⟨ox1, rfl, rfl, trivial⟩ T.store ?_
  refine exc_osa X1 ox1 hcl (show refsVE (.ref C :: bm) = true from hbm) rfl no_text (fun h2 tk2 dx kp2 big dne ox2 ns2 => ?_)
  have zb : s.heap.objs.size ≤ dx := Nat.le_trans (Nat.le_of_lt (Heap.lt_size (kp1 _ _ Lx hoL))) big

  have hns2 : h2.Ns s.heap.objs.size _ := ⟨oL, esL, epL, kp2 _ _ Lx (kp1 _ _ Lx hoL), rL⟩
  have X2 : K.In h2 := K_but X1 out kp2
  show wpAny _ _ (execs _ _) _ _ _
  refine wpAny_execs_cons (plainObj_wpAny_Assign_Attribute ?_)
  refine wpAny_Name (wpAny_loadName_local (v := v_at) rfl (by rfl) hns2 (by rfl) ?_) (by decide)
  refine wpAny_Name (wpAny_loadName_local (v := .ref x) rfl (by rfl) hns2 (by rfl) ?_) (by decide)
  have hdx : ∃ od, h2.get? dx = some od := by
    obtain ⟨od, _, _, e, _⟩ := ns2
    exact ⟨od, e⟩
  obtain ⟨od2, hod2⟩ := hdx
  refine set_plain X2 (ox := { cls := .ref C, dict := some dx, data := .fields #[.ref t1, .none, .none, .none, .bool false, .none] }) (od := some od2) ⟨ox2, rfl, rfl, hod2⟩ T.store ?_
  have wi : Within (fun y => if y = ("text" : Str) then some v_text else none) ["text"] := Within.cons "text" v_text Within.nil
  refine OEX.osa_old X2 ox2 ns2 wi (by decide) hcl (show refsVE (.ref C :: bm) = true from hbm) rfl no_at (fun h3 tk3 kp3 ns3 => ?_)
  show wpAny _ _ (execs _ _) _ _ _
  refine wpAny_execs_nil (go h3 tk3 dx ⟨fun b o hb e => kp3 b o (fun z => ?_) (kp2 b o hb (kp1 b o hb (kp b o e))), ⟨_, kp3 _ _ (Ne.symm dne) ox2⟩, zb, dne, ns3⟩)
  have y := Heap.lt_size e
  rw [z] at y
  exact absurd (Nat.lt_of_lt_of_le y zb) (Nat.lt_irrefl _)
end
def arg_line_at (p0 p_line p_at : Pos) : Arguments := { posonlyargs := [], args := [{ arg := "self", annotation := none, pos := p0 }, { arg := "line", annotation := none, pos := p_line }, { arg := "at", annotation := none, pos := p_at }], vararg := none, kwonlyargs := [], kw_defaults := [], kwarg := none, defaults := [] }
def sc_line_at : Scope := { kind := .function, names := [("self", .local), ("line", .local), ("at", .local), ("__class__", .free), ("super", .globalImplicit)], isGenerator := false, isCoroutine := false, more := [] }
section
variable {prog : Program} {w : World} {A : Around} {E : Value → Shared → Prop} {R : Result → Shared → Prop} {s : Shared} {K : Frag} {C fI cc cda x : Addr} {mg : Str → Option Value}
theorem init_line_at {msg qual : Str} {p0 p_line p_at p1 p2 p3 p4 p5 p6 q1_line q2_line q3_line q4_line q1_at q2_at q3_at q4_at : Pos} {kV doc pm ct oc : Value} {an od : Option Addr} {osl : Array (Option Value)} {t0 : Addr} {v_line v_at : Value}
    (T : ErC prog K C fI cc cda) (no_line : findIn K (.ref C) "line" = some none) (no_at : findIn K (.ref C) "at" = some none)
    (lk : K.lookup fI = some ⟨oc, od, .func (ksFn "__init__" qual (arg_line_at p0 p_line p_at) [supS msg p1 p2 p3 p4 p5 p6, fldS "line" q1_line q2_line q3_line q4_line, fldS "at" q1_at q2_at q3_at q4_at] sc_line_at .none kV doc pm an (.ref cda) ct cc), osl⟩)
    (hcd : codeIn K (.ref cda) qual = true) (X : K.In s.heap) (M : Mods mg s.heap) (lim : s.heap.NoLimit) (ox : s.heap.get? x = some (excO C t0)) (out : K.lookup x = none) (room : A.depth < recursionLimit)
    (hev : ∀ L : Addr, ∃ pl, eval (.Call (.Attribute (.Call (.Name "super" p1) [] [] p2) "__init__" p3) [.Constant (.str msg) 0 p4] [] p5) (ksEnv qual sc_line_at L fI (.ref cda) cc) = (do
      let ov ← attributeBase (.Call (.Name "super" p1) [] [] p2) "__init__" (ksEnv qual sc_line_at L fI (.ref cda) cc) (eval (.Call (.Name "super" p1) [] [] p2) (ksEnv qual sc_line_at L fI (.ref cda) cc))
      standAt p3.atName
      let (f, first) ← holding [ov] (getMethod ov "__init__" pl)
      callWith p5 f first (backTo p5 (starEach [.Constant (.str msg) 0 p4] (ksEnv qual sc_line_at L fI (.ref cda) cc))) []))
    (go : ∀ h' tk dx, Filled s.heap h' x C dx (fun y => if y = "at" then some v_at else if y = "line" then some v_line else none) → R (.ok (.ret .none)) { s with heap := h', toks := tk }) :
    codeAny (model prog w) A (.call (.ref fI) ⟨[.ref x, v_line, v_at], []⟩) R s := by
  obtain ⟨nm, qn, N, bs, bm, sn, sub, ab, col, dd, k0, k1, k2, k3, k5, hC, hbm⟩ := T.cls
  have hcl : PySem.W.clsIn K C = some { name := nm, bases := bs, mro := .ref C :: bm, ns := N, qualname := qn, hasDict := true, slotNames := sn, subclasses := sub, abstract := ab, collection := col, hasDel := false } := by
    unfold PySem.W.clsIn; rw [hC] <;> rfl
  refine ks_codeAny_call_defAt (fd := ksFn "__init__" qual (arg_line_at p0 p_line p_at) [supS msg p1 p2 p3 p4 p5 p6, fldS "line" q1_line q2_line q3_line q4_line, fldS "at" q1_at q2_at q3_at q4_at] sc_line_at .none kV doc pm an (.ref cda) ct cc) (binds := [("self", .ref x), ("line", v_line), ("at", v_at)]) room (X _ _ lk) rfl lim (codeRec_of X hcd) rfl
    (BindsTo.of_eq (by first | rfl | with_unfolding_all rfl)) (fun y hy => (by decide : ∀ y ∈ sc_line_at.names, y.2 ≠ .cell) y hy) (locs rfl) (fun h₀ hns kp => ?_) rfl rfl rfl
  have X0 : K.In h₀ := X.keeps kp
  have M0 : Mods mg h₀ := M.keeps kp
  have ox0 := kp _ _ ox
  obtain ⟨mb, hmb, emb⟩ := M0.b
  have Lx : s.heap.objs.size ≠ x := Nat.ne_of_gt (Heap.lt_size ox)
  obtain ⟨pl, hev⟩ := hev s.heap.objs.size
  refine ks_wpAt_execs_cons ?_
  refine super_done (ar := { arg := "self", annotation := none, pos := p0 }) T X0 M0.g M0.s hmb emb lk rfl hns (by rfl) ox0 rfl (by rfl) (by rfl) (by rfl) hev (fun h1 t1 tk1 kp1 ox1 => ?_)
  obtain ⟨oL, esL, epL, hoL, rL⟩ := hns
  have hns1 : h1.Ns s.heap.objs.size _ := ⟨oL, esL, epL, kp1 _ _ Lx hoL, rL⟩
  have X1 : K.In h1 := K_but X0 out kp1
  refine wpAt_of_wpAny ?_

  show wpAny _ _ (execs _ _) _ _ _
  refine wpAny_execs_cons (plainObj_wpAny_Assign_Attribute ?_)
  refine wpAny_Name (wpAny_loadName_local (v := v_line) rfl (by rfl) hns1 (by rfl) ?_) (by decide)
  refine wpAny_Name (wpAny_loadName_local (v := .ref x) rfl (by rfl) hns1 (by rfl) ?_) (by decide)
  refine set_plain X1 (ox := excO C t1) (od := none) ⟨ox1, rfl, rfl, trivial⟩ T.store ?_
  refine exc_osa X1 ox1 hcl (show refsVE (.ref C :: bm) = true from hbm) rfl no_line (fun h2 tk2 dx kp2 big dne ox2 ns2 => ?_)
  have zb : s.heap.objs.size ≤ dx := Nat.le_trans (Nat.le_of_lt (Heap.lt_size (kp1 _ _ Lx hoL))) big

  have hns2 : h2.Ns s.heap.objs.size _ := ⟨oL, esL, epL, kp2 _ _ Lx (kp1 _ _ Lx hoL), rL⟩
  have X2 : K.In h2 := K_but X1 out kp2
  show wpAny _ _ (execs _ _) _ _ _
  refine wpAny_execs_cons (plainObj_wpAny_Assign_Attribute ?_)
  refine wpAny_Name (wpAny_loadName_local (v := v_at) rfl (by rfl) hns2 (by rfl) ?_) (by decide)
  refine wpAny_Name (wpAny_loadName_local (v := .ref x) rfl (by rfl) hns2 (by rfl) ?_) (by decide)
  have hdx : ∃ od, h2.get? dx = some od := by
    obtain ⟨od, _, _, e, _⟩ := ns2
    exact ⟨od, e⟩
  obtain ⟨od2, hod2⟩ := hdx
  refine set_plain X2 (ox := { cls := .ref C, dict := some dx, data := .fields #[.ref t1, .none, .none, .none, .bool false, .none] }) (od := some od2) ⟨ox2, rfl, rfl, hod2⟩ T.store ?_
  have wi : Within (fun y => if y = ("line" : Str) then some v_line else none) ["line"] := Within.cons "line" v_line Within.nil
  refine OEX.osa_old X2 ox2 ns2 wi (by decide) hcl (show refsVE (.ref C :: bm) = true from hbm) rfl no_at (fun h3 tk3 kp3 ns3 => ?_)
  show wpAny _ _ (execs _ _) _ _ _
  refine wpAny_execs_nil (go h3 tk3 dx ⟨fun b o hb e => kp3 b o (fun z => ?_) (kp2 b o hb (kp1 b o hb (kp b o e))), ⟨_, kp3 _ _ (Ne.symm dne) ox2⟩, zb, dne, ns3⟩)
  have y := Heap.lt_size e
  rw [z] at y
  exact absurd (Nat.lt_of_lt_of_le y zb) (Nat.lt_irrefl _)
end
end Er
namespace Er
open PySem PySem.W PySem.Calls PyProof.Rows PySem.HandSPX
/-- a made error e, its fields in its own dict d -/
structure Made (h h' : Heap) (e C d : Addr) (mA : Str → Option Value) : Prop where
  keep : ∀ b o, h.get? b = some o → h'.get? b = some o
  new : h.objs.size ≤ e
  obj : ∃ t1, h'.get? e = some { cls := .ref C, dict := some d, data := .fields #[.ref t1, .none, .none, .none, .bool false, .none] }
  big : h.objs.size ≤ d
  ne : d ≠ e
  ns : h'.Ns1 d mA
/-- C's __init__ called with a fresh x and us fills it -/
def Inits (prog : Program) (w : World) (K : Frag) (mg : Str → Option Value) (C fI : Addr) (us : List Value) (mA : Str → Option Value) : Prop :=
  ∀ (A : Around) (R : Result → Shared → Prop) (s : Shared) (x t0 : Addr), K.In s.heap → Mods mg s.heap → s.heap.NoLimit → s.heap.get? x = some (excO C t0) → K.lookup x = none → A.depth < recursionLimit →
    (∀ h' tk dx, Filled s.heap h' x C dx mA → R (.ok (.ret .none)) { s with heap := h', toks := tk }) → codeAny (model prog w) A (.call (.ref fI) ⟨.ref x :: us, []⟩) R s
section
variable {prog : Program} {w : World} {A : Around} {R : Result → Shared → Prop} {s : Shared} {K : Frag} {C fI cc cda : Addr} {mg : Str → Option Value} {us : List Value} {mA : Str → Option Value}
theorem made (T : ErC prog K C fI cc cda) (hi : Inits prog w K mg C fI us mA) (X : K.In s.heap) (M : Mods mg s.heap) (lim : s.heap.NoLimit) (room : A.depth + 1 < recursionLimit) (short : us.length ≤ sizeLine)
    (go : ∀ h' tk e d, Made s.heap h' e C d mA → R (.ok (.ret (.ref e))) { s with heap := h', toks := tk }) :
    codeAny (model prog w) A (.call (.ref C) ⟨us, []⟩) R s := by
  obtain ⟨nm, q, N, bs, bm, sn, sub, ab, col, dd, k0, k1, k2, k3, k5, hC, hbm⟩ := T.cls
  obtain ⟨hp, g, dr, tk, os⟩ := s
  have k : ∀ b o, hp.get? b = some o → ((hp.push (kdv_tup us)).push (excO C hp.objs.size)).get? b = some o := fun b o e => Heap.get?_push_of_some _ (Heap.get?_push_of_some _ e)
  have hget : ((hp.push (kdv_tup us)).push (excO C hp.objs.size)).get? (hp.objs.size + 1) = some (excO C hp.objs.size) := by heap_get
  have out : K.lookup (hp.objs.size + 1) = none := by
    cases e : K.lookup (hp.objs.size + 1) with
    | none => rfl
    | some o =>
      have z : hp.get? (hp.objs.size + 1) = some o := X _ _ e
      exact absurd (Nat.lt_of_succ_lt (Heap.lt_size z)) (Nat.lt_irrefl _)
  refine call_own F.excBase_ValueError (fun X => refsVE_contains X bm hbm) (X _ _ hC) (looks_findIn X T.init) (fun self => bind_fn X self T.fn) short ?_
  refine hi _ _ ⟨(hp.push (kdv_tup us)).push (excO C hp.objs.size), g, dr, tk, os⟩ _ _ (X.keeps k) (M.keeps k) (lim.keeps k) hget out ?_ fun h' tk' dx ⟨k', ho, dn, dne, hns⟩ => ?_
  · show A.depth + 1 < recursionLimit
    exact room
  · have old : ∀ b o, hp.get? b = some o → h'.get? b = some o := fun b o e => k' b o (Nat.ne_of_lt (Nat.lt_succ_of_lt (Heap.lt_size e))) (k b o e)
    have z : hp.objs.size + 1 + 1 ≤ dx := by
      have q := dn
      first
        | exact q
        | (rw [Heap.size_push, Heap.size_push] at q; exact q)
        | (simpa only [Heap.size_push] using q)
    exact ⟨rfl, go h' tk' (hp.objs.size + 1) dx ⟨old, Nat.le_succ _, ho, Nat.le_trans (Nat.le_trans (Nat.le_succ _) (Nat.le_succ _)) z, dne, hns⟩⟩
end
end Er
namespace Er
open PySem PySem.Spec PyProof.Rows L2
theorem mods_of {X : Cx} {pins : List (Addr × Obj)} {σ : L2.St} {H : Hp} {s : Shared} (I : Inv X pins σ H s) (hs : X.mg "super" = none) : Mods X.mg s.heap := by
  obtain ⟨mb, hb, e⟩ := I.mod.blt
  exact ⟨I.mod.glob.keeps I.bk, ⟨mb, hb.keeps I.bk, (e "super" (by decide)).trans (by decide +kernel)⟩, hs⟩
/-- an own error of the class named x may be made: F tells its fields -/
structure ErF (P : Program) (w : World) (K : PySem.W.Frag) (mg : Str → Option Value) (x : Str) (C : Addr) (F : List V → Option (List (Str × V))) : Prop where
  g : mg x = some (.ref C)
  sup : mg "super" = none
  c : ∃ fI cc cda, ErC P K C fI cc cda ∧ ∀ vs us fs, Vals vs us → F vs = some fs → us.length ≤ 2 ∧ ∃ mA, Inits P w K mg C fI us mA ∧ ∀ f, RelO (fs.lookup f) (mA f)
def tErr (C : Addr) (F : List V → Option (List (Str × V))) (ta : TA) : L2.St → Hp → XK → Prop := fun σ H Q => ta σ H fun vs H1 => ∃ fs, F vs = some fs ∧ ∀ d, H1 d = none → Q (.ref C) (some d) (upd H1 d (.xd fs))
section
variable {X : Cx} {C : Addr} {F : List V → Option (List (Str × V))}
theorem pmk_err {x : Str} {a : Expr} {es : List Expr} {ta : TA} {p pos : Pos} {k : Nat} (T : ErF X.prog X.w X.K X.mg x C F) (hr : Room k X.A) (ha : PA X (a :: es) ta) (hg : Gl X x := by rfl) (hdb : (x == ("__debug__" : Str)) = false := by decide)
    (he : starEach (a :: es) X.env = (false, eval a X.env) :: starEach es X.env := by rfl) (hpl : (backTo pos (starEach es X.env)).any (·.1) = false := by rfl) :
    L2N.PMk X (.Call (.Name x p) (a :: es) [] pos) (tErr C F ta) := by
  intro pins s σ H Q I h
  obtain ⟨fI, cc, cda, TC, TF⟩ := T.c
  refine wpAny_Call_Name_kw (ld_glob I hg T.g ?_ hdb)
  refine PySem.W.callWith_K (h₀ := X.base) I.ok.mod.kin TC.keep (thn (ha.run pos pins s σ H _ I h) fun us s1 hh => ?_) he hpl
  obtain ⟨vs, H1, I1, r1, fs, hfs, q1⟩ := hh
  obtain ⟨hl, mA, hin, rel⟩ := TF vs us fs r1 hfs
  refine ⟨I1.kIn, ?_⟩
  show wpAny _ _ (call (.ref C) us) _ _ _
  have hlim := I1.nolimit
  have hM := mods_of I1 T.sup
  obtain ⟨hp, g, dr, tk, os⟩ := s1
  refine wpAny_call (made TC hin I1.kIn hM hlim (by have := hr.dp; omega) (by rw [sizeLine_eq]; omega) fun h' tk' e d M => ?_)
  show L2N.MkP X pins σ Q (.ref e) ⟨h', g, dr, tk', os⟩
  obtain ⟨t1, hoe⟩ := M.obj
  have hns := M.ns
  obtain ⟨G', g1, g2⟩ := restrict h' fun b => decide (b ≠ e)
  have gk : ∀ b, b ≠ e → G'.get? b = h'.get? b := fun b hb => g1 b (decide_eq_true hb)
  have ge : G'.get? e = none := g2 e (by simp)
  have old : ∀ b o, hp.get? b = some o → G'.get? b = some o := fun b o q => (gk b (Nat.ne_of_lt (Nat.lt_of_lt_of_le (Heap.lt_size q) M.new))).trans (M.keep b o q)
  have ob : ObjOk X.prog X.w (upd H1 d (.xd fs)) G' d (.xd fs) := ⟨_, hns.at (fun o q => (gk d M.ne).trans q), rel⟩
  have J : Inv X pins σ (upd H1 d (.xd fs)) ⟨G', g, dr, tk', os⟩ := I1.laid (t' := tk') old M.big ob
  refine ⟨e, _, _, ⟨G', g, dr, tk', os⟩, _, .ref C, some d, rfl, J, fun b o q => ?_, ge, hoe, ⟨rfl, rfl, fun vs ev => by cases ev; rfl⟩, rfl, rfl, ?_, rfl, I1.bare, raises_own TC.exc TC.typ, q1 d (I1.hok.fresh M.big)⟩
  · by_cases hb : b = e
    · have q' : G'.get? b = some o := q
      rw [hb, ge] at q'; cases q'
    · exact (gk b hb).symm.trans q
  · rw [upd_ne (Ne.symm M.ne)]
    exact I1.hok.fresh M.new
/-- raise C(e, ..) -/
theorem ps_raiseErr {x : Str} {a : Expr} {es : List Expr} {ta : TA} {W : WX} {p pos pos2 : Pos} {k : Nat} (hc : X.calm = true) (T : ErF X.prog X.w X.K X.mg x C F) (hr : Room k X.A) (tk : L2N.Takes X W) (ha : PA X (a :: es) ta) (hg : Gl X x := by rfl) (hdb : (x == ("__debug__" : Str)) = false := by decide)
    (he : starEach (a :: es) X.env = (false, eval a X.env) :: starEach es X.env := by rfl) (hpl : (backTo pos (starEach es X.env)).any (·.1) = false := by rfl) :
    PS X (.Raise (some (.Call (.Name x p) (a :: es) [] pos)) none pos2) (fun _ σ H => tErr C F ta σ H fun cls d H' => W cls d σ H') := L2N.ps_raise hc tk (pmk_err T hr ha hg hdb he hpl)
/-- a def that may let errors out: its body's walk to its promise -/
theorem okN {P : Program} {w : World} {K : PySem.W.Frag} {mg : Str → Option Value} {base : Heap} {x qual : Str} {st : Stmt} {f : Addr} {fd : FuncData} {N ps : List Str} {k : Nat} {sp : Sp} (D : Fun K x qual st f fd) (S : FnScope N ps (defScope st))
    (len : ∀ vs H Q E, sp vs H Q E → vs.length = ps.length)
    (go : ∀ (cdv : Value) (A : Around) (outer : List Env) (s : Shared) (H : Hp) (vs : List V) (Q : VK) (E : XK), Room k (A.deeper (envOfC qual (defScope st) s.heap.objs.size f cdv)) → sp vs H Q E →
      ∃ t, PSs (cxOf (L2N.CX P w) P w K mg base N qual (defScope st) f cdv A outer s H E) (defBody st) t ∧ t { nx := fun _ H' => Q .non H', rt := Q } (L2.start N vs) H) :
    FnOk P w K mg base (L2N.CX P w) (k + 1) f fd ps sp := by
  obtain ⟨_, _, _, _, _, _, cdv, _, _, rfl, lk, code⟩ := D.ex
  exact fn_of lk code S len fun A outer s H vs Q E => go cdv A outer s H vs Q E
/-- what a callee lets out goes on, out of the def -/
theorem passN {X : Cx} {E : XK} (tk : L2N.Takes X (fun cls d _ H => E cls d H)) : Passes (L2N.CX X.prog X.w) X E := L2N.passes_call tk fun _ _ _ _ h => h
theorem takesNo {X : Cx} : L2N.Takes X (fun _ _ _ _ => False) := fun _ _ ⟨_, _, _, _, _, _, _, _, _, _, _, _, _, _, _, _, no⟩ => no.elim
end
end Er
namespace Er
open PySem PySem.Spec PyProof.Rows L2
/-- a's exception has come down in X's frame: it is looked at by the clauses -/
structure Down (X : Cx) (pins : List (Addr × Obj)) (σ : L2.St) (H : Hp) (cls : Value) (d : Option Addr) (a : Addr) (B : Heap) (sI s : Shared) : Prop where
  inv : Inv X pins σ H sI
  grd : ∀ b o, sI.heap.get? b = some o → b ∉ frs X.stack → B.get? b = some o
  up : sI.heap.UpToSlots s.heap
  fly : HandSPX.FlyingZ B (X.env :: X.outer) a (L2N.Zn cls d) s.heap
  free : H a = none
  os : s.os = sI.os
  bare : AllBare s.gens
section
variable {X : Cx} {pins : List (Addr × Obj)} {σ : L2.St} {H : Hp} {cls : Value} {d : Option Addr} {a : Addr} {B : Heap} {sI s : Shared}
theorem Down.now (D : Down X pins σ H cls d a B sI s) : Inv X pins σ H s := D.inv.landed D.grd D.fly.1 D.up D.os D.bare
theorem Down.apart (D : Down X pins σ H cls d a B sI s) (hf : X.env.frame = some X.env.locals) : a ≠ X.env.locals ∧ a ∉ X.fs := by
  obtain ⟨oe, vs, he, hz, hd⟩ := D.fly.there
  have nfr : a ∉ frs (X.env :: X.outer) := fun hm => by
    obtain ⟨_, o', e', hnf⟩ := D.fly.2.2.1.mem hm
    rw [he] at e'
    cases e'
    exact hnf _ hd
  constructor
  · intro z
    refine nfr (List.mem_filterMap.mpr ⟨X.env, List.mem_cons_self, ?_⟩)
    rw [hf, z]
  · intro hm
    obtain ⟨e, he, q⟩ := List.mem_filterMap.mp hm
    exact nfr (List.mem_filterMap.mpr ⟨e, List.mem_cons_of_mem _ he, q⟩)
theorem Down.look (D : Down X pins σ H cls d a B sI s) (hf : X.env.frame = some X.env.locals) : ∃ oe, s.heap.get? a = some oe ∧ L2N.Zn cls d oe ∧ (∃ vs, oe.data = .fields vs) ∧ Inv (X.suite a ((a, oe) :: (X.pn ++ pins))) [] σ H s := by
  obtain ⟨oe, vs, he, hz, hd⟩ := D.fly.there
  obtain ⟨n1, n2⟩ := D.apart hf
  exact ⟨oe, he, hz, ⟨vs, hd⟩, D.now.suite he hd D.free n1 n2⟩
/-- the class that a clause names, asked -/
theorem Down.test (D : Down X pins σ H cls d a B sI s) (hf : X.env.frame = some X.env.locals) {x : Str} {c : Value} {np : Pos} (hc : Names X x c) {Q : Value → Shared → Prop} {E : Value → Shared → Prop} (q : Q c s) :
    wpAny (model X.prog X.w) (X.A.mark (some (.ref a))) (eval (.Name x np) X.env) Q E s := by
  obtain ⟨oe, he, hz, hd, S⟩ := D.look hf
  obtain ⟨hg, hdbg, hm | ⟨hm, hv, hnn⟩⟩ := hc
  · exact ld_glob (X := X.suite a ((a, oe) :: (X.pn ++ pins))) S hg hm q hdbg
  · exact ld_blt (X := X.suite a ((a, oe) :: (X.pn ++ pins))) S hg hm hv q hnn hdbg
/-- no clause takes it: it flies on -/
theorem Down.on (D : Down X pins σ H cls d a B sI s) (hs : X.stack = X.env :: X.outer) (hf : X.env.frame = some X.env.locals) {W : WX} (tk : L2N.Takes X W) (w : W cls d σ H) {Q : Flow → Shared → Prop} :
    wpAny (model X.prog X.w) X.A (handleBy (.ref a) X.env []) Q X.xe s := by
  refine wpAny_handleBy_nil ?_
  obtain ⟨k1, k2, k3, oe, vs, T, oT, ts', he, hz, hd, h1, hr⟩ := id D.fly
  have flies : wpAny (model X.prog X.w) X.A (setFlight (.ref a) X.env.frame) (fun _ s4 => wpAny (model X.prog X.w) X.A (throw (.ref a) : Sem Flow) Q X.xe s4) X.xe s := by
    rw [hf]
    refine HandSPX.setFlight_upZ D.fly fun h4 hh4 up4 => wpAny_throw (tk _ _ ?_)
    refine ⟨a, B, sI, pins, σ, H, cls, d, rfl, D.inv, D.grd, D.up.trans up4, .inr (.inr ?_), D.free, D.os, D.bare, w⟩
    rw [hs]
    exact hh4
  unfold PySem.passOn
  refine wpAny_bind (wpAny_field he hd h1 ?_)
  have noT : ¬ ((Value.ref T == Value.none) = true) := by simp
  rw [if_neg noT]
  first
    | exact wpAny_bind flies
    | exact wpAny_bind (wpAny_pure (wpAny_bind flies))
end
/-- behind a suite whose name stands in slot i -/
def gone (i : Nat) (D : Ends) : Ends := { nx := fun σ H => D.nx (σ.set i none) H, rt := D.rt, bk := fun σ H => D.bk (σ.set i none) H, ct := fun σ H => D.ct (σ.set i none) H }
/-- except c as the name in slot i: ts -/
structure Cl where
  c : Value
  i : Nat
  ts : Addr → Value → Option Addr → TS
def wCls (K : PySem.W.Frag) (Wout : WX) (D : Ends) : List Cl → WX
  | [] => Wout
  | k :: r => fun cls d σ H => ∃ b, PySem.W.exmOne K cls k.c = some b ∧ (b = true → ∀ a, H a = none → k.ts a cls d (gone k.i D) (σ.set k.i (some (.ref a))) H) ∧ (b = false → wCls K Wout D r cls d σ H)
inductive ClsOk (X : Cx) : List ExceptHandler → List Cl → Prop
  | nil : ClsOk X [] []
  | cons {x n : Str} {c : Value} {i : Nat} {ts : Addr → Value → Option Addr → TS} {b₀ : Stmt} {suite : List Stmt} {np pos' : Pos} {hds : List ExceptHandler} {l : List Cl}
      (hc : Names X x c) (hi : X.N[i]? = some n) (hln : X.env.kindOf n = some .local)
      (hsu : ∀ (a : Addr) (oe : Obj) (cls : Value) (d : Option Addr) (pn : List (Addr × Obj)), L2N.Zn cls d oe → (∃ vs, oe.data = .fields vs) → PSs (X.suite a ((a, oe) :: pn)) (b₀ :: suite) (ts a cls d))
      (r : ClsOk X hds l) : ClsOk X (.ExceptHandler (some (.Name x np)) (some n) (b₀ :: suite) pos' :: hds) (⟨c, i, ts⟩ :: l)
section
variable {X : Cx} {pins : List (Addr × Obj)} {σ : L2.St} {H : Hp} {cls : Value} {d : Option Addr} {a : Addr} {B : Heap} {sI s : Shared}
/-- the suite of a clause that takes it -/
theorem Down.suite (D : Down X pins σ H cls d a B sI s) (hf : X.env.frame = some X.env.locals) (hN : X.N.Nodup) {n : Str} {i : Nat} (hi : X.N[i]? = some n) (hln : X.env.kindOf n = some .local) {ts : Addr → Value → Option Addr → TS} {b₀ : Stmt} {suite : List Stmt} {pos' : Pos} {En : Ends}
    (hsu : ∀ (a : Addr) (oe : Obj) (cls : Value) (d : Option Addr) (pn : List (Addr × Obj)), L2N.Zn cls d oe → (∃ vs, oe.data = .fields vs) → PSs (X.suite a ((a, oe) :: pn)) (b₀ :: suite) (ts a cls d))
    (h : ts a cls d (gone i En) (σ.set i (some (.ref a))) H) {E1 E2 : Value → Shared → Prop} :
    wpAny (model X.prog X.w) (X.A.mark (some (.ref a))) (storeName X.env n (.ref a)) (fun _ s5 => wpAny (model X.prog X.w) (X.A.mark (some (.ref a))) (execs (b₀ :: suite) X.env)
      (fun f s6 => wpAny (model X.prog X.w) X.A (do bindName X.env n .none; unbindBehindTheSuite X.env n pos') (fun _ s7 => SP X pins En f s7) X.xe s6) E2 s5) E1 s := by
  obtain ⟨oe, he, hz, hd, S⟩ := D.look hf
  refine store_ok (X := X.suite a ((a, oe) :: (X.pn ++ pins))) (v := .ref a) S hN hi (.inl hln) rfl (fun s5 S5 => ?_) (.inr hln)
  refine wpAny_mono ((hsu a oe cls d (X.pn ++ pins) hz hd).run [] s5 _ H _ S5 h) (fun f s6 hsp => ?_) (fun _ _ z => False.elim z)
  have fin : ∀ {σ6 : L2.St} {H6 : Hp} {Q : Shared → Prop}, Inv (X.suite a ((a, oe) :: (X.pn ++ pins))) [] σ6 H6 s6 → (∀ s7, Inv X pins (σ6.set i none) H6 s7 → Q s7) →
      wpAny (model X.prog X.w) X.A (do bindName X.env n .none; unbindBehindTheSuite X.env n pos') (fun _ s7 => Q s7) X.xe s6 :=
    fun {σ6 H6 Q} S6 hq => gone_ok (S6.unsuite D.inv.ok) hN hi hln hq
  cases f with
  | next =>
    obtain ⟨_, _, S6, q6⟩ := hsp
    exact fin S6 fun s7 J7 => ⟨_, _, J7, q6⟩
  | brk =>
    obtain ⟨_, _, S6, q6⟩ := hsp
    exact fin S6 fun s7 J7 => ⟨_, _, J7, q6⟩
  | cont =>
    obtain ⟨_, _, S6, q6⟩ := hsp
    exact fin S6 fun s7 J7 => ⟨_, _, J7, q6⟩
  | ret u =>
    obtain ⟨_, _, _, S6, r6, q6⟩ := hsp
    exact fin S6 fun s7 J7 => ⟨_, _, _, J7, r6, q6⟩
/-- the clauses, one after the other -/
theorem Down.handled (D : Down X pins σ H cls d a B sI s) (hs : X.stack = X.env :: X.outer) (hf : X.env.frame = some X.env.locals) (hN : X.N.Nodup) {Wout : WX} (tk : L2N.Takes X Wout) {En : Ends} {hds : List ExceptHandler} {l : List Cl}
    (hk : ClsOk X hds l) (w : wCls X.K Wout En l cls d σ H) : wpAny (model X.prog X.w) X.A (handleBy (.ref a) X.env hds) (SP X pins En) X.xe s := by
  induction hk with
  | nil => exact D.on hs hf tk w
  | @cons x n c i ts b₀ suite np pos' hds2 l2 hc hi hln hsu r ih =>
    obtain ⟨b, hb1, hyes, hno⟩ := w
    obtain ⟨oe, he, hz, hd, S⟩ := D.look hf
    have LT : PySem.W.Looks (model X.prog X.w) s.heap (typeOf (.ref a)) cls := fun A Q E s' k q => wpAny_typeOf_ref (k _ _ he) (by rw [hz.1]; exact q)
    have LM := PySem.W.exm_one (M := model X.prog X.w) D.now.kIn LT hb1
    refine wpAny_handleBy_cons (codeAny_handlers_test (D.test hf hc (LM.here ?_))) (by intro q; cases q)
    cases b with
    | true =>
      refine codeAny_handlers_suite_as ?_
      refine HandSPX.lands_againZ D.fly fun h4 fl4 up4 => ?_
      have D4 : Down X pins σ H cls d a B sI { s with heap := h4 } := ⟨D.inv, D.grd, D.up.trans up4, fl4, D.free, D.os, D.bare⟩
      exact D4.suite hf hN hi hln hsu (hyes rfl a D.free)
    | false =>
      show wpAny _ X.A (handleBy (.ref a) X.env hds2) _ _ _
      exact ih (hno rfl)
end
/-- try: body, except x1 as n1: .., except x2 as n2: .. -/
theorem ps_try_cls {X : Cx} {body : List Stmt} {h₀ : ExceptHandler} {hds : List ExceptHandler} {l : List Cl} {pos : Pos} {tb : WX → TS} {Wout : WX} (hs : X.stack = X.env :: X.outer) (hf : X.env.frame = some X.env.locals) (hN : X.N.Nodup) (tk : L2N.Takes X Wout)
    (hb : ∀ (W : WX) (pn : List (Addr × Obj)) (xe : Value → Shared → Prop), L2N.Takes (X.tr pn xe) W → PassesOwn (model X.prog X.w) X.A X.env xe → PSs (X.tr pn xe) body (tb W))
    (hh : ClsOk X (h₀ :: hds) l) : PS X (.Try body (h₀ :: hds) [] [] pos) (fun D σ H => tb (wCls X.K Wout D l) D σ H) := by
  refine ⟨fun pins s σ H D I h => ?_⟩
  have ok := I.ok
  have hfr : X.A.frames = some (X.env :: X.outer) := by rw [ok.frames, hs]
  have caught : ∀ u s', L2N.XE (X.tr (X.pn ++ pins) (fun e s₁ => wpAny (model X.prog X.w) X.A (noteFrame e X.env) (fun _ s₂ => wpAny (model X.prog X.w) X.A (setFlight e none) (fun _ s₃ =>
      wpAny (model X.prog X.w) X.A (handleBy e X.env (h₀ :: hds)) (SP X pins D) X.xe s₃) X.xe s₂) X.xe s₁)) (wCls X.K Wout D l) u s' →
      wpAny (model X.prog X.w) X.A (noteFrame u X.env) (fun _ s₂ => wpAny (model X.prog X.w) X.A (setFlight u none) (fun _ s₃ => wpAny (model X.prog X.w) X.A (handleBy u X.env (h₀ :: hds)) (SP X pins D) X.xe s₃) X.xe s₂) X.xe s' := by
    intro u s' xx
    obtain ⟨a, B, sI, pins', σ', H', cls, d, rfl, J', nb, up, sky, na, os, ag, w⟩ := xx
    have J : Inv X pins σ' H' sI := J'.ofTry ok
    have sky' : Sky B (X.env :: X.outer) a (L2N.Zn cls d) X.env.locals s'.heap := by rw [← hs]; exact sky
    refine L2N.Sky.land L2N.Zn.steady hfr hf sky' fun h3 fl3 up3 => ?_
    exact (Down.mk (B := B) (sI := sI) (s := { s' with heap := h3 }) J nb (up.trans up3) fl3 na os ag).handled hs hf hN tk hh w
  refine wpAny_Try_except ?_
  refine wpAny_mono ((hb (wCls X.K Wout D l) (X.pn ++ pins) _ caught PassesOwn.looking).run [] s σ H D (I.toTry _) h) (fun f s1 hsp => ?_) (fun e s1 he => he)
  cases f with
  | next =>
    obtain ⟨σ', H', J', q⟩ := hsp
    exact wpAny_execs_nil ⟨σ', H', J'.ofTry ok, q⟩
  | brk =>
    obtain ⟨σ', H', J', q⟩ := hsp
    exact ⟨σ', H', J'.ofTry ok, q⟩
  | cont =>
    obtain ⟨σ', H', J', q⟩ := hsp
    exact ⟨σ', H', J'.ofTry ok, q⟩
  | ret u =>
    obtain ⟨v, σ', H', J', r, q⟩ := hsp
    exact ⟨v, σ', H', J'.ofTry ok, r, q⟩
end Er
namespace Er
open PySem PySem.Spec PyProof.Rows L2
/-- isinstance(e, c), e the error that the suite holds at a: its class and its own dict are known -/
def rIsD (K : PySem.W.Frag) (cls : Value) (d : Option Addr) (a : Addr) : List V → Hp → VK → Prop := fun xs H Q =>
  ∃ (D dd : Addr) (fs : List (Str × V)) (c : V) (cv : Value) (b : Bool), cls = .ref D ∧ d = some dd ∧ ExcC K D ∧ H dd = some (.xd fs) ∧ xs = [.ref a, c] ∧ (∀ u, RelV c u → u = cv) ∧ PySem.W.kitOne K (.ref D) cv = some b ∧ Q (.bl b) H
theorem call_isD {X : Cx} {a : Addr} {cls : Value} {d : Option Addr} {oe : Obj} {pn : List (Addr × Obj)} (hz : Zc cls d oe) (hf : ∃ vs, oe.data = .fields vs) : CallR (X.suite a ((a, oe) :: pn)) (.builtin "isinstance") (rIsD X.K cls d a) := by
  intro pins s σ H xs us Q I r h
  obtain ⟨D, dd, fs, c, cv, b, hcls, hd, C, hx, hxs, hcv, e, q⟩ := h
  subst hcls hd hxs
  cases r with
  | cons rx rr =>
    cases rr with
    | cons rt rn =>
      cases rn
      cases rx
      have ec := hcv _ rt
      subst ec
      obtain ⟨hget, _⟩ := I.pin (a, oe) (List.mem_append_left _ List.mem_cons_self)
      obtain ⟨vs, hv⟩ := hf
      have ho : ∃ od, s.heap.get? dd = some od := by
        obtain ⟨_, ⟨od, _, _, z, _⟩, _⟩ := I.hok dd _ hx
        exact ⟨od, z⟩
      obtain ⟨od, ho⟩ := ho
      have J : PySem.W.InstAt s.heap a oe D (some od) := ⟨hget, hz.1, by unfold PySem.W.notCls; rw [hv] <;> rfl, by rw [hz.2]; exact ho⟩
      have hcl : (PySem.W.clsIn X.K D).isSome = true := by
        obtain ⟨cd, hc, _⟩ := PySem.W.any_some C.hd
        rw [hc]
        rfl
      have Z := PySem.W.kitx_exc (x := a) (ox := oe) (od := some od) hcl C.hg C.hk C.hs C.ha C.hn C.ht C.hm
      exact PySem.W.kia_one Z I.kIn J e (fun z => nomatch z) fun tk => ⟨.bl b, H, I.kept (t' := tk) fun _ _ z => z, rfl, q⟩
/-- the suite's error is the one that is handled, its context is None -/
theorem hot_suite {X : Cx} {a : Addr} {cls : Value} {d : Option Addr} {oe : Obj} {pn : List (Addr × Obj)} (hz : L2N.Zn cls d oe) (hf : ∃ vs, oe.data = .fields vs) : L2H.HotC (X.suite a ((a, oe) :: pn)) := by
  obtain ⟨vs, hv⟩ := hf
  exact ⟨(a, oe), ⟨rfl, vs, hv, hz.2.2 vs hv⟩, List.mem_cons_self⟩

/-! ### [e for x in range(..)] where an exception is handled -/
/-- a block's context that keeps the pins -/
abbrev blkH (X : Cx) (s : Shared) (H : Hp) (scope : Scope) (ce : Env) (fp : List Addr) : Cx := { X.blk s H scope ce fp with pn := X.pn }
section
variable {X : Cx} {s0 s : Shared} {H0 H : Hp} {scope : Scope} {ce : Env} {fp : List Addr} {σ : L2.St} {pins : List (Addr × Obj)}
theorem blkH_ok : (X.blk s0 H0 scope ce fp).Ok ↔ (blkH X s0 H0 scope ce fp).Ok :=
  ⟨fun o => ⟨o.mod, o.kind, o.glob, o.blt, o.above, o.inj, o.has, o.cab, o.hd, o.frames, o.stk, o.exf, o.bs, o.bsz, o.noex, o.exfs, o.funs, o.frf⟩,
   fun o => ⟨o.mod, o.kind, o.glob, o.blt, o.above, o.inj, o.has, o.cab, o.hd, o.frames, o.stk, o.exf, o.bs, o.bsz, o.noex, o.exfs, o.funs, o.frf⟩⟩
theorem blkH_in (I : Inv (X.blk s0 H0 scope ce fp) [] σ H s) (hp : ∀ p ∈ X.pn, s.heap.get? p.1 = some p.2 ∧ H p.1 = none ∧ p.1 ≠ ce.locals ∧ p.1 ∉ frs X.stack ∧ ∀ v, p.2.data ≠ .cell v) : Inv (blkH X s0 H0 scope ce fp) [] σ H s :=
  ⟨blkH_ok.mp I.ok, I.os, I.bare, I.base, I.loc, I.cell, I.free, I.freeC, fun p hm => hp p (by simpa using hm), I.hok, I.len⟩
theorem blkH_out (I : Inv (blkH X s0 H0 scope ce fp) [] σ H s) : Inv (X.blk s0 H0 scope ce fp) [] σ H s :=
  ⟨blkH_ok.mpr I.ok, I.os, I.bare, I.base, I.loc, I.cell, I.free, I.freeC, fun p hm => absurd hm (by simp), I.hok, I.len⟩
end
theorem pe_lcH {X : Cx} {elt tg iter : Expr} {scope : Scope} {own : List (Str × Nat)} {pos : Pos} {wi : TI} {g : TG} {te : TE} (hot : L2H.HotC X) (hN : X.N.Nodup) (hi : L2H.PIH X tg iter wi) (ok : BlkOk X.N X.env.scope scope own)
    (hg : ∀ (s : Shared) (H : Hp) (C : Addr) (cl : List (Str × Addr)) (fp : List Addr), PG (blkH X s H scope (compEnvC scope cl C X.env) fp) tg g)
    (he : ∀ (s : Shared) (H : Hp) (C : Addr) (cl : List (Str × Addr)) (fp : List Addr), PE (blkH X s H scope (compEnvC scope cl C X.env) fp) elt te) (hs : ∀ x, foldedSetIterable iter X.env x = pure x := by intro _; rfl) :
    PE X (.ListComp elt [⟨tg, iter, [], 0⟩] scope pos) (tLc wi g tYes te (own.map (·.2))) := by
  refine ⟨fun pins s σ H Q I h => ?_⟩
  have hfree : ∀ y ∈ scope.names, y.2 = .free → ∃ c, X.env.cells.lookup y.1 = some c := fun y hy e =>
    (ok.free y hy e).elim (fun k => I.ok.has _ (.inl k)) fun k => I.ok.has _ (.inr k)
  rw [eval_ListComp]
  refine wpAny_comprehension_free (use := none) rfl hs (closure_ok hfree) ok.kind (fun y hy e => by rw [ok.uniq y hy, e]) ?_
  refine thn (hi.run pins s σ H _ I h) fun xv s1 hx => thn hx fun itv s2 h2 => ?_
  obtain ⟨it, fp, tn, J, H2, ei, I2, T, st2, f2, q⟩ := h2
  subst ei
  refine wpAny_newObj_type (newEnv_comp ?_) (by show 0 ≤ sizeLine; decide)
  generalize hD : s2.heap.objs.size = D
  have hDn : H2 D = none := I2.hok.fresh (Nat.le_of_eq hD)
  obtain ⟨W, ⟨m0, w0⟩, turn⟩ := q D hDn
  generalize hs3 : ({ s2 with heap := s2.heap.push { cls := .type "list", data := .seq ([] : List Value).toArray } } : Shared) = s3
  have up3 : ∀ b o, s2.heap.get? b = some o → s3.heap.get? b = some o := fun b o e => by
    rw [← hs3]
    exact Heap.get?_push_of_some _ e
  have sz3 : s3.heap.objs.size = s2.heap.objs.size + 1 := by
    rw [← hs3]
    exact Heap.size_push _ _
  have I3 : Inv X pins σ (upd H2 D (.lst [])) s3 := by
    rw [← hs3]
    refine I2.laid (t' := s2.toks) (fun b o e => Heap.get?_push_of_some _ e) (Nat.le_of_eq hD) ⟨Nat.zero_le _, [], 0, .nil, ?_⟩
    rw [← hD]
    exact Heap.get?_push_size _ rfl
  have fpo : ∀ b ∈ fp, FpOk X pins (upd H2 D (.lst [])) b ∧ b < s3.heap.objs.size := fun b hb => by
    obtain ⟨o, e, _⟩ := T.obj _ _ st2 b hb
    have lt := Heap.lt_size e
    refine ⟨⟨?_, (f2 b hb).2⟩, by rw [sz3]; exact Nat.lt_succ_of_lt lt⟩
    rw [upd_ne (by rw [← hD]; exact Nat.ne_of_lt lt)]
    exact (f2 b hb).1
  have st3 : tn 0 s3.heap := T.keep _ _ _ st2 fun b _ o e => up3 b o e
  have I4 := block_start I3 ok hN fpo
  have pg := hg s3 (upd H2 D (.lst [])) s3.heap.objs.size (cellsFrom (s3.heap.objs.size + 1) scope.names (cloFrom X.env.cells scope.names [])) fp
  have pe := he s3 (upd H2 D (.lst [])) s3.heap.objs.size (cellsFrom (s3.heap.objs.size + 1) scope.names (cloFrom X.env.cells scope.names [])) fp
  show codeAny _ _ (.compStart (.ListComp elt [⟨tg, iter, [], 0⟩] scope pos) 0 (.ref it) (.ref D) (compEnvC scope (cellsFrom (s3.heap.objs.size + 1) scope.names (cloFrom X.env.cells scope.names [])) s3.heap.objs.size X.env))
    (compPost (model X.prog X.w) X.A X.xe none _ (.ref D) s3.heap.objs.size) { s3 with heap := pushCells (s3.heap.push { cls := .type "dict", data := .dict #[] }) scope.names }
  have nfp : ∀ b ∈ fp, (upd H2 D (.lst [])) b = none := fun b hb => (fpo b hb).1.1
  -- the pins stand in the block, too
  have pin3 : ∀ p ∈ X.pn, s3.heap.get? p.1 = some p.2 ∧ (upd H2 D (.lst [])) p.1 = none ∧ p.1 ∉ frs X.stack ∧ ∀ v, p.2.data ≠ .cell v := fun p hp => by
    obtain ⟨z1, z2, z3, z4, z5⟩ := I3.pin p (List.mem_append_left _ hp)
    exact ⟨z1, z2, fun hm => (List.mem_cons.mp (I3.stkSub p.1 hm)).elim z3 z4, z5⟩
  generalize hce : compEnvC scope (cellsFrom (s3.heap.objs.size + 1) scope.names (cloFrom X.env.cells scope.names [])) s3.heap.objs.size X.env = ce at I4 pg pe ⊢
  have cL : ce.locals = s3.heap.objs.size := by
    subst hce
    rfl
  generalize hH3 : upd H2 D (.lst []) = H3 at I3 I4 pg pe w0 nfp fpo pin3
  generalize hs4 : ({ s3 with heap := pushCells (s3.heap.push { cls := .type "dict", data := .dict #[] }) scope.names } : Shared) = s4 at I4 ⊢
  have up4 : ∀ b o, s3.heap.get? b = some o → s4.heap.get? b = some o := fun b o e => by
    rw [← hs4]
    exact pushCells_keeps _ _ _ _ (Heap.get?_push_of_some _ e)
  have I4H : Inv (blkH X s3 H3 scope ce fp) [] (wipe σ (own.map (·.2))) H3 s4 := blkH_in I4 fun p hp => by
    obtain ⟨z1, z2, z3, z4⟩ := pin3 p hp
    exact ⟨up4 _ _ z1, z2, by rw [cL]; exact Nat.ne_of_lt (Heap.lt_size z1), z3, z4⟩
  have st4 : tn 0 s4.heap := T.keep _ _ _ st3 fun b _ o e => up4 b o e
  have hotB : L2H.HotC (blkH X s3 H3 scope ce fp) := hot
  have fps : ∀ {σ' : L2.St} {H' : Hp} {s' : Shared}, Inv (blkH X s3 H3 scope ce fp) [] σ' H' s' → (∀ b ∈ fp, H' b = none) → ∀ b ∈ fp, FpOk (blkH X s3 H3 scope ce fp) [] H' b := fun {σ' H' s'} I' hn b hb => by
    refine ⟨hn b hb, (I'.ok.exf b hb).1, I'.ok.exfs b hb, .inl hb, fun x c e => (I'.ok.exf b hb).2 x c e, fun p hp => ?_⟩
    exact (fpo b hb).1.2.2.2.2.2 p (List.mem_append_left _ (by simpa using hp))
  have loop : codeAny (model X.prog X.w) X.A (.compLoop (.ListComp elt [⟨tg, iter, [], 0⟩] scope pos) 0 (.ref it) (.ref D) ce) (compPost (model X.prog X.w) X.A X.xe none (EP X pins σ Q) (.ref D) s3.heap.objs.size) s4 := by
    refine compLoop_any (fun n s' => ∃ i H', Inv (blkH X s3 H3 scope ce fp) [] (wipe σ (own.map (·.2))) H' s' ∧ tn i s'.heap ∧ (∀ b ∈ fp, H' b = none) ∧ W i n H') ?_ m0 ⟨0, H3, I4H, st4, nfp, w0⟩
    rintro n s5 ⟨i, H5, I5, st5, n5, w5⟩
    rcases turn i n H5 w5 with ⟨stop, qq⟩ | ⟨go, Nx, hNx, step⟩
    · have td := T.done (blkH X s3 H3 scope ce fp) rfl rfl rfl hotB i [] s5 _ H5 (fun _ _ => False) I5 (fps I5 n5) st5 stop
      refine thnF td fun r s6 ⟨hr, I6⟩ => ?_
      subst hr
      have I7 : Inv X pins σ H5 s6 := I3.call' (ch := fp) I6.os I6.base I6.hok I6.bare fun b hb => by
        obtain ⟨_, g2, _, g4, g5, g6⟩ := (fpo b hb).1
        exact ⟨g4, g2, g5, g6⟩
      have nC : H5 s3.heap.objs.size = none := by
        have z : H5 ce.locals = none := I6.free
        rw [cL] at z
        exact z
      obtain ⟨m, hn, _⟩ := I6.loc
      have hn : s6.heap.Ns ce.locals m := hn
      rw [cL] at hn
      refine ⟨m, hn, fun h'' sb => ?_⟩
      obtain ⟨f0, f1, f2', f3, f4, f5⟩ := I3.fpOk (Nat.le_refl _) nC
      exact ⟨.ref D, H5, I7.turned (t' := s6.toks) (fun b o hb e => (sb.2 b hb).trans e) f0 f1 f3 f4 f5, rfl, qq⟩
    · have ti := T.item (blkH X s3 H3 scope ce fp) rfl rfl rfl hotB i [] s5 _ H5 (fun _ _ => False) I5 (fps I5 n5) st5 go
      refine thnF ti fun r s6 ⟨u, hr, h6⟩ => ?_
      subst hr
      refine thnF h6 fun _ s7 ⟨x, H7, I7, r7, y7, st7, n7⟩ => ?_
      have I7' := I7.pinned (fps I7 n7) (T.obj _ _ st7)
      refine thnF (pg.run _ s7 _ H7 x u _ I7' r7 (step x H7 y7)) fun _ s8 ⟨σ8, H8, I8, hw8, q8⟩ => ?_
      refine wpAny_tests_nil ?_
      have q9 : te σ8 H8 fun y H4 => ∃ acc, H4 D = some (.lst acc) ∧ acc.length < sizeLine ∧ Nx (upd H4 D (.lst (acc ++ [y]))) := q8
      show wpAny _ _ (eval elt ce) _ _ _
      refine thnF (pe.run _ s8 σ8 H8 _ I8 q9) fun z s10 ⟨yv, H10, I10, r10, acc, hD10, hz10, nx⟩ => ?_
      refine app_ok (X := blkH X s3 H3 scope ce fp) I10 hD10 hz10 r10 fun s11 I11 => ?_
      obtain ⟨m', hm, w'⟩ := hNx _ nx
      have pin' : ∀ b ∈ fp, ∀ o, s7.heap.get? b = some o → s11.heap.get? b = some o ∧ (upd H10 D (.lst (acc ++ [yv]))) b = none := fun b hb o e =>
        let z := I11.pin (b, o) (List.mem_append_right _ (List.mem_append_right _ (mem_pinsAt hb e)))
        ⟨z.1, z.2.1⟩
      have hl : (wipe σ (own.map (·.2))).length = σ8.length := by rw [← hw8, wipe_length]
      refine ⟨m', hm, i + 1, _, (I11.unpinned (pins := [])).weak hl (fun j v e => ?_), T.keep _ _ _ st7 fun b hb o e => (pin' b hb o e).1, fun b hb => ?_, w'⟩
      · rw [← hw8] at e
        exact (wipe_some e).1
      · obtain ⟨o, e, _⟩ := T.obj _ _ st7 b hb
        exact (pin' b hb o e).2
  exact codeAny_compStart_list loop (T.self X.A 0 _ _ _ st4 loop)
end Er
namespace K1
open PySem PySem.Spec PyProof.Rows L2 Er
/-- len of a list, of a tuple -/
def rLenS (K : PySem.W.Frag) : List V → Hp → VK → Prop := fun xs H Q =>
  ∃ p ys, xs = [.ref p] ∧ (SqL K H p ys ∨ SqT K H p ys) ∧ Q (.int ys.length) H
/-! ### the text -/
def top (i : Nat) : Stmt := PySem.Challenge.pw_ibidem_k01_errors.main.body.getD i (.Pass ⟨0, 0, 0, 0⟩)
abbrev sFlow : Stmt := top 16
abbrev NFlow : List Str := ["script", "mixed", "cell"]
theorem scFlow : FnScope NFlow ["script"] (defScope sFlow) := ⟨rfl, rfl, rfl, by decide +kernel, rfl, by decide +kernel, by decide +kernel⟩
abbrev sLoad : Stmt := top 17
abbrev NLoad : List Str := ["flow", "cell"]
theorem scLoad : FnScope NLoad ["flow"] (defScope sLoad) := ⟨rfl, rfl, rfl, by decide +kernel, rfl, by decide +kernel, by decide +kernel⟩
abbrev sDraw : Stmt := top 18
abbrev NDraw : List Str := ["flow", "many", "drawn"]
theorem scDraw : FnScope NDraw ["flow", "many"] (defScope sDraw) := ⟨rfl, rfl, rfl, by decide +kernel, rfl, by decide +kernel, by decide +kernel⟩
abbrev sPick : Stmt := top 19
abbrev NPick : List Str := ["flow", "things"]
theorem scPick : FnScope NPick ["flow", "things"] (defScope sPick) := ⟨rfl, rfl, rfl, by decide +kernel, rfl, by decide +kernel, by decide +kernel⟩
/-- the built-ins that the text calls are still those -/
structure Bt (mg : Str → Option Value) : Prop where
  int : mg "int" = none
  list : mg "list" = none
  len : mg "len" = none
  abs : mg "abs" = none
  max : mg "max" = none
  isinstance : mg "isinstance" = none
  tuple : mg "tuple" = none
  all : mg "all" = none
  range : mg "range" = none
  str : mg "str" = none
  bool : mg "bool" = none
  ValueError : mg "ValueError" = none
/-! ### the flow: a list of six at f -/
structure FlowAt (H : Hp) (f sc : Addr) (ns : List Int) (i c l m o : Int) : Prop where
  f : H f = some (.lst [.ref sc, .int i, .int c, .int l, .int m, .int o])
  s : H sc = some (.lst (ns.map V.int))
  p : 0 ≤ i
def Flow (H : Hp) (f : Addr) : Prop := ∃ sc ns i c l m o, FlowAt H f sc ns i c l m o
/-- all but what stands at f is as it was -/
def But (f : Addr) (H H' : Hp) : Prop := ∀ b o, b ≠ f → H b = some o → H' b = some o
theorem But.refl (f : Addr) (H : Hp) : But f H H := fun _ _ _ e => e
theorem But.trans {f : Addr} {H H1 H2 : Hp} (a : But f H H1) (b : But f H1 H2) : But f H H2 := fun c o n e => b c o n (a c o n e)
theorem But.upd {f : Addr} {H H1 : Hp} {o : HO} (a : But f H H1) : But f H (L2.upd H1 f o) := fun c u n e => by rw [upd_ne n]; exact a c u n e
theorem But.new {f p : Addr} {H H1 : Hp} {o : HO} (a : But f H H1) (hp : H1 p = none) : But f H (L2.upd H1 p o) := fun c u n e => by
  have z := a c u n e
  rw [upd_ne (ne_of_none z hp)]
  exact z
theorem FlowAt.ne {H : Hp} {f sc : Addr} {ns : List Int} {i c l m o : Int} (F : FlowAt H f sc ns i c l m o) : sc ≠ f := by
  intro e
  have a := F.s
  rw [e, F.f] at a
  have b := HO.lst.inj (Option.some.inj a)
  cases ns with
  | nil => cases b
  | cons n r =>
    rw [List.map_cons] at b
    cases (List.cons.inj b).1
theorem FlowAt.set {H : Hp} {f sc : Addr} {ns : List Int} {i c l m o i' c' l' m' o' : Int} (F : FlowAt H f sc ns i c l m o) (p : 0 ≤ i') :
    FlowAt (L2.upd H f (.lst [.ref sc, .int i', .int c', .int l', .int m', .int o'])) f sc ns i' c' l' m' o' :=
  ⟨upd_same, by rw [upd_ne F.ne]; exact F.s, p⟩
/-! ### what the defs promise -/
def spFlow (K : PySem.W.Frag) : Sp := fun vs H Q _ => ∃ (a : Addr) (ns : List Int), vs = [.ref a] ∧ SqL K H a (ns.map V.int) ∧ ∀ f H', Flow H' f → H f = none → Same H H' → Q (.ref f) H'
def spLoad : Sp := fun vs H Q _ => ∃ f, vs = [.ref f] ∧ Flow H f ∧ ∀ H', Flow H' f → But f H H' → Q .non H'
def spDraw : Sp := fun vs H Q _ => ∃ f m, vs = [.ref f, .int m] ∧ m < 2 ^ 200 ∧ Flow H f ∧ ∀ (r : Int) H', 0 ≤ r → (0 < m → r < m) → (m ≤ 0 → r = 0) → Flow H' f → But f H H' → Q (.int r) H'
def spPick : Sp := fun vs H Q _ => ∃ f t xs, vs = [.ref f, .ref t] ∧ f ≠ t ∧ H t = some (.lst xs) ∧ xs ≠ [] ∧ xs.length ≤ 1000 ∧ Flow H f ∧ ∀ x H', x ∈ xs → Flow H' f → But f H H' → Q x H'
structure Txt (mg : Str → Option Value) (fLoad fDraw : Addr) : Prop where
  b : Bt mg
  gLoad : mg "_law_load" = some (.ref fLoad)
  gDraw : mg "_law_draw" = some (.ref fDraw)
section
variable {P : Program} {w : World} {K : PySem.W.Frag} {mg : Str → Option Value} {base : Heap} {fLoad fDraw : Addr}
theorem ok_Load {f : Addr} {fd : FuncData} (F : Fun K "_law_load" "_law_load" sLoad f fd) (T : Txt mg fLoad fDraw) : FnOk P w K mg base CX0 1 f fd ["flow"] spLoad := by
  refine F.ok scLoad (fun vs H Q E h => ?_) (fun cdv A outer s H vs Q E hr h => ?_)
  · obtain ⟨f, rfl, _⟩ := h
    rfl
  · refine ⟨_, (pss_cons (ps_if (pt_cmpR op_ge (pe_ix (r := rIxL K) ix_list (pv 0) pe_int (fun _ _ => rfl)) (pe_callB (r := rLenS K) call_len_seq (by rfl) T.b.len PySem.boot_len (pa_cons (pe_ix (r := rIxL K) ix_list (pv 0) pe_int (fun _ _ => rfl)) pa_nil)) (nomark _)) (pss_cons (ps_asg pe_int (pg_sub (pv 0) pe_int set_list))
      (pss_cons (ps_asg pe_int (pg_sub (pv 0) pe_int set_list))
      (pss_cons (ps_asg pe_int (pg_sub (pv 0) pe_int set_list))
      (pss_one ps_retN)))) pss_nil)
      (pss_cons (ps_set (i := 1) scLoad.nd rfl (Or.inl rfl) (pe_callTy call_int1 (by rfl) T.b.int (by decide +kernel) (pa_cons (pe_ix (r := rIxL K) ix_list (pe_ix (r := rIxL K) ix_list (pv 0) pe_int (fun _ _ => rfl)) (pe_ix (r := rIxL K) ix_list (pv 0) pe_int (fun _ _ => rfl)) (fun _ _ => rfl)) pa_nil)))
      (pss_cons (ps_asg (pe_op op_add (pe_ix (r := rIxL K) ix_list (pv 0) pe_int (fun _ _ => rfl)) pe_int) (pg_sub (pv 0) pe_int set_list))
      (pss_cons (ps_asg (pe_op op_fdiv (pe_callB call_abs (by rfl) T.b.abs (by decide +kernel) (pa_cons (pv 1) pa_nil)) pe_int) (pg_sub (pv 0) pe_int set_list))
      (pss_cons (ps_asg pe_int (pg_sub (pv 0) pe_int set_list))
      (pss_cons (ps_asg (pe_op op_mod (pe_callTy call_int1 (by rfl) T.b.int (by decide +kernel) (pa_cons (pv 1) pa_nil)) pe_int) (pg_sub (pv 0) pe_int set_list))
      (pss_one (ps_if (pt_cmpR op_eq (pe_ix (r := rIxL K) ix_list (pv 0) pe_int (fun _ _ => rfl)) pe_int (nomark _)) (pss_cons (ps_asg (pe_op op_mod (pe_callTy call_int1 (by rfl) T.b.int (by decide +kernel) (pa_cons (pe_ix (r := rIxL K) ix_list (pv 0) pe_int (fun _ _ => rfl)) pa_nil)) pe_int) (pg_sub (pv 0) pe_int set_list))
      (pss_one (ps_asg pe_int (pg_sub (pv 0) pe_int set_list)))) pss_nil)))))))), ?_⟩
    obtain ⟨f, rfl, ⟨sc, ns, i, c, l, m, o, F⟩, k⟩ := h
    refine ⟨_, rfl, f, _, 1, _, rfl, rfl, SqL.of F.f, rfl, ?_⟩
    refine ⟨_, rfl, f, _, 0, _, rfl, rfl, SqL.of F.f, rfl, sc, _, rfl, .inl (SqL.of F.s), ?_⟩
    refine ⟨_, _, rfl, rfl, _, rfl, ?_⟩
    refine ite2 (fun c1 => ?_) (fun c1 => ?_)
    · refine ⟨_, rfl, f, _, 2, 2, rfl, rfl, F.f, rfl, ?_⟩
      refine ⟨_, rfl, f, _, 3, 3, rfl, rfl, upd_same, rfl, ?_⟩
      refine ⟨_, rfl, f, _, 5, 5, rfl, rfl, upd_same, rfl, ?_⟩
      rw [upd_upd, upd_upd]
      exact k _ ⟨sc, ns, _, _, _, _, _, F.set F.p⟩ (But.upd (But.refl _ _))
    · have hi : i.toNat < ns.length := by
        have c2 : ¬ ((ns.map V.int).length : Int) ≤ i := fun z => c1 (decide_eq_true z)
        rw [List.length_map] at c2
        have := F.p
        omega
      have hi2 : i = (i.toNat : Int) := by have := F.p; omega
      obtain ⟨z, hz⟩ : ∃ z, ns[i.toNat]? = some z := ⟨_, List.getElem?_eq_getElem hi⟩
      have hat : atI (ns.map V.int) i = some (V.int z) := by
        rw [hi2]
        refine atI_nat ?_
        rw [List.getElem?_map, hz]
        rfl
      refine ⟨_, rfl, f, _, 0, _, rfl, rfl, SqL.of F.f, rfl, ?_⟩
      refine ⟨_, rfl, f, _, 1, _, rfl, rfl, SqL.of F.f, rfl, ?_⟩
      refine ⟨sc, _, i, _, rfl, rfl, SqL.of F.s, hat, .inl ⟨_, rfl, ?_⟩⟩
      -- flow[1] = flow[1] + 1
      refine ⟨_, rfl, f, _, 1, _, rfl, rfl, SqL.of F.f, rfl, _, _, rfl, rfl, ?_⟩
      refine ⟨_, rfl, f, _, 1, 1, rfl, rfl, F.f, rfl, ?_⟩
      -- flow[2] = abs(cell) // 2
      refine ⟨_, rfl, _, rfl, _, _, rfl, rfl, ⟨by decide, by decide⟩, ?_⟩
      refine ⟨_, rfl, f, _, 2, 2, rfl, rfl, upd_same, rfl, ?_⟩
      refine ⟨_, rfl, f, _, 3, 3, rfl, rfl, upd_same, rfl, ?_⟩
      -- flow[5] = int(cell) % 2
      refine ⟨_, rfl, .inl ⟨_, rfl, _, _, rfl, rfl, (by show (0 : Int) < 2; decide), ?_⟩⟩
      refine ⟨_, rfl, f, _, 5, 5, rfl, rfl, upd_same, rfl, ?_⟩
      rw [upd_upd, upd_upd, upd_upd]
      have G : ∀ {c l o : Int}, FlowAt (L2.upd H f (.lst [.ref sc, .int (i + 1), .int c, .int l, .int m, .int o])) f sc ns (i + 1) c l m o := F.set (by have := F.p; omega)
      refine ⟨_, rfl, f, _, 5, _, rfl, rfl, SqL.of upd_same, rfl, rfl, _, rfl, ?_⟩
      refine ite2 (fun c2 => ?_) (fun c2 => ?_)
      · refine ⟨_, rfl, f, _, 2, _, rfl, rfl, SqL.of upd_same, rfl, .inl ⟨_, rfl, _, _, rfl, rfl, (by show (0 : Int) < 2147483629; decide), ?_⟩⟩
        refine ⟨_, rfl, f, _, 2, 2, rfl, rfl, upd_same, rfl, ?_⟩
        refine ⟨_, rfl, f, _, 3, 3, rfl, rfl, upd_same, rfl, ?_⟩
        rw [upd_upd, upd_upd]
        exact k _ ⟨sc, ns, _, _, _, _, _, G⟩ (But.upd (But.refl _ _))
      · exact k _ ⟨sc, ns, _, _, _, _, _, G⟩ (But.upd (But.refl _ _))
end
end K1
namespace K1
open PySem PySem.Spec PyProof.Rows L2 Er
section
variable {P : Program} {w : World} {K : PySem.W.Frag} {mg : Str → Option Value} {base : Heap} {fLoad fDraw : Addr}
theorem seq_join {t1 t2 : TS} {D : Ends} {σ : L2.St} {H : Hp} (P : L2.St → Hp → Prop) (h2 : ∀ σ' H', P σ' H' → t2 D σ' H') (h1 : ∀ N : L2.St → Hp → Prop, (∀ σ' H', P σ' H' → N σ' H') → t1 { D with nx := N } σ H) : tSeq t1 t2 D σ H := h1 (t2 D) h2
theorem max1 (m : Int) : (if m > 1 then m else 1) = max 1 m := by split <;> omega
theorem max_small {m a : Int} (h : m < 2 ^ 200) : CDivW a (if m > 1 then m else 1) := by
  have e : (if m > 1 then m else (1 : Int)).natAbs < 2 ^ 201 := by
    split
    · have h2 : m.natAbs = m.toNat := by omega
      have h3 : ((2 : Int) ^ 200).toNat ≤ 2 ^ 201 := by decide
      have h4 : m.toNat < ((2 : Int) ^ 200).toNat := by omega
      omega
    · decide
  exact wide_div (by split <;> omega) e (by decide) (by decide)
theorem modMax {a m : Int} : 0 ≤ a.fmod (if m > 1 then m else 1) ∧ (0 < m → a.fmod (if m > 1 then m else 1) < m) ∧ (m ≤ 0 → a.fmod (if m > 1 then m else 1) = 0) := by
  have hp : (0 : Int) < if m > 1 then m else 1 := by split <;> omega
  rw [Int.fmod_eq_emod_of_nonneg _ (by omega)]
  have h1 := Int.emod_nonneg a (b := if m > 1 then m else 1) (by omega)
  have h2 := Int.emod_lt_of_pos a hp
  refine ⟨h1, fun h => ?_, fun h => ?_⟩
  · split at h2
    · rename_i c
      rw [if_pos c]
      exact h2
    · rename_i c
      rw [if_neg c]
      rw [if_neg c] at h1
      omega
  · rw [if_neg (by omega)]
    omega
theorem ok_Draw {f : Addr} {fd fdLoad : FuncData} (F : Fun K "_law_draw" "_law_draw" sDraw f fd) (T : Txt mg fLoad fDraw) (FLoad : Fun K "_law_load" "_law_load" sLoad fLoad fdLoad) (bLoad : Binds K fdLoad ["flow"] []) :
    FnOk P w K mg base CX0 2 f fd ["flow", "many"] spDraw := by
  have GLoad : FnOk P w K mg base CX0 1 fLoad fdLoad ["flow"] spLoad := ok_Load FLoad T
  refine F.ok scDraw (fun vs H Q E h => ?_) (fun cdv A outer s H vs Q E hr h => ?_)
  · obtain ⟨f, m, rfl, _⟩ := h
    rfl
  · have hrLoad : Room 1 _ := hr
    have gLoad := T.gLoad
    refine ⟨_, (pss_cons (ps_if (pt_cmpR op_eq (pe_ix (r := rIxL K) ix_list (pv 0) pe_int (fun _ _ => rfl)) pe_int (nomark _)) (pss_one (ps_expr (pe_call GLoad hrLoad rfl gLoad FLoad.kp bLoad .nil pass0 (pa_cons (pv 0) pa_nil)))) pss_nil)
      (pss_cons (ps_asg (pe_op op_sub (pe_ix (r := rIxL K) ix_list (pv 0) pe_int (fun _ _ => rfl)) pe_int) (pg_sub (pv 0) pe_int set_list))
      (pss_cons (ps_if (pt_cmpR op_eq (pe_ix (r := rIxL K) ix_list (pv 0) pe_int (fun _ _ => rfl)) pe_int (nomark _)) (pss_cons (ps_asg (pe_op op_mod (pe_callTy call_int1 (by rfl) T.b.int (by decide +kernel) (pa_cons (pe_op op_add (pe_op op_add (pe_op op_mul (pe_ix (r := rIxL K) ix_list (pv 0) pe_int (fun _ _ => rfl)) pe_int) (pe_ix (r := rIxL K) ix_list (pv 0) pe_int (fun _ _ => rfl))) pe_int) pa_nil)) pe_int) (pg_sub (pv 0) pe_int set_list))
      (pss_one (ps_ret (pe_op op_modN (pe_callTy call_int1 (by rfl) T.b.int (by decide +kernel) (pa_cons (pe_op op_fdiv (pe_ix (r := rIxL K) ix_list (pv 0) pe_int (fun _ _ => rfl)) pe_int) pa_nil)) (pe_callB (call_max2 rfl) (by rfl) T.b.max (by decide +kernel) (pa_cons pe_int (pa_cons (pv 1) pa_nil))))))) pss_nil)
      (pss_cons (ps_set (i := 2) scDraw.nd rfl (Or.inl rfl) (pe_op op_modN (pe_callTy call_int1 (by rfl) T.b.int (by decide +kernel) (pa_cons (pe_ix (r := rIxL K) ix_list (pv 0) pe_int (fun _ _ => rfl)) pa_nil)) (pe_callB (call_max2 rfl) (by rfl) T.b.max (by decide +kernel) (pa_cons pe_int (pa_cons (pv 1) pa_nil)))))
      (pss_cons (ps_asg (pe_op op_fdivW (pe_ix (r := rIxL K) ix_list (pv 0) pe_int (fun _ _ => rfl)) (pe_callB (call_max2 rfl) (by rfl) T.b.max (by decide +kernel) (pa_cons pe_int (pa_cons (pv 1) pa_nil)))) (pg_sub (pv 0) pe_int set_list))
      (pss_cons (ps_if (pt_cmpR op_eq (pe_ix (r := rIxL K) ix_list (pv 0) pe_int (fun _ _ => rfl)) pe_int (nomark _)) (pss_one (ps_asg pe_int (pg_sub (pv 0) pe_int set_list))) pss_nil)
      (pss_one (ps_ret (pv 2))))))))), ?_⟩
    obtain ⟨f, many, rfl, hm, ⟨sc, ns, i, c, l, m, o, F⟩, k⟩ := h
    refine seq_join (fun σ' H' => σ' = start NDraw [.ref f, .int many] ∧ Flow H' f ∧ But f H H') ?_ ?_
    · rintro σ' H1 ⟨rfl, ⟨sc, ns, i, c, l, m, o, F⟩, B1⟩
      -- flow[3] = flow[3] - 1
      refine ⟨_, rfl, f, _, 3, _, rfl, rfl, SqL.of F.f, rfl, _, _, rfl, rfl, ?_⟩
      refine ⟨_, rfl, f, _, 3, 3, rfl, rfl, F.f, rfl, ?_⟩
      have G : ∀ {c l m o : Int}, FlowAt (L2.upd H1 f (.lst [.ref sc, .int i, .int c, .int l, .int m, .int o])) f sc ns i c l m o := F.set F.p
      refine ⟨_, rfl, f, _, 5, _, rfl, rfl, SqL.of upd_same, rfl, rfl, _, rfl, ?_⟩
      refine ite2 (fun c2 => ?_) (fun c2 => ?_)
      · refine ⟨_, rfl, f, _, 4, _, rfl, rfl, SqL.of upd_same, rfl, _, _, rfl, rfl, .inr ⟨by decide, by decide⟩, ?_⟩
        refine ⟨_, rfl, f, _, 2, _, rfl, rfl, SqL.of upd_same, rfl, _, _, rfl, rfl, _, _, rfl, rfl, .inl ⟨_, rfl, ?_⟩⟩
        refine ⟨_, _, rfl, rfl, (by show (0 : Int) < 2147483647; decide), ?_⟩
        refine ⟨_, rfl, f, _, 4, 4, rfl, rfl, upd_same, rfl, ?_⟩
        rw [upd_upd]
        refine ⟨_, rfl, f, _, 4, _, rfl, rfl, SqL.of upd_same, rfl, _, _, rfl, rfl, ⟨by decide, by decide⟩, .inl ⟨_, rfl, ?_⟩⟩
        refine ⟨_, rfl, _, _, rfl, ?_⟩
        have hp : (0 : Int) < if many > 1 then many else 1 := by split <;> omega
        refine ⟨_, _, rfl, rfl, by omega, ?_⟩
        obtain ⟨a1, a2, a3⟩ := modMax (m := many)
        exact k _ _ a1 a2 a3 ⟨sc, ns, _, _, _, _, _, G⟩ B1.upd
      · refine ⟨_, rfl, f, _, 2, _, rfl, rfl, SqL.of upd_same, rfl, .inl ⟨_, rfl, ?_⟩⟩
        refine ⟨_, rfl, _, _, rfl, ?_⟩
        have hp : (0 : Int) < if many > 1 then many else 1 := by split <;> omega
        refine ⟨_, _, rfl, rfl, by omega, ?_⟩
        obtain ⟨a1, a2, a3⟩ := modMax (a := c) (m := many)
        refine ⟨_, rfl, f, _, 2, _, rfl, rfl, SqL.of upd_same, rfl, _, rfl, _, _, rfl, ?_⟩
        refine ⟨_, _, rfl, rfl, max_small hm, ?_⟩
        refine ⟨_, rfl, f, _, 2, 2, rfl, rfl, upd_same, rfl, ?_⟩
        rw [upd_upd]
        refine ⟨_, rfl, f, _, 2, _, rfl, rfl, SqL.of upd_same, rfl, rfl, _, rfl, ?_⟩
        refine ite2 (fun c2 => ?_) (fun c2 => ?_)
        · refine ⟨_, rfl, f, _, 3, 3, rfl, rfl, upd_same, rfl, ?_⟩
          rw [upd_upd]
          exact ⟨_, rfl, k _ _ a1 a2 a3 ⟨sc, ns, _, _, _, _, _, G⟩ B1.upd⟩
        · exact ⟨_, rfl, k _ _ a1 a2 a3 ⟨sc, ns, _, _, _, _, _, G⟩ B1.upd⟩
    · intro N hN
      refine ⟨_, rfl, f, _, 3, _, rfl, rfl, SqL.of F.f, rfl, rfl, _, rfl, ?_⟩
      refine ite2 (fun c2 => ?_) (fun c2 => ?_)
      · refine ⟨_, rfl, f, rfl, ⟨sc, ns, i, c, l, m, o, F⟩, fun H1 F1 B1 => ?_⟩
        exact hN _ _ ⟨rfl, F1, B1⟩
      · exact hN _ _ ⟨rfl, ⟨sc, ns, i, c, l, m, o, F⟩, But.refl _ _⟩
end
end K1
namespace K1
open PySem PySem.Spec PyProof.Rows L2 Er
section
variable {P : Program} {w : World} {K : PySem.W.Frag} {mg : Str → Option Value} {base : Heap} {fLoad fDraw : Addr}
theorem map_get {ns : List Int} {i : Nat} {y : V} (h : (ns.map V.int)[i]? = some y) : ∃ z, ns[i]? = some z ∧ y = V.int z := by
  rw [List.getElem?_map] at h
  cases e : ns[i]? with
  | none =>
    rw [e] at h
    cases h
  | some z =>
    rw [e] at h
    exact ⟨z, rfl, (Option.some.inj h).symm⟩
theorem ok_Flow {f : Addr} {fd : FuncData} (F : Fun K "_law_flow" "_law_flow" sFlow f fd) (T : Txt mg fLoad fDraw) : FnOk P w K mg base CX0 1 f fd ["script"] (spFlow K) := by
  refine F.ok scFlow (fun vs H Q E h => ?_) (fun cdv A outer s H vs Q E hr h => ?_)
  · obtain ⟨f, _, rfl, _⟩ := h
    rfl
  · refine ⟨_, (pss_cons (ps_set (i := 1) scFlow.nd rfl (Or.inl rfl) pe_int)
      (pss_cons (ps_for PassesOwn.never rfl (pi_list (pv 0)) (pg_name (i := 2) scFlow.nd rfl (Or.inl rfl)) (pss_one (ps_set (i := 1) scFlow.nd rfl (Or.inl rfl) (pe_op op_mod (pe_callTy call_int1 (by rfl) T.b.int (by decide +kernel) (pa_cons (pe_op op_add (pe_op op_mul (pv 1) pe_int) (pe_callTy call_int1 (by rfl) T.b.int (by decide +kernel) (pa_cons (pv 2) pa_nil))) pa_nil)) pe_int))))
      (pss_one (ps_ret (pe_lst (pa_cons (pe_callTy call_list_of (by rfl) T.b.list (by decide +kernel) (pa_cons (pv 0) pa_nil)) (pa_cons pe_int (pa_cons pe_int (pa_cons pe_int (pa_cons (pv 1) (pa_cons pe_int pa_nil))))))))))), ?_⟩
    obtain ⟨a, ns, rfl, hS, k⟩ := h
    refine ⟨_, rfl, a, rfl, ⟨_, hS⟩, for_list (K := K) (a := a) (xs := ns.map V.int) (fun i σ H' => ∃ (m : Int) (v : Option V), σ = [some (.ref a), some (.int m), v] ∧ H' = H) ⟨1, none, rfl, rfl⟩ (fun i σ H' _ ⟨_, _, _, e⟩ => by rw [e]; exact hS) ?_ ?_⟩
    · rintro i y σ H' hi ⟨m, v, rfl, rfl⟩
      obtain ⟨z, _, rfl⟩ := map_get hi
      refine ⟨_, rfl, _, _, rfl, rfl, .inr ⟨by decide, by decide⟩, _, rfl, .inl ⟨_, rfl, _, _, rfl, rfl, .inl ⟨_, rfl, _, _, rfl, rfl, (by show (0 : Int) < 2147483647; decide), ?_⟩⟩⟩
      exact ⟨_, _, rfl, rfl⟩
    · rintro σ H' ⟨m, v, rfl, rfl⟩
      refine ⟨_, rfl, a, _, rfl, .inl hS, fun l hl => ?_⟩
      refine ⟨_, rfl, (by show 6 ≤ sizeLine; decide), fun p hp => ?_⟩
      have hlp : l ≠ p := ne_of_none upd_same hp
      have hpn : H' p = none := by
        have z := hp
        rw [upd_ne (Ne.symm hlp)] at z
        exact z
      refine k p _ ⟨l, ns, 0, 0, 0, m, 0, upd_same, ?_, Int.le_refl 0⟩ hpn ?_
      · rw [upd_ne hlp]
        exact upd_same
      · intro b o e
        rw [upd_ne (ne_of_none e hpn), upd_ne (ne_of_none e hl)]
        exact e
theorem ok_Pick {f : Addr} {fd fdLoad fdDraw : FuncData} (F : Fun K "_law_pick" "_law_pick" sPick f fd) (T : Txt mg fLoad fDraw) (FLoad : Fun K "_law_load" "_law_load" sLoad fLoad fdLoad) (bLoad : Binds K fdLoad ["flow"] [])
    (FDraw : Fun K "_law_draw" "_law_draw" sDraw fDraw fdDraw) (bDraw : Binds K fdDraw ["flow", "many"] []) : FnOk P w K mg base CX0 3 f fd ["flow", "things"] spPick := by
  have GDraw : FnOk P w K mg base CX0 2 fDraw fdDraw ["flow", "many"] spDraw := ok_Draw FDraw T FLoad bLoad
  refine F.ok scPick (fun vs H Q E h => ?_) (fun cdv A outer s H vs Q E hr h => ?_)
  · obtain ⟨f, t, _, rfl, _⟩ := h
    rfl
  · have hrDraw : Room 2 _ := hr
    have gDraw := T.gDraw
    refine ⟨_, (pss_one (ps_ret (pe_ix (r := rIxL K) ix_list (pv 1) (pe_call GDraw hrDraw rfl gDraw FDraw.kp bDraw .nil pass0 (pa_cons (pv 0) (pa_cons (pe_callB (r := rLenS K) call_len_seq (by rfl) T.b.len PySem.boot_len (pa_cons (pv 1) pa_nil)) pa_nil))) (fun _ _ => rfl)))), ?_⟩
    obtain ⟨f, t, xs, rfl, hne, hx, h0, h1, F, k⟩ := h
    have hl : 0 < xs.length := List.length_pos_iff.mpr h0
    refine ⟨_, rfl, _, rfl, _, rfl, t, _, rfl, .inl (SqL.of hx), ?_⟩
    refine ⟨f, xs.length, rfl, by have : ((2 : Int) ^ 200) > 1000 := by decide
                                  omega, F, fun r H' r0 r1 _ F' B => ?_⟩
    have hr2 : r.toNat < xs.length := by have := r1 (by omega); omega
    obtain ⟨x, hxr⟩ : ∃ x, xs[r.toNat]? = some x := ⟨_, List.getElem?_eq_getElem hr2⟩
    have hat : atI xs r = some x := at_of (j := r.toNat) (by omega) hxr
    exact ⟨t, _, _, _, rfl, rfl, SqL.of (B t _ (Ne.symm hne) hx), hat, k _ _ (List.mem_of_getElem? hxr) F' B⟩
end
end K1
namespace K1
open PySem PySem.Spec PyProof.Rows L2 Er
/-! ### data that are the same -/
/-- a tuple, tracked or of the written part -/
def TupAt (K : PySem.W.Frag) (H : Hp) (p : Addr) (xs : List V) : Prop :=
  H p = some (.tup xs) ∨ ∃ (o : Obj) (its : Array Value) (n : Nat), K.lookup p = some o ∧ o.cls = .type "tuple" ∧ o.data = .seq its n ∧ its.size ≤ sizeLine ∧ Vals xs its.toList
def SeqOf (K : PySem.W.Frag) (H : Hp) (tup : Bool) (p : Addr) (xs : List V) : Prop := match tup with
  | true => TupAt K H p xs
  | false => H p = some (.lst xs)
def flatD : V → Bool
  | .non => true
  | .bl _ => true
  | .int _ => true
  | .str _ => true
  | _ => false
/-- x and y are the same data, tuples and lists at most n within one another -/
def SameD (K : PySem.W.Frag) (H : Hp) : Nat → V → V → Prop
  | 0, x, y => x = y ∧ flatD x = true
  | n + 1, x, y => (x = y ∧ flatD x = true) ∨ ∃ t p q xs ys, x = .ref p ∧ y = .ref q ∧ SeqOf K H t p xs ∧ SeqOf K H t q ys ∧ xs.length = ys.length ∧ ys.length ≤ 1000 ∧ ∀ (i : Nat) u v, xs[i]? = some u → ys[i]? = some v → SameD K H n u v
section
variable {P : Program} {w : World} {K : PySem.W.Frag} {mg : Str → Option Value} {base : Heap} {fLoad fDraw : Addr} {H H' : Hp}
theorem TupAt.sq {p : Addr} {xs : List V} (h : TupAt K H p xs) : SqT K H p xs := by
  rcases h with h | h
  · exact .inl (.inl h)
  · exact .inr h
theorem TupAt.ty {p : Addr} {xs : List V} (h : TupAt K H p xs) : TyX K H (.ref p) (.type "tuple") := by
  rcases h with h | ⟨o, _, _, h, c, _⟩
  · exact .base (.tup h)
  · exact .kTuple h c
theorem TupAt.mono {p : Addr} {xs : List V} (s : Same H H') (h : TupAt K H p xs) : TupAt K H' p xs := h.imp (s _ _) id
theorem SeqOf.mono {t : Bool} {p : Addr} {xs : List V} (s : Same H H') (h : SeqOf K H t p xs) : SeqOf K H' t p xs := by
  cases t with
  | true => exact TupAt.mono s h
  | false => exact s _ _ h
theorem SeqOf.sq {t : Bool} {p : Addr} {xs : List V} (h : SeqOf K H t p xs) : SqL K H p xs ∨ SqT K H p xs := by
  cases t with
  | true => exact .inr (TupAt.sq h)
  | false => exact .inl (SqL.of h)
theorem SeqOf.ty {t : Bool} {p : Addr} {xs : List V} (h : SeqOf K H t p xs) : TyX K H (.ref p) (.type (if t then "tuple" else "list")) := by
  cases t with
  | true => exact TupAt.ty h
  | false => exact .base (.lst h)
theorem SameD.mono (s : Same H H') : ∀ {n : Nat} {x y : V}, SameD K H n x y → SameD K H' n x y
  | 0, _, _, h => h
  | n + 1, _, _, h => by
    rcases h with h | ⟨t, p, q, xs, ys, e1, e2, h1, h2, h3, h4, h5⟩
    · exact .inl h
    · exact .inr ⟨t, p, q, xs, ys, e1, e2, h1.mono s, h2.mono s, h3, h4, fun i u v a b => SameD.mono s (h5 i u v a b)⟩
theorem SqT_mono {p : Addr} {xs : List V} (s : Same H H') (h : SqT K H p xs) : SqT K H' p xs := by
  rcases h with (h | ⟨o, h⟩) | h
  · exact .inl (.inl (s _ _ h))
  · exact .inl (.inr ⟨o, s _ _ h⟩)
  · exact .inr h
theorem isi {x : V} {a c : String} {b : Bool} {Q : VK} (ty : TyX K H x (.type a)) (k : kitB a c = some b) (q : Q (.bl b) H) : rIsi K [x, .ty c] H Q := ⟨x, .ty c, _, _, b, rfl, .ty c, ty, kit_ty k, q⟩
theorem ixq {p : Addr} {xs : List V} {i : Int} {v : V} {Q : VK} (h : SqL K H p xs ∨ SqT K H p xs) (hi : atI xs i = some v) (q : Q v H) : rIx K (.ref p) (.int i) H Q := by
  rcases h with h | h
  · exact .inl ⟨p, xs, i, v, rfl, rfl, h, hi, q⟩
  · exact .inr (.inl ⟨p, xs, i, v, rfl, rfl, h, hi, q⟩)
abbrev sSame : Stmt := top 20
abbrev NSame : List Str := ["actual", "due", "k"]
theorem scSame : FnScope NSame ["actual", "due"] (defScope sSame) := ⟨rfl, rfl, rfl, by decide +kernel, rfl, by decide +kernel, by decide +kernel⟩
def spSame (K : PySem.W.Frag) : Nat → Sp
  | 0 => fun _ _ _ _ => False
  | n + 1 => fun vs H Q _ => ∃ x y, vs = [x, y] ∧ SameD K H n x y ∧ ∀ H', Same H H' → Q (.bl true) H'
/-- a comprehension without a test keeps its item -/
theorem lc_yes {te : TE} {σ : L2.St} {H : Hp} {R : V → Hp → Prop} {N : Hp → Prop} (h : te σ H R) : tYes σ H (fun b H3 => if b = true then te σ H3 R else N H3) := by
  show (if true = true then te σ H R else N H)
  exact iteT h
theorem flat_ty {x : V} (h : flatD x = true) : (x = .non ∧ TyX K H x (.type "NoneType")) ∨ (∃ b, x = .bl b ∧ TyX K H x (.type "bool")) ∨ (∃ i, x = .int i ∧ TyX K H x (.type "int")) ∨ (∃ s, x = .str s ∧ TyX K H x (.type "str")) := by
  cases x with
  | non => exact .inl ⟨rfl, .base .non⟩
  | bl b => exact .inr (.inl ⟨b, rfl, .base (.bl b)⟩)
  | int i => exact .inr (.inr (.inl ⟨i, rfl, .base (.int i)⟩))
  | str s => exact .inr (.inr (.inr ⟨s, rfl, .base (.str s)⟩))
  | _ => cases h
theorem all_rep (n : Nat) : (List.replicate n true).all id = true := by
  induction n with
  | zero => rfl
  | succ n ih => rw [List.replicate_succ, List.all_cons, ih]; rfl
theorem rep_snoc (n : Nat) : (List.replicate n true).map V.bl ++ [V.bl true] = (List.replicate (n + 1) true).map V.bl := by
  rw [List.replicate_succ', List.map_append]
  rfl
theorem ok_Same (n : Nat) {f : Addr} {fd : FuncData} (F : Fun K "_law_same" "_law_same" sSame f fd) (T : Txt mg fLoad fDraw) (gS : mg "_law_same" = some (.ref f)) (bS : Binds K fd ["actual", "due"] []) : FnOk P w K mg base CX0 n f fd ["actual", "due"] (spSame K n) := by
  induction n with
  | zero => exact ⟨fun _ _ _ _ h => h.elim, fun _ _ _ _ _ _ _ _ _ _ _ _ _ h => h.elim⟩
  | succ n ih =>
    refine F.ok scSame (fun vs H Q E h => ?_) (fun cdv A outer s H vs Q E hr h => ?_)
    · obtain ⟨x, y, rfl, _⟩ := h
      rfl
    · have hrSame : Room n _ := hr
      refine ⟨_, (pss_cons (ps_if (PW.pt (pw_or (pt_val (pe_callB (r := rIsi K) call_isi (by rfl) T.b.isinstance (by decide +kernel) (pa_cons (pv 1) (pa_cons (pe_bltn (v := .ty "tuple") (by rfl) T.b.tuple (by decide +kernel) rfl) pa_nil)))) (pw_or1 (pt_val (pe_callB (r := rIsi K) call_isi (by rfl) T.b.isinstance (by decide +kernel) (pa_cons (pv 1) (pa_cons (pe_bltn (v := .ty "list") (by rfl) T.b.list (by decide +kernel) rfl) pa_nil))))))) (pss_cons (ps_if (PW.pt (pw_or (pt_cmpR op_ne (pe_callB (r := rIsi K) call_isi (by rfl) T.b.isinstance (by decide +kernel) (pa_cons (pv 1) (pa_cons (pe_bltn (v := .ty "tuple") (by rfl) T.b.tuple (by decide +kernel) rfl) pa_nil))) (pe_callB (r := rIsi K) call_isi (by rfl) T.b.isinstance (by decide +kernel) (pa_cons (pv 0) (pa_cons (pe_bltn (v := .ty "tuple") (by rfl) T.b.tuple (by decide +kernel) rfl) pa_nil))) (nomark _)) (pw_or1 (pt_cmpR op_ne (pe_callB (r := rIsi K) call_isi (by rfl) T.b.isinstance (by decide +kernel) (pa_cons (pv 1) (pa_cons (pe_bltn (v := .ty "list") (by rfl) T.b.list (by decide +kernel) rfl) pa_nil))) (pe_callB (r := rIsi K) call_isi (by rfl) T.b.isinstance (by decide +kernel) (pa_cons (pv 0) (pa_cons (pe_bltn (v := .ty "list") (by rfl) T.b.list (by decide +kernel) rfl) pa_nil))) (nomark _))))) (pss_one (ps_ret pe_bl)) pss_nil)
      (pss_one (ps_ret (pe_and (pe_cmpR op_eq (pe_callB (r := rLenS K) call_len_seq (by rfl) T.b.len PySem.boot_len (pa_cons (pv 0) pa_nil)) (pe_callB (r := rLenS K) call_len_seq (by rfl) T.b.len PySem.boot_len (pa_cons (pv 1) pa_nil)) (nomark _)) (pe_one (pe_callB (r := rAll K) (cr_all rfl) (by rfl) T.b.all (by decide +kernel) (pa_cons (pe_lc (own := [("k", 2)]) (g := gName 2) (tt := tYes)  rfl scSame.nd (pi_range1 (by rfl) T.b.range (pa_cons (pe_callB (r := rLenS K) call_len_seq (by rfl) T.b.len PySem.boot_len (pa_cons (pv 1) pa_nil)) pa_nil)) (blkOk_by (own := [("k", 2)]) (N := NSame) (sc := defScope sSame) (by decide +kernel)) (fun _ _ _ _ _ => (pg_name (i := 2) scSame.nd rfl (Or.inl rfl))) (fun _ _ _ _ _ => pts_nil) (fun _ _ _ _ _ => (pe_call ih hrSame rfl gS F.kp bS .nil pass0 (pa_cons (pe_ix (r := rIx K) ix_seq (pv 0) (pv 2) (fun _ _ => rfl)) (pa_cons (pe_ix (r := rIx K) ix_seq (pv 1) (pv 2) (fun _ _ => rfl)) pa_nil))))) pa_nil))))))) pss_nil)
      (pss_cons (ps_if (pt_cmpR op_isN (pv 1) pe_non (nomark _)) (pss_one (ps_ret (pe_cmpR op_isN (pv 0) pe_non (nomark _)))) pss_nil)
      (pss_cons (ps_if (pt_val (pe_callB (r := rIsi K) call_isi (by rfl) T.b.isinstance (by decide +kernel) (pa_cons (pv 1) (pa_cons (pe_bltn (v := .ty "str") (by rfl) T.b.str (by decide +kernel) rfl) pa_nil)))) (pss_one (ps_ret (pe_and (pe_callB (r := rIsi K) call_isi (by rfl) T.b.isinstance (by decide +kernel) (pa_cons (pv 0) (pa_cons (pe_bltn (v := .ty "str") (by rfl) T.b.str (by decide +kernel) rfl) pa_nil))) (pe_one (pe_cmpR op_eq (pv 0) (pv 1) (nomark _)))))) pss_nil)
      (pss_cons (ps_if (pt_val (pe_callB (r := rIsi K) call_isi (by rfl) T.b.isinstance (by decide +kernel) (pa_cons (pv 1) (pa_cons (pe_bltn (v := .ty "bool") (by rfl) T.b.bool (by decide +kernel) rfl) pa_nil)))) (pss_one (ps_ret (pe_and (pe_callB (r := rIsi K) call_isi (by rfl) T.b.isinstance (by decide +kernel) (pa_cons (pv 0) (pa_cons (pe_bltn (v := .ty "bool") (by rfl) T.b.bool (by decide +kernel) rfl) pa_nil))) (pe_one (pe_cmpR op_eq (pv 0) (pv 1) (nomark _)))))) pss_nil)
      (pss_one (ps_ret (pe_and (pe_callB (r := rIsi K) call_isi (by rfl) T.b.isinstance (by decide +kernel) (pa_cons (pv 0) (pa_cons (pe_bltn (v := .ty "int") (by rfl) T.b.int (by decide +kernel) rfl) pa_nil))) (pe_and (pe_not (pe_callB (r := rIsi K) call_isi (by rfl) T.b.isinstance (by decide +kernel) (pa_cons (pv 0) (pa_cons (pe_bltn (v := .ty "bool") (by rfl) T.b.bool (by decide +kernel) rfl) pa_nil)))) (pe_one (pe_cmpR op_eq (pv 0) (pv 1) (nomark _))))))))))), ?_⟩
      obtain ⟨x, y, rfl, hs, k⟩ := h
      have hs2 : (x = y ∧ flatD x = true) ∨ ∃ m t p q xs ys, n = m + 1 ∧ x = .ref p ∧ y = .ref q ∧ SeqOf K H t p xs ∧ SeqOf K H t q ys ∧ xs.length = ys.length ∧ ys.length ≤ 1000 ∧ ∀ (i : Nat) u v, xs[i]? = some u → ys[i]? = some v → SameD K H m u v := by
        cases n with
        | zero => exact .inl hs
        | succ m =>
          rcases hs with h | ⟨t, p, q, xs, ys, h⟩
          · exact .inl h
          · exact .inr ⟨m, t, p, q, xs, ys, rfl, h⟩
      rcases hs2 with ⟨rfl, hf⟩ | ⟨m, t, p, q, xs, ys, rfl, rfl, rfl, hp, hq, hl, hb, hi⟩
      · rcases flat_ty (K := K) (H := H) hf with ⟨rfl, ty⟩ | ⟨b, rfl, ty⟩ | ⟨z, rfl, ty⟩ | ⟨z, rfl, ty⟩
        all_goals
          refine ⟨_, rfl, _, _, _, _, false, rfl, .ty _, ty, kit_ty (by decide +kernel), _, rfl, iteF ?_⟩
          refine ⟨_, rfl, _, _, _, _, false, rfl, .ty _, ty, kit_ty (by decide +kernel), _, rfl, iteF ?_⟩
          refine ⟨_, rfl, rfl, _, rfl, ?_⟩
        · refine ite2 (fun _ => ?_) (fun c => (c (decide_eq_true rfl)).elim)
          refine ⟨_, rfl, rfl, ?_⟩
          rw [decide_eq_true rfl]
          exact k H (Same.refl H)
        all_goals refine ite2 (fun c => by cases of_decide_eq_true c) (fun _ => ?_)
        · refine ⟨_, rfl, _, _, _, _, false, rfl, .ty _, ty, kit_ty (by decide +kernel), _, rfl, iteF ?_⟩
          refine ⟨_, rfl, _, _, _, _, true, rfl, .ty _, ty, kit_ty (by decide +kernel), _, rfl, iteT ?_⟩
          refine ⟨_, rfl, _, _, _, _, true, rfl, .ty _, ty, kit_ty (by decide +kernel), _, rfl, iteT ?_⟩
          refine ⟨_, rfl, _, rfl, rfl, ?_⟩
          rw [decide_eq_true rfl]
          exact k H (Same.refl H)
        · refine ⟨_, rfl, _, _, _, _, false, rfl, .ty _, ty, kit_ty (by decide +kernel), _, rfl, iteF ?_⟩
          refine ⟨_, rfl, _, _, _, _, false, rfl, .ty _, ty, kit_ty (by decide +kernel), _, rfl, iteF ?_⟩
          refine ⟨_, rfl, _, _, _, _, true, rfl, .ty _, ty, kit_ty (by decide +kernel), _, rfl, iteT ?_⟩
          refine ⟨_, rfl, _, _, _, _, false, rfl, .ty _, ty, kit_ty (by decide +kernel), _, rfl, _, rfl, iteT ?_⟩
          refine ⟨_, rfl, _, rfl, rfl, ?_⟩
          rw [decide_eq_true rfl]
          exact k H (Same.refl H)
        · refine ⟨_, rfl, _, _, _, _, true, rfl, .ty _, ty, kit_ty (by decide +kernel), _, rfl, iteT ?_⟩
          refine ⟨_, rfl, _, _, _, _, true, rfl, .ty _, ty, kit_ty (by decide +kernel), _, rfl, iteT ?_⟩
          refine ⟨_, rfl, _, rfl, rfl, ?_⟩
          rw [decide_eq_true rfl]
          exact k H (Same.refl H)
      · have tp := hp.ty
        have tq := hq.ty
        cases t with
        | true =>
          have sp : SqT K H p xs := TupAt.sq hp
          have sq : SqT K H q ys := TupAt.sq hq
          refine ⟨_, rfl, _, _, _, _, true, rfl, .ty _, tq, kit_ty (by decide +kernel), _, rfl, iteT (iteT ?_)⟩
          refine ⟨_, rfl, _, _, _, _, true, rfl, .ty _, tq, kit_ty (by decide +kernel), _, rfl, _, _, _, _, true, rfl, .ty _, tp, kit_ty (by decide +kernel), rfl, _, rfl, iteF ?_⟩
          refine ⟨_, rfl, _, _, _, _, false, rfl, .ty _, tq, kit_ty (by decide +kernel), _, rfl, _, _, _, _, false, rfl, .ty _, tp, kit_ty (by decide +kernel), rfl, _, rfl, iteF ?_⟩
          refine ⟨_, rfl, p, xs, rfl, .inr sp, _, rfl, q, ys, rfl, .inr sq, rfl, _, rfl, ?_⟩
          refine ite2 (fun _ => ?_) (fun c => (c (decide_eq_true (by rw [hl]))).elim)
          refine ⟨_, rfl, q, ys, rfl, .inr sq, _, rfl, by omega, by omega, fun D hD => ?_⟩
          refine lc_range (lo := 0) (n := ((ys.length : Nat) : Int).toNat) (fun i H' => H' D = some (.lst ((List.replicate i true).map V.bl)) ∧ Same H H') ⟨upd_same, fun b o e => by rw [upd_ne (ne_of_none e hD)]; exact e⟩ ?_ ?_
          · rintro i H1 hlt ⟨e1, s1⟩
            have hlt2 : i < ys.length := by omega
            obtain ⟨u, hu⟩ : ∃ u, xs[i]? = some u := ⟨_, List.getElem?_eq_getElem (by omega)⟩
            obtain ⟨v, hv⟩ : ∃ v, ys[i]? = some v := ⟨_, List.getElem?_eq_getElem hlt2⟩
            refine ⟨rfl, lc_yes ?_⟩
            refine ⟨_, rfl, _, rfl, (Or.inr (Or.inl ⟨p, xs, _, _, rfl, rfl, SqT_mono s1 sp, at_of (j := i) (by omega) hu, ?_⟩))⟩
            refine ⟨_, rfl, _, rfl, (Or.inr (Or.inl ⟨q, ys, _, _, rfl, rfl, SqT_mono s1 sq, at_of (j := i) (by omega) hv, ?_⟩))⟩
            refine ⟨u, v, rfl, (hi i u v hu hv).mono s1, fun H2 s2 => ?_⟩
            refine ⟨_, s2 _ _ e1, ?_, ?_, ?_⟩
            · rw [List.length_map, List.length_replicate]
              exact small1000 (by omega)
            · rw [rep_snoc]
              exact upd_same
            · intro b o e
              have z := s2 _ _ (s1 _ _ e)
              have hbD : b ≠ D := ne_of_none e hD
              rw [upd_ne hbD]
              exact z
          · rintro H1 ⟨e1, s1⟩
            refine ⟨D, _, rfl, SqL.of e1, ?_⟩
            rw [all_rep]
            exact k H1 s1
        | false =>
          have sp : SqL K H p xs := SqL.of hp
          have sq : SqL K H q ys := SqL.of hq
          refine ⟨_, rfl, _, _, _, _, false, rfl, .ty _, tq, kit_ty (by decide +kernel), _, rfl, iteF ?_⟩
          refine ⟨_, rfl, _, _, _, _, true, rfl, .ty _, tq, kit_ty (by decide +kernel), _, rfl, iteT ?_⟩
          refine ⟨_, rfl, _, _, _, _, false, rfl, .ty _, tq, kit_ty (by decide +kernel), _, rfl, _, _, _, _, false, rfl, .ty _, tp, kit_ty (by decide +kernel), rfl, _, rfl, iteF ?_⟩
          refine ⟨_, rfl, _, _, _, _, true, rfl, .ty _, tq, kit_ty (by decide +kernel), _, rfl, _, _, _, _, true, rfl, .ty _, tp, kit_ty (by decide +kernel), rfl, _, rfl, iteF ?_⟩
          refine ⟨_, rfl, p, xs, rfl, .inl sp, _, rfl, q, ys, rfl, .inl sq, rfl, _, rfl, ?_⟩
          refine ite2 (fun _ => ?_) (fun c => (c (decide_eq_true (by rw [hl]))).elim)
          refine ⟨_, rfl, q, ys, rfl, .inl sq, _, rfl, by omega, by omega, fun D hD => ?_⟩
          refine lc_range (lo := 0) (n := ((ys.length : Nat) : Int).toNat) (fun i H' => H' D = some (.lst ((List.replicate i true).map V.bl)) ∧ Same H H') ⟨upd_same, fun b o e => by rw [upd_ne (ne_of_none e hD)]; exact e⟩ ?_ ?_
          · rintro i H1 hlt ⟨e1, s1⟩
            have hlt2 : i < ys.length := by omega
            obtain ⟨u, hu⟩ : ∃ u, xs[i]? = some u := ⟨_, List.getElem?_eq_getElem (by omega)⟩
            obtain ⟨v, hv⟩ : ∃ v, ys[i]? = some v := ⟨_, List.getElem?_eq_getElem hlt2⟩
            refine ⟨rfl, lc_yes ?_⟩
            refine ⟨_, rfl, _, rfl, (Or.inl ⟨p, xs, _, _, rfl, rfl, s1.seq sp, at_of (j := i) (by omega) hu, ?_⟩)⟩
            refine ⟨_, rfl, _, rfl, (Or.inl ⟨q, ys, _, _, rfl, rfl, s1.seq sq, at_of (j := i) (by omega) hv, ?_⟩)⟩
            refine ⟨u, v, rfl, (hi i u v hu hv).mono s1, fun H2 s2 => ?_⟩
            refine ⟨_, s2 _ _ e1, ?_, ?_, ?_⟩
            · rw [List.length_map, List.length_replicate]
              exact small1000 (by omega)
            · rw [rep_snoc]
              exact upd_same
            · intro b o e
              have z := s2 _ _ (s1 _ _ e)
              have hbD : b ≠ D := ne_of_none e hD
              rw [upd_ne hbD]
              exact z
          · rintro H1 ⟨e1, s1⟩
            refine ⟨D, _, rfl, SqL.of e1, ?_⟩
            rw [all_rep]
            exact k H1 s1
end
end K1
namespace K1
open PySem PySem.Spec PyProof.Rows L2 Er
abbrev sGiven : Stmt := top 25
abbrev NGiven : List Str := ["flow", "kind", "number", "things"]
theorem scGiven : FnScope NGiven ["flow", "kind"] (defScope sGiven) := ⟨rfl, rfl, rfl, by decide +kernel, rfl, by decide +kernel, by decide +kernel⟩
/-- the heap without what stands at f -/
def hid (f : Addr) (H : Hp) : Hp := fun b => if b = f then none else H b
theorem hid_ne {f b : Addr} {H : Hp} (h : b ≠ f) : hid f H b = H b := if_neg h
theorem hid_same {f : Addr} {H H' : Hp} (B : But f H H') : Same (hid f H) (hid f H') := fun b o e => by
  by_cases h : b = f
  · unfold hid at e
    rw [if_pos h] at e
    cases e
  · rw [hid_ne h] at e ⊢
    exact B b o h e
theorem hid_sub {f : Addr} {H : Hp} : Same (hid f H) H := fun b o e => by
  by_cases h : b = f
  · unfold hid at e
    rw [if_pos h] at e
    cases e
  · rw [hid_ne h] at e
    exact e
section
variable {H : Hp} {f p : Addr} {o : HO}
theorem Flow.ne (F : Flow H f) (hp : H p = none) : p ≠ f := by
  obtain ⟨_, _, _, _, _, _, _, F⟩ := F
  exact Ne.symm (ne_of_none F.f hp)
theorem Flow.new (F : Flow H f) (hp : H p = none) : Flow (L2.upd H p o) f := by
  obtain ⟨sc, ns, i, c, l, m, d, F⟩ := F
  exact ⟨sc, ns, i, c, l, m, d, by rw [upd_ne (ne_of_none F.f hp)]; exact F.f, by rw [upd_ne (ne_of_none F.s hp)]; exact F.s, F.p⟩
/-- a new object beside the flow -/
structure New (H : Hp) (f p : Addr) (o : HO) : Prop where
  at_ : hid f (L2.upd H p o) p = some o
  sm : Same (hid f H) (hid f (L2.upd H p o))
  fl : Flow (L2.upd H p o) f
  bt : But f H (L2.upd H p o)
theorem Flow.alloc (F : Flow H f) (hp : H p = none) (o : HO) : New H f p o :=
  ⟨by rw [hid_ne (F.ne hp)]; exact upd_same, hid_same (But.new (But.refl _ _) hp), F.new hp, But.new (But.refl _ _) hp⟩
end
abbrev IsD (K : PySem.W.Frag) (H : Hp) (n : Nat) (x : V) : Prop := SameD K H n x x
section
variable {P : Program} {w : World} {K : PySem.W.Frag} {mg : Str → Option Value} {base : Heap} {fLoad fDraw fPick : Addr} {H H' : Hp}
theorem isD_flat {n : Nat} {x : V} (h : flatD x = true) : IsD K H n x := by
  cases n with
  | zero => exact ⟨rfl, h⟩
  | succ n => exact .inl ⟨rfl, h⟩
theorem sameD_up : ∀ {n : Nat} {x y : V}, SameD K H n x y → SameD K H (n + 1) x y
  | 0, _, _, h => .inl h
  | n + 1, _, _, h => by
    rcases h with h | ⟨t, p, q, xs, ys, e1, e2, h1, h2, h3, h4, h5⟩
    · exact .inl h
    · exact .inr ⟨t, p, q, xs, ys, e1, e2, h1, h2, h3, h4, fun i u v a b => sameD_up (h5 i u v a b)⟩
theorem isD_tup {n : Nat} {p : Addr} {xs : List V} (h : H p = some (.tup xs)) (hl : xs.length ≤ 1000) (hx : ∀ x ∈ xs, IsD K H n x) : IsD K H (n + 1) (.ref p) :=
  .inr ⟨true, p, p, xs, xs, rfl, rfl, .inl h, .inl h, rfl, hl, fun i u v a b => by
    rw [a] at b
    cases b
    exact hx _ (List.mem_of_getElem? a)⟩
theorem isD_lst {n : Nat} {p : Addr} {xs : List V} (h : H p = some (.lst xs)) (hl : xs.length ≤ 1000) (hx : ∀ x ∈ xs, IsD K H n x) : IsD K H (n + 1) (.ref p) :=
  .inr ⟨false, p, p, xs, xs, rfl, rfl, h, h, rfl, hl, fun i u v a b => by
    rw [a] at b
    cases b
    exact hx _ (List.mem_of_getElem? a)⟩
theorem all_nil {R : V → Prop} : ∀ x ∈ ([] : List V), R x := fun _ h => by cases h
theorem all_cons {R : V → Prop} {a : V} {l : List V} (h : R a) (r : ∀ x ∈ l, R x) : ∀ x ∈ a :: l, R x := fun x hx => by
  rcases List.mem_cons.mp hx with e | hx
  · rw [e]
    exact h
  · exact r x hx
def spGiven (K : PySem.W.Frag) : Sp := fun vs H Q _ => ∃ f kind, vs = [.ref f, .int kind] ∧ Flow H f ∧ ∀ x H', IsD K (hid f H') 2 x → Flow H' f → But f H H' → Q x H'
theorem ok_Given {f : Addr} {fd fdLoad fdDraw fdPick : FuncData} (F : Fun K "_law_given" "_law_given" sGiven f fd) (T : Txt mg fLoad fDraw) (gPick : mg "_law_pick" = some (.ref fPick)) (FLoad : Fun K "_law_load" "_law_load" sLoad fLoad fdLoad) (bLoad : Binds K fdLoad ["flow"] [])
    (FDraw : Fun K "_law_draw" "_law_draw" sDraw fDraw fdDraw) (bDraw : Binds K fdDraw ["flow", "many"] []) (FPick : Fun K "_law_pick" "_law_pick" sPick fPick fdPick) (bPick : Binds K fdPick ["flow", "things"] []) :
    FnOk P w K mg base CX0 4 f fd ["flow", "kind"] (spGiven K) := by
  have GDraw : FnOk P w K mg base CX0 2 fDraw fdDraw ["flow", "many"] spDraw := ok_Draw FDraw T FLoad bLoad
  have GPick : FnOk P w K mg base CX0 3 fPick fdPick ["flow", "things"] spPick := ok_Pick FPick T FLoad bLoad FDraw bDraw
  refine F.ok scGiven (fun vs H Q E h => ?_) (fun cdv A outer s H vs Q E hr h => ?_)
  · obtain ⟨f, k, rfl, _⟩ := h
    rfl
  · have hrDraw : Room 2 _ := hr.mono (by decide)
    have hrPick : Room 3 _ := hr
    have gDraw := T.gDraw
    refine ⟨_, (pss_cons (ps_set (i := 2) scGiven.nd rfl (Or.inl rfl) (pe_call GPick hrPick rfl gPick FPick.kp bPick .nil pass0 (pa_cons (pv 0) (pa_cons (pe_lst (pa_cons pe_int (pa_cons pe_int (pa_cons (pe_un un_neg pe_int) (pa_cons (pe_call GDraw hrDraw rfl gDraw FDraw.kp bDraw .nil pass0 (pa_cons (pv 0) (pa_cons pe_int pa_nil))) (pa_cons (pe_call GDraw hrDraw rfl gDraw FDraw.kp bDraw .nil pass0 (pa_cons (pv 0) (pa_cons (pe_op op_pow pe_int pe_int) pa_nil))) (pa_cons (pe_op op_sub pe_int (pe_call GDraw hrDraw rfl gDraw FDraw.kp bDraw .nil pass0 (pa_cons (pv 0) (pa_cons (pe_op op_pow pe_int pe_int) pa_nil)))) pa_nil))))))) pa_nil))))
      (pss_cons (ps_if (pt_cmpR op_lt (pv 1) pe_int (nomark _)) (pss_cons (ps_set (i := 3) scGiven.nd rfl (Or.inl rfl) (pe_lst (pa_cons (pv 2) (pa_cons pe_non (pa_cons pe_str (pa_cons pe_str (pa_cons (pe_tup pa_nil) (pa_cons (pe_tup (pa_cons (pv 2) (pa_cons pe_str pa_nil))) (pa_cons (pe_lst (pa_cons (pv 2) pa_nil)) (pa_cons (pe_lst pa_nil) (pa_cons (pe_lst (pa_cons pe_str (pa_cons (pe_tup (pa_cons pe_non pa_nil)) pa_nil))) (pa_cons pe_bl (pa_cons pe_bl pa_nil)))))))))))))
      (pss_one (ps_ret (pe_call GPick hrPick rfl gPick FPick.kp bPick .nil pass0 (pa_cons (pv 0) (pa_cons (pv 3) pa_nil)))))) pss_nil)
      (pss_cons (ps_if (pt_cmpR op_eq (pv 1) pe_int (nomark _)) (pss_one (ps_ret (pe_call GPick hrPick rfl gPick FPick.kp bPick .nil pass0 (pa_cons (pv 0) (pa_cons (pe_lst (pa_cons (pe_tup (pa_cons pe_str (pa_cons (pe_tup pa_nil) pa_nil))) (pa_cons (pe_tup (pa_cons pe_str (pa_cons (pe_tup pa_nil) (pa_cons (pv 2) pa_nil)))) (pa_cons (pe_tup pa_nil) pa_nil)))) pa_nil))))) pss_nil)
      (pss_one (ps_ret (pe_call GPick hrPick rfl gPick FPick.kp bPick .nil pass0 (pa_cons (pv 0) (pa_cons (pe_lst (pa_cons pe_str (pa_cons pe_str (pa_cons pe_str (pa_cons pe_str (pa_cons pe_str (pa_cons pe_str (pa_cons pe_str pa_nil)))))))) pa_nil)))))))), ?_⟩
    obtain ⟨f, kind, rfl, F0, k⟩ := h
    -- number
    refine ⟨_, rfl, _, rfl, ?_⟩
    refine ⟨_, rfl, f, _, rfl, by decide, F0, fun r1 H1 _ _ _ F1 B1 => ?_⟩
    refine ⟨_, rfl, _, _, rfl, rfl, ⟨by decide, by decide, by decide⟩, f, _, rfl, by decide, F1, fun r2 H2 _ _ _ F2 B2 => ?_⟩
    refine ⟨_, rfl, _, _, rfl, rfl, ⟨by decide, by decide, by decide⟩, f, _, rfl, by decide, F2, fun r3 H3 _ _ _ F3 B3 => ?_⟩
    refine ⟨_, _, rfl, rfl, (by show 6 ≤ sizeLine; decide), fun p hp => ?_⟩
    have A1 := F3.alloc hp (.lst [.int 0, .int 1, .int (-1), .int r1, .int r2, .int (0 - r3)])
    refine ⟨f, p, _, rfl, Ne.symm (F3.ne hp), upd_same, (by simp), by simp, A1.fl, fun x H4 hx F4 B4 => ?_⟩
    have hn : flatD x = true := by
      simp only [List.mem_cons, List.not_mem_nil, or_false] at hx
      rcases hx with rfl | rfl | rfl | rfl | rfl | rfl <;> rfl
    have B04 : But f H H4 := ((B1.trans B2).trans B3).trans (A1.bt.trans B4)
    -- if kind < 8
    refine ⟨_, rfl, _, _, rfl, rfl, _, rfl, ?_⟩
    refine ite2 (fun c1 => ?_) (fun c1 => ?_)
    · refine ⟨_, rfl, ?_⟩
      refine ⟨(by show 0 ≤ sizeLine; decide), fun t1 n1 => ?_⟩
      have C1 := F4.alloc n1 (.tup [])
      refine ⟨_, rfl, (by show 2 ≤ sizeLine; decide), fun t2 n2 => ?_⟩
      have C2 := C1.fl.alloc n2 (.tup [x, .str "On rain"])
      refine ⟨_, rfl, (by show 1 ≤ sizeLine; decide), fun t3 n3 => ?_⟩
      have C3 := C2.fl.alloc n3 (.lst [x])
      refine ⟨(by show 0 ≤ sizeLine; decide), fun t4 n4 => ?_⟩
      have C4 := C3.fl.alloc n4 (.lst [])
      refine ⟨(by show 1 ≤ sizeLine; decide), fun t5 n5 => ?_⟩
      have C5 := C4.fl.alloc n5 (.tup [.non])
      refine ⟨(by show 2 ≤ sizeLine; decide), fun t6 n6 => ?_⟩
      have C6 := C5.fl.alloc n6 (.lst [.str "Elm", .ref t5])
      refine ⟨(by show 11 ≤ sizeLine; decide), fun p2 hp2 => ?_⟩
      have C7 := C6.fl.alloc hp2 (.lst [x, .non, .str "Ash", .str "", .ref t1, .ref t2, .ref t3, .ref t4, .ref t6, .bl true, .bl false])
      refine ⟨_, rfl, _, rfl, f, p2, _, rfl, Ne.symm (C6.fl.ne hp2), upd_same, (by simp), by simp, C7.fl, fun y H5 hy F5 B5 => ?_⟩
      have S7 := (hid_same B5 : Same (hid f _) (hid f H5))
      have S6 := C7.sm.trans S7
      have S5 := C6.sm.trans S6
      have S4 := C5.sm.trans S5
      have S3 := C4.sm.trans S4
      have S2 := C3.sm.trans S3
      have S1 := C2.sm.trans S2
      have dx : ∀ n, IsD K (hid f H5) n x := fun n => isD_flat hn
      refine k y H5 ?_ F5 (B04.trans (C1.bt.trans (C2.bt.trans (C3.bt.trans (C4.bt.trans (C5.bt.trans (C6.bt.trans (C7.bt.trans B5))))))))
      have all : ∀ y ∈ [x, .non, .str "Ash", .str "", .ref t1, .ref t2, .ref t3, .ref t4, .ref t6, .bl true, .bl false], IsD K (hid f H5) 2 y := by
        refine all_cons (dx 2) (all_cons (isD_flat rfl) (all_cons (isD_flat rfl) (all_cons (isD_flat rfl) (all_cons ?_ (all_cons ?_ (all_cons ?_ (all_cons ?_ (all_cons ?_ (all_cons (isD_flat rfl) (all_cons (isD_flat rfl) all_nil))))))))))
        · exact isD_tup (S1 _ _ C1.at_) (by simp) all_nil
        · exact isD_tup (S2 _ _ C2.at_) (by simp) (all_cons (dx 1) (all_cons (isD_flat rfl) all_nil))
        · exact isD_lst (S3 _ _ C3.at_) (by simp) (all_cons (dx 1) all_nil)
        · exact isD_lst (S4 _ _ C4.at_) (by simp) all_nil
        · exact isD_lst (S6 _ _ C6.at_) (by simp) (all_cons (isD_flat rfl) (all_cons (isD_tup (S5 _ _ C5.at_) (by simp) (all_cons (isD_flat rfl) all_nil)) all_nil))
      exact all y hy
    · refine ⟨_, rfl, rfl, _, rfl, ?_⟩
      refine ite2 (fun c2 => ?_) (fun c2 => ?_)
      · -- claims
        refine ⟨_, rfl, ?_⟩
        refine ⟨(by show 0 ≤ sizeLine; decide), fun t1 n1 => ?_⟩
        have C1 := F4.alloc n1 (.tup [])
        refine ⟨(by show 2 ≤ sizeLine; decide), fun t2 n2 => ?_⟩
        have C2 := C1.fl.alloc n2 (.tup [.str "apart", .ref t1])
        refine ⟨(by show 0 ≤ sizeLine; decide), fun t3 n3 => ?_⟩
        have C3 := C2.fl.alloc n3 (.tup [])
        refine ⟨_, rfl, (by show 3 ≤ sizeLine; decide), fun t4 n4 => ?_⟩
        have C4 := C3.fl.alloc n4 (.tup [.str "shortest", .ref t3, x])
        refine ⟨(by show 0 ≤ sizeLine; decide), fun t5 n5 => ?_⟩
        have C5 := C4.fl.alloc n5 (.tup [])
        refine ⟨(by show 3 ≤ sizeLine; decide), fun p2 hp2 => ?_⟩
        have C6 := C5.fl.alloc hp2 (.lst [.ref t2, .ref t4, .ref t5])
        refine ⟨f, p2, _, rfl, Ne.symm (C5.fl.ne hp2), upd_same, (by simp), by simp, C6.fl, fun y H5 hy F5 B5 => ?_⟩
        have S6 := (hid_same B5 : Same (hid f _) (hid f H5))
        have S5 := C6.sm.trans S6
        have S4 := C5.sm.trans S5
        have S3 := C4.sm.trans S4
        have S2 := C3.sm.trans S3
        have S1 := C2.sm.trans S2
        refine k y H5 ?_ F5 (B04.trans (C1.bt.trans (C2.bt.trans (C3.bt.trans (C4.bt.trans (C5.bt.trans (C6.bt.trans B5)))))))
        have all : ∀ y ∈ [V.ref t2, .ref t4, .ref t5], IsD K (hid f H5) 2 y := by
          refine all_cons ?_ (all_cons ?_ (all_cons ?_ all_nil))
          · exact isD_tup (S2 _ _ C2.at_) (by simp) (all_cons (isD_flat rfl) (all_cons (isD_tup (S1 _ _ C1.at_) (by simp) all_nil) all_nil))
          · exact isD_tup (S4 _ _ C4.at_) (by simp) (all_cons (isD_flat rfl) (all_cons (isD_tup (S3 _ _ C3.at_) (by simp) all_nil) (all_cons (isD_flat hn) all_nil)))
          · exact isD_tup (S5 _ _ C5.at_) (by simp) all_nil
        exact all y hy
      · -- words
        refine ⟨_, rfl, ?_⟩
        refine ⟨(by show 7 ≤ sizeLine; decide), fun p2 hp2 => ?_⟩
        have C6 := F4.alloc hp2 (.lst [.str "undo", .str "redo", .str "label", .str "hidden", .str "", .str "a line", .str "["])
        refine ⟨f, p2, _, rfl, Ne.symm (F4.ne hp2), upd_same, (by simp), by simp, C6.fl, fun y H5 hy F5 B5 => ?_⟩
        refine k y H5 (isD_flat ?_) F5 (B04.trans (C6.bt.trans B5))
        simp only [List.mem_cons, List.not_mem_nil, or_false] at hy
        rcases hy with rfl | rfl | rfl | rfl | rfl | rfl | rfl <;> rfl
end
end K1
namespace K1
open PySem PySem.Spec PyProof.Rows L2 Er
abbrev sRaise : Stmt := top 21
abbrev NRaise : List Str := ["kind", "given", "at"]
theorem scRaise : FnScope NRaise ["kind", "given", "at"] (defScope sRaise) := ⟨rfl, rfl, rfl, by decide +kernel, rfl, by decide +kernel, by decide +kernel⟩
abbrev sRaiseMore : Stmt := top 22
abbrev NRaiseMore : List Str := ["kind", "given", "at"]
theorem scRaiseMore : FnScope NRaiseMore ["kind", "given", "at"] (defScope sRaiseMore) := ⟨rfl, rfl, rfl, by decide +kernel, rfl, by decide +kernel, by decide +kernel⟩
/-- what an error keeps -/
def one (f : Str) : List V → Option (List (Str × V)) := fun vs => match vs with
  | [v] => some [(f, v)]
  | _ => none
def two (f g : Str) : List V → Option (List (Str × V)) := fun vs => match vs with
  | [v, u] => some [(g, u), (f, v)]
  | _ => none
def flds (k : Nat) (g a : V) : List (Str × V) :=
  if k < 8 then [("value", g)] else if k = 8 then [("claim", g)] else if k = 9 then [("word", g)] else if k = 10 then [("what", g)] else if k = 11 then [("at", a), ("text", g)] else [("at", a), ("line", g)]
/-- the thirteen classes -/
structure Errs (P : Program) (w : World) (K : PySem.W.Frag) (mg : Str → Option Value) (C : Nat → Addr) : Prop where
  e0 : ErF P w K mg "InvalidBook" (C 0) (one "value")
  e1 : ErF P w K mg "InvalidList" (C 1) (one "value")
  e2 : ErF P w K mg "InvalidStyle" (C 2) (one "value")
  e3 : ErF P w K mg "InvalidLetters" (C 3) (one "value")
  e4 : ErF P w K mg "InvalidNumber" (C 4) (one "value")
  e5 : ErF P w K mg "InvalidMarks" (C 5) (one "value")
  e6 : ErF P w K mg "InvalidParts" (C 6) (one "value")
  e7 : ErF P w K mg "InvalidClaim" (C 7) (one "value")
  e8 : ErF P w K mg "Refused" (C 8) (one "claim")
  e9 : ErF P w K mg "NothingToUndo" (C 9) (one "word")
  e10 : ErF P w K mg "Undefined" (C 10) (one "what")
  e11 : ErF P w K mg "InvalidText" (C 11) (two "text" "at")
  e12 : ErF P w K mg "InvalidLine" (C 12) (two "line" "at")
def spRaise (lo : Int) (C : Nat → Addr) : Sp := fun vs H _ E => ∃ (kind : Int) (g a : V), vs = [.int kind, g, a] ∧ lo ≤ kind ∧ kind < 13 ∧ ∀ d, H d = none → E (.ref (C kind.toNat)) (some d) (upd H d (.xd (flds kind.toNat g a)))
theorem ite_eq {A B : Prop} {i j : Int} (h1 : i = j → A) (h2 : i ≠ j → B) : if decide (V.int i = V.int j) = true then A else B := by
  by_cases e : i = j
  · rw [if_pos (by rw [e]; exact decide_eq_true rfl)]
    exact h1 e
  · rw [if_neg (fun z => e (V.int.inj (of_decide_eq_true z)))]
    exact h2 e
section
variable {P : Program} {w : World} {K : PySem.W.Frag} {mg : Str → Option Value} {base : Heap} {C : Nat → Addr} {fMore : Addr}
theorem ok_More {f : Addr} {fd : FuncData} (F : Fun K "_law_raise_more" "_law_raise_more" sRaiseMore f fd) (R : Errs P w K mg C) : FnOk P w K mg base (L2N.CX P w) 3 f fd ["kind", "given", "at"] (spRaise 8 C) := by
  refine okN F scRaiseMore (fun vs H Q E h => ?_) (fun cdv A outer s H vs Q E hr h => ?_)
  · obtain ⟨_, _, _, rfl, _⟩ := h
    rfl
  · refine ⟨_, (pss_cons (ps_if (pt_cmpR op_eq (pv 0) pe_int (nomark _)) (pss_one (ps_raiseErr rfl R.e8 hr (L2N.takes_of rfl rfl rfl rfl) (pa_cons (pv 1) pa_nil))) pss_nil)
      (pss_cons (ps_if (pt_cmpR op_eq (pv 0) pe_int (nomark _)) (pss_one (ps_raiseErr rfl R.e9 hr (L2N.takes_of rfl rfl rfl rfl) (pa_cons (pv 1) pa_nil))) pss_nil)
      (pss_cons (ps_if (pt_cmpR op_eq (pv 0) pe_int (nomark _)) (pss_one (ps_raiseErr rfl R.e10 hr (L2N.takes_of rfl rfl rfl rfl) (pa_cons (pv 1) pa_nil))) pss_nil)
      (pss_cons (ps_if (pt_cmpR op_eq (pv 0) pe_int (nomark _)) (pss_one (ps_raiseErr rfl R.e11 hr (L2N.takes_of rfl rfl rfl rfl) (pa_cons (pv 1) (pa_cons (pv 2) pa_nil)))) pss_nil)
      (pss_one (ps_raiseErr rfl R.e12 hr (L2N.takes_of rfl rfl rfl rfl) (pa_cons (pv 1) (pa_cons (pv 2) pa_nil)))))))), ?_⟩
    obtain ⟨kind, g, a, rfl, h0, h1, k⟩ := h
    refine ⟨_, rfl, rfl, _, rfl, ite_eq (fun e => ?_) (fun n8 => ?_)⟩
    · subst e
      exact ⟨_, rfl, _, rfl, k⟩
    refine ⟨_, rfl, rfl, _, rfl, ite_eq (fun e => ?_) (fun n9 => ?_)⟩
    · subst e
      exact ⟨_, rfl, _, rfl, k⟩
    refine ⟨_, rfl, rfl, _, rfl, ite_eq (fun e => ?_) (fun n10 => ?_)⟩
    · subst e
      exact ⟨_, rfl, _, rfl, k⟩
    refine ⟨_, rfl, rfl, _, rfl, ite_eq (fun e => ?_) (fun n11 => ?_)⟩
    · subst e
      exact ⟨_, rfl, _, rfl, _, rfl, k⟩
    have e : kind = 12 := by omega
    subst e
    exact ⟨_, rfl, _, rfl, _, rfl, k⟩
theorem ok_Raise {f : Addr} {fd fdMore : FuncData} (F : Fun K "_law_raise" "_law_raise" sRaise f fd) (R : Errs P w K mg C) (gRaiseMore : mg "_law_raise_more" = some (.ref fMore)) (FRaiseMore : Fun K "_law_raise_more" "_law_raise_more" sRaiseMore fMore fdMore) (bRaiseMore : Binds K fdMore ["kind", "given", "at"] []) :
    FnOk P w K mg base (L2N.CX P w) 4 f fd ["kind", "given", "at"] (spRaise 0 C) := by
  have GRaiseMore : FnOk P w K mg base (L2N.CX P w) 3 fMore fdMore ["kind", "given", "at"] (spRaise 8 C) := ok_More FRaiseMore R
  refine okN F scRaise (fun vs H Q E h => ?_) (fun cdv A outer s H vs Q E hr h => ?_)
  · obtain ⟨_, _, _, rfl, _⟩ := h
    rfl
  · have hrRaiseMore : Room 3 _ := hr
    refine ⟨_, (pss_cons (ps_if (pt_cmpR op_eq (pv 0) pe_int (nomark _)) (pss_one (ps_raiseErr rfl R.e0 hr (L2N.takes_of rfl rfl rfl rfl) (pa_cons (pv 1) pa_nil))) pss_nil)
      (pss_cons (ps_if (pt_cmpR op_eq (pv 0) pe_int (nomark _)) (pss_one (ps_raiseErr rfl R.e1 hr (L2N.takes_of rfl rfl rfl rfl) (pa_cons (pv 1) pa_nil))) pss_nil)
      (pss_cons (ps_if (pt_cmpR op_eq (pv 0) pe_int (nomark _)) (pss_one (ps_raiseErr rfl R.e2 hr (L2N.takes_of rfl rfl rfl rfl) (pa_cons (pv 1) pa_nil))) pss_nil)
      (pss_cons (ps_if (pt_cmpR op_eq (pv 0) pe_int (nomark _)) (pss_one (ps_raiseErr rfl R.e3 hr (L2N.takes_of rfl rfl rfl rfl) (pa_cons (pv 1) pa_nil))) pss_nil)
      (pss_cons (ps_if (pt_cmpR op_eq (pv 0) pe_int (nomark _)) (pss_one (ps_raiseErr rfl R.e4 hr (L2N.takes_of rfl rfl rfl rfl) (pa_cons (pv 1) pa_nil))) pss_nil)
      (pss_cons (ps_if (pt_cmpR op_eq (pv 0) pe_int (nomark _)) (pss_one (ps_raiseErr rfl R.e5 hr (L2N.takes_of rfl rfl rfl rfl) (pa_cons (pv 1) pa_nil))) pss_nil)
      (pss_cons (ps_if (pt_cmpR op_eq (pv 0) pe_int (nomark _)) (pss_one (ps_raiseErr rfl R.e6 hr (L2N.takes_of rfl rfl rfl rfl) (pa_cons (pv 1) pa_nil))) pss_nil)
      (pss_cons (ps_if (pt_cmpR op_eq (pv 0) pe_int (nomark _)) (pss_one (ps_raiseErr rfl R.e7 hr (L2N.takes_of rfl rfl rfl rfl) (pa_cons (pv 1) pa_nil))) pss_nil)
      (pss_one (ps_expr (pe_call GRaiseMore hrRaiseMore rfl gRaiseMore FRaiseMore.kp bRaiseMore .nil (passN (L2N.takes_of rfl rfl rfl rfl)) (pa_cons (pv 0) (pa_cons (pv 1) (pa_cons (pv 2) pa_nil)))))))))))))), ?_⟩
    obtain ⟨kind, g, a, rfl, h0, h1, k⟩ := h
    iterate 8
      refine ⟨_, rfl, rfl, _, rfl, ite_eq (fun e => ?_) (fun _ => ?_)⟩
      · subst e
        exact ⟨_, rfl, _, rfl, k⟩
    exact ⟨_, rfl, _, rfl, _, rfl, kind, g, a, rfl, by omega, h1, k⟩
end
end K1
namespace K1
open PySem PySem.Spec PyProof.Rows L2 Er
abbrev sKept : Stmt := top 23
abbrev NKept : List Str := ["kind", "given", "at", "e"]
theorem scKept : FnScope NKept ["kind", "given", "at"] (defScope sKept) := ⟨rfl, rfl, rfl, by decide +kernel, rfl, by decide +kernel, by decide +kernel⟩
/-- the classes, as the clauses and isinstance ask them -/
structure ErrsX (K : PySem.W.Frag) (C : Nat → Addr) (cE : Addr) : Prop where
  xf : ∀ i : Nat, i < 13 → XfC K (C i)
  exm : ∀ i j : Nat, i < 13 → j < 13 → PySem.W.exmOne K (.ref (C i)) (.ref (C j)) = some (decide (i = j))
  exE : ∀ i : Nat, i < 13 → PySem.W.exmOne K (.ref (C i)) (.ref cE) = some true
  kit : ∀ i j : Nat, i < 13 → j < 13 → PySem.W.kitOne K (.ref (C i)) (.ref (C j)) = some (decide (i = j))
  kitV : ∀ i : Nat, i < 13 → PySem.W.kitOne K (.ref (C i)) (.type "ValueError") = some true
  isc : ∀ i : Nat, i < 13 → ExcC K (C i)
  no0 : PySem.W.findIn K (.ref (C 0)) "value" = some none
  no1 : PySem.W.findIn K (.ref (C 1)) "value" = some none
  no2 : PySem.W.findIn K (.ref (C 2)) "value" = some none
  no3 : PySem.W.findIn K (.ref (C 3)) "value" = some none
  no4 : PySem.W.findIn K (.ref (C 4)) "value" = some none
  no5 : PySem.W.findIn K (.ref (C 5)) "value" = some none
  no6 : PySem.W.findIn K (.ref (C 6)) "value" = some none
  no7 : PySem.W.findIn K (.ref (C 7)) "value" = some none
  no8 : PySem.W.findIn K (.ref (C 8)) "claim" = some none
  no9 : PySem.W.findIn K (.ref (C 9)) "word" = some none
  no10 : PySem.W.findIn K (.ref (C 10)) "what" = some none
  no11 : PySem.W.findIn K (.ref (C 11)) "text" = some none
  no12 : PySem.W.findIn K (.ref (C 12)) "line" = some none
  no11at : PySem.W.findIn K (.ref (C 11)) "at" = some none
  no12at : PySem.W.findIn K (.ref (C 12)) "at" = some none
/-- the clause that takes it -/
theorem wCls_at {K : PySem.W.Frag} {Wout : WX} {D : Ends} {cls : Value} {d : Option Addr} {σ : L2.St} {H : Hp} : ∀ {l : List Cl} {k : Nat} {c : Cl}, l[k]? = some c → (∀ j cj, j < k → l[j]? = some cj → PySem.W.exmOne K cls cj.c = some false) → PySem.W.exmOne K cls c.c = some true →
    (∀ a, H a = none → c.ts a cls d (gone c.i D) (σ.set c.i (some (.ref a))) H) → wCls K Wout D l cls d σ H
  | [], k, c, hk, _, _, _ => by simp at hk
  | x :: l, 0, c, hk, _, hy, h => by
    have e : x = c := Option.some.inj hk
    subst e
    exact ⟨true, hy, fun _ => h, fun z => Bool.noConfusion z⟩
  | x :: l, k + 1, c, hk, hn, hy, h => by
    refine ⟨false, hn 0 x (Nat.succ_pos _) rfl, fun z => Bool.noConfusion z, fun _ => wCls_at (l := l) (k := k) hk (fun j cj hj e => hn (j + 1) cj (Nat.succ_lt_succ hj) e) hy h⟩
def keptL (k : Nat) (g a : V) : List V := if k < 11 then [g] else [g, a]
def spKept : Sp := fun vs H Q _ => ∃ (kind : Int) (g a : V), vs = [.int kind, g, a] ∧ 0 ≤ kind ∧ kind < 13 ∧ ∀ p H', Same H H' → H p = none → H' p = some (.tup (.int kind :: keptL kind.toNat g a)) → Q (.ref p) H'
section
variable {P : Program} {w : World} {K : PySem.W.Frag} {mg : Str → Option Value} {base : Heap} {C : Nat → Addr} {cE fMore fRaise : Addr}
theorem ok_Kept {f : Addr} {fd fdMore fdRaise : FuncData} (F : Fun K "_law_kept" "_law_kept" sKept f fd) (R : Errs P w K mg C) (X : ErrsX K C cE) (gRaiseMore : mg "_law_raise_more" = some (.ref fMore)) (FRaiseMore : Fun K "_law_raise_more" "_law_raise_more" sRaiseMore fMore fdMore) (bRaiseMore : Binds K fdMore ["kind", "given", "at"] [])
    (gRaise : mg "_law_raise" = some (.ref fRaise)) (FRaise : Fun K "_law_raise" "_law_raise" sRaise fRaise fdRaise) (bRaise : Binds K fdRaise ["kind", "given", "at"] []) :
    FnOk P w K mg base CX0 5 f fd ["kind", "given", "at"] spKept := by
  have GRaise : FnOk P w K mg base (L2N.CX P w) 4 fRaise fdRaise ["kind", "given", "at"] (spRaise 0 C) := ok_Raise FRaise R gRaiseMore FRaiseMore bRaiseMore
  refine F.ok scKept (fun vs H Q E h => ?_) (fun cdv A outer s H vs Q E hr h => ?_)
  · obtain ⟨_, _, _, rfl, _⟩ := h
    rfl
  · have hrRaise : Room 4 _ := hr
    refine ⟨_, (pss_cons (ps_try_cls rfl rfl scKept.nd takesNo (fun W pn xe tk _ => (pss_one (ps_expr (pe_callS GRaise hrRaise rfl gRaise FRaise.kp bRaise (fun σ => L2N.passAt tk σ) (pa_cons (pv 0) (pa_cons (pv 1) (pa_cons (pv 2) pa_nil)))))))
      (ClsOk.cons ⟨rfl, by decide, .inl R.e0.g⟩ (i := 3) rfl rfl (fun a oe cls d pn hz hf => (pss_one (ps_ret (pe_tup (pa_cons pe_int (pa_cons (pe_xf (X.xf 0 (by decide)) X.no0 (L2N.Zn.zc hz) hf (pv 3)) pa_nil))))))
      (ClsOk.cons ⟨rfl, by decide, .inl R.e1.g⟩ (i := 3) rfl rfl (fun a oe cls d pn hz hf => (pss_one (ps_ret (pe_tup (pa_cons pe_int (pa_cons (pe_xf (X.xf 1 (by decide)) X.no1 (L2N.Zn.zc hz) hf (pv 3)) pa_nil))))))
      (ClsOk.cons ⟨rfl, by decide, .inl R.e2.g⟩ (i := 3) rfl rfl (fun a oe cls d pn hz hf => (pss_one (ps_ret (pe_tup (pa_cons pe_int (pa_cons (pe_xf (X.xf 2 (by decide)) X.no2 (L2N.Zn.zc hz) hf (pv 3)) pa_nil))))))
      (ClsOk.cons ⟨rfl, by decide, .inl R.e3.g⟩ (i := 3) rfl rfl (fun a oe cls d pn hz hf => (pss_one (ps_ret (pe_tup (pa_cons pe_int (pa_cons (pe_xf (X.xf 3 (by decide)) X.no3 (L2N.Zn.zc hz) hf (pv 3)) pa_nil))))))
      (ClsOk.cons ⟨rfl, by decide, .inl R.e4.g⟩ (i := 3) rfl rfl (fun a oe cls d pn hz hf => (pss_one (ps_ret (pe_tup (pa_cons pe_int (pa_cons (pe_xf (X.xf 4 (by decide)) X.no4 (L2N.Zn.zc hz) hf (pv 3)) pa_nil))))))
      (ClsOk.cons ⟨rfl, by decide, .inl R.e5.g⟩ (i := 3) rfl rfl (fun a oe cls d pn hz hf => (pss_one (ps_ret (pe_tup (pa_cons pe_int (pa_cons (pe_xf (X.xf 5 (by decide)) X.no5 (L2N.Zn.zc hz) hf (pv 3)) pa_nil))))))
      (ClsOk.cons ⟨rfl, by decide, .inl R.e6.g⟩ (i := 3) rfl rfl (fun a oe cls d pn hz hf => (pss_one (ps_ret (pe_tup (pa_cons pe_int (pa_cons (pe_xf (X.xf 6 (by decide)) X.no6 (L2N.Zn.zc hz) hf (pv 3)) pa_nil))))))
      (ClsOk.cons ⟨rfl, by decide, .inl R.e7.g⟩ (i := 3) rfl rfl (fun a oe cls d pn hz hf => (pss_one (ps_ret (pe_tup (pa_cons pe_int (pa_cons (pe_xf (X.xf 7 (by decide)) X.no7 (L2N.Zn.zc hz) hf (pv 3)) pa_nil))))))
      (ClsOk.cons ⟨rfl, by decide, .inl R.e8.g⟩ (i := 3) rfl rfl (fun a oe cls d pn hz hf => (pss_one (ps_ret (pe_tup (pa_cons pe_int (pa_cons (pe_xf (X.xf 8 (by decide)) X.no8 (L2N.Zn.zc hz) hf (pv 3)) pa_nil))))))
      (ClsOk.cons ⟨rfl, by decide, .inl R.e9.g⟩ (i := 3) rfl rfl (fun a oe cls d pn hz hf => (pss_one (ps_ret (pe_tup (pa_cons pe_int (pa_cons (pe_xf (X.xf 9 (by decide)) X.no9 (L2N.Zn.zc hz) hf (pv 3)) pa_nil))))))
      (ClsOk.cons ⟨rfl, by decide, .inl R.e10.g⟩ (i := 3) rfl rfl (fun a oe cls d pn hz hf => (pss_one (ps_ret (pe_tup (pa_cons pe_int (pa_cons (pe_xf (X.xf 10 (by decide)) X.no10 (L2N.Zn.zc hz) hf (pv 3)) pa_nil))))))
      (ClsOk.cons ⟨rfl, by decide, .inl R.e11.g⟩ (i := 3) rfl rfl (fun a oe cls d pn hz hf => (pss_one (ps_ret (pe_tup (pa_cons pe_int (pa_cons (pe_xf (X.xf 11 (by decide)) X.no11 (L2N.Zn.zc hz) hf (pv 3)) (pa_cons (pe_xf (X.xf 11 (by decide)) X.no11at (L2N.Zn.zc hz) hf (pv 3)) pa_nil)))))))
      (ClsOk.cons ⟨rfl, by decide, .inl R.e12.g⟩ (i := 3) rfl rfl (fun a oe cls d pn hz hf => (pss_one (ps_ret (pe_tup (pa_cons pe_int (pa_cons (pe_xf (X.xf 12 (by decide)) X.no12 (L2N.Zn.zc hz) hf (pv 3)) (pa_cons (pe_xf (X.xf 12 (by decide)) X.no12at (L2N.Zn.zc hz) hf (pv 3)) pa_nil)))))))
      ClsOk.nil))))))))))))))
      (pss_one (ps_ret (pe_tup (pa_cons pe_int pa_nil))))), ?_⟩
    obtain ⟨kind, g, a, rfl, h0, h1, k⟩ := h
    refine ⟨_, rfl, _, rfl, _, rfl, kind, g, a, rfl, h0, h1, fun d hd => ?_⟩
    have go : ∀ p H', Same (upd H d (.xd (flds kind.toNat g a))) H' → upd H d (.xd (flds kind.toNat g a)) p = none → H' p = some (.tup (.int kind :: keptL kind.toNat g a)) → Q (.ref p) H' := fun p H' s1 hp h2 => by
      refine k p H' (fun b o e => s1 b o (by rw [upd_ne (ne_of_none e hd)]; exact e)) ?_ h2
      by_cases e : p = d
      · rw [e, upd_same] at hp
        cases hp
      · rw [upd_ne e] at hp
        exact hp
    have no : ∀ (i j : Nat), i < 13 → j < i → PySem.W.exmOne K (.ref (C i)) (.ref (C j)) = some false := fun i j hi hj => by
      rw [X.exm i j hi (by omega), decide_eq_false (by omega)]
    have yes : ∀ (i : Nat), i < 13 → PySem.W.exmOne K (.ref (C i)) (.ref (C i)) = some true := fun i hi => by
      rw [X.exm i i hi hi, decide_eq_true rfl]
    have split : kind = 0 ∨ kind = 1 ∨ kind = 2 ∨ kind = 3 ∨ kind = 4 ∨ kind = 5 ∨ kind = 6 ∨ kind = 7 ∨ kind = 8 ∨ kind = 9 ∨ kind = 10 ∨ kind = 11 ∨ kind = 12 := by omega
    rcases split with rfl | rfl | rfl | rfl | rfl | rfl | rfl | rfl | rfl | rfl | rfl | rfl | rfl
    · refine wCls_at (k := 0) rfl (fun j cj hj e => ?_) (yes 0 (by decide)) (fun b hb => ?_)
      · have hj2 : False := by omega
        exact hj2.elim
      · refine ⟨_, rfl, rfl, rfl, d, _, _, rfl, upd_same, rfl, (by show 2 ≤ sizeLine; decide), fun p hp => ?_⟩
        exact go p _ (fun c o e => by rw [upd_ne (ne_of_none e hp)]; exact e) hp upd_same
    · refine wCls_at (k := 1) rfl (fun j cj hj e => ?_) (yes 1 (by decide)) (fun b hb => ?_)
      · have hj2 : j = 0 := by omega
        rcases hj2 with rfl
        all_goals
          cases e
          exact no _ _ (by decide) (by decide)
      · refine ⟨_, rfl, rfl, rfl, d, _, _, rfl, upd_same, rfl, (by show 2 ≤ sizeLine; decide), fun p hp => ?_⟩
        exact go p _ (fun c o e => by rw [upd_ne (ne_of_none e hp)]; exact e) hp upd_same
    · refine wCls_at (k := 2) rfl (fun j cj hj e => ?_) (yes 2 (by decide)) (fun b hb => ?_)
      · have hj2 : j = 0 ∨ j = 1 := by omega
        rcases hj2 with rfl | rfl
        all_goals
          cases e
          exact no _ _ (by decide) (by decide)
      · refine ⟨_, rfl, rfl, rfl, d, _, _, rfl, upd_same, rfl, (by show 2 ≤ sizeLine; decide), fun p hp => ?_⟩
        exact go p _ (fun c o e => by rw [upd_ne (ne_of_none e hp)]; exact e) hp upd_same
    · refine wCls_at (k := 3) rfl (fun j cj hj e => ?_) (yes 3 (by decide)) (fun b hb => ?_)
      · have hj2 : j = 0 ∨ j = 1 ∨ j = 2 := by omega
        rcases hj2 with rfl | rfl | rfl
        all_goals
          cases e
          exact no _ _ (by decide) (by decide)
      · refine ⟨_, rfl, rfl, rfl, d, _, _, rfl, upd_same, rfl, (by show 2 ≤ sizeLine; decide), fun p hp => ?_⟩
        exact go p _ (fun c o e => by rw [upd_ne (ne_of_none e hp)]; exact e) hp upd_same
    · refine wCls_at (k := 4) rfl (fun j cj hj e => ?_) (yes 4 (by decide)) (fun b hb => ?_)
      · have hj2 : j = 0 ∨ j = 1 ∨ j = 2 ∨ j = 3 := by omega
        rcases hj2 with rfl | rfl | rfl | rfl
        all_goals
          cases e
          exact no _ _ (by decide) (by decide)
      · refine ⟨_, rfl, rfl, rfl, d, _, _, rfl, upd_same, rfl, (by show 2 ≤ sizeLine; decide), fun p hp => ?_⟩
        exact go p _ (fun c o e => by rw [upd_ne (ne_of_none e hp)]; exact e) hp upd_same
    · refine wCls_at (k := 5) rfl (fun j cj hj e => ?_) (yes 5 (by decide)) (fun b hb => ?_)
      · have hj2 : j = 0 ∨ j = 1 ∨ j = 2 ∨ j = 3 ∨ j = 4 := by omega
        rcases hj2 with rfl | rfl | rfl | rfl | rfl
        all_goals
          cases e
          exact no _ _ (by decide) (by decide)
      · refine ⟨_, rfl, rfl, rfl, d, _, _, rfl, upd_same, rfl, (by show 2 ≤ sizeLine; decide), fun p hp => ?_⟩
        exact go p _ (fun c o e => by rw [upd_ne (ne_of_none e hp)]; exact e) hp upd_same
    · refine wCls_at (k := 6) rfl (fun j cj hj e => ?_) (yes 6 (by decide)) (fun b hb => ?_)
      · have hj2 : j = 0 ∨ j = 1 ∨ j = 2 ∨ j = 3 ∨ j = 4 ∨ j = 5 := by omega
        rcases hj2 with rfl | rfl | rfl | rfl | rfl | rfl
        all_goals
          cases e
          exact no _ _ (by decide) (by decide)
      · refine ⟨_, rfl, rfl, rfl, d, _, _, rfl, upd_same, rfl, (by show 2 ≤ sizeLine; decide), fun p hp => ?_⟩
        exact go p _ (fun c o e => by rw [upd_ne (ne_of_none e hp)]; exact e) hp upd_same
    · refine wCls_at (k := 7) rfl (fun j cj hj e => ?_) (yes 7 (by decide)) (fun b hb => ?_)
      · have hj2 : j = 0 ∨ j = 1 ∨ j = 2 ∨ j = 3 ∨ j = 4 ∨ j = 5 ∨ j = 6 := by omega
        rcases hj2 with rfl | rfl | rfl | rfl | rfl | rfl | rfl
        all_goals
          cases e
          exact no _ _ (by decide) (by decide)
      · refine ⟨_, rfl, rfl, rfl, d, _, _, rfl, upd_same, rfl, (by show 2 ≤ sizeLine; decide), fun p hp => ?_⟩
        exact go p _ (fun c o e => by rw [upd_ne (ne_of_none e hp)]; exact e) hp upd_same
    · refine wCls_at (k := 8) rfl (fun j cj hj e => ?_) (yes 8 (by decide)) (fun b hb => ?_)
      · have hj2 : j = 0 ∨ j = 1 ∨ j = 2 ∨ j = 3 ∨ j = 4 ∨ j = 5 ∨ j = 6 ∨ j = 7 := by omega
        rcases hj2 with rfl | rfl | rfl | rfl | rfl | rfl | rfl | rfl
        all_goals
          cases e
          exact no _ _ (by decide) (by decide)
      · refine ⟨_, rfl, rfl, rfl, d, _, _, rfl, upd_same, rfl, (by show 2 ≤ sizeLine; decide), fun p hp => ?_⟩
        exact go p _ (fun c o e => by rw [upd_ne (ne_of_none e hp)]; exact e) hp upd_same
    · refine wCls_at (k := 9) rfl (fun j cj hj e => ?_) (yes 9 (by decide)) (fun b hb => ?_)
      · have hj2 : j = 0 ∨ j = 1 ∨ j = 2 ∨ j = 3 ∨ j = 4 ∨ j = 5 ∨ j = 6 ∨ j = 7 ∨ j = 8 := by omega
        rcases hj2 with rfl | rfl | rfl | rfl | rfl | rfl | rfl | rfl | rfl
        all_goals
          cases e
          exact no _ _ (by decide) (by decide)
      · refine ⟨_, rfl, rfl, rfl, d, _, _, rfl, upd_same, rfl, (by show 2 ≤ sizeLine; decide), fun p hp => ?_⟩
        exact go p _ (fun c o e => by rw [upd_ne (ne_of_none e hp)]; exact e) hp upd_same
    · refine wCls_at (k := 10) rfl (fun j cj hj e => ?_) (yes 10 (by decide)) (fun b hb => ?_)
      · have hj2 : j = 0 ∨ j = 1 ∨ j = 2 ∨ j = 3 ∨ j = 4 ∨ j = 5 ∨ j = 6 ∨ j = 7 ∨ j = 8 ∨ j = 9 := by omega
        rcases hj2 with rfl | rfl | rfl | rfl | rfl | rfl | rfl | rfl | rfl | rfl
        all_goals
          cases e
          exact no _ _ (by decide) (by decide)
      · refine ⟨_, rfl, rfl, rfl, d, _, _, rfl, upd_same, rfl, (by show 2 ≤ sizeLine; decide), fun p hp => ?_⟩
        exact go p _ (fun c o e => by rw [upd_ne (ne_of_none e hp)]; exact e) hp upd_same
    · refine wCls_at (k := 11) rfl (fun j cj hj e => ?_) (yes 11 (by decide)) (fun b hb => ?_)
      · have hj2 : j = 0 ∨ j = 1 ∨ j = 2 ∨ j = 3 ∨ j = 4 ∨ j = 5 ∨ j = 6 ∨ j = 7 ∨ j = 8 ∨ j = 9 ∨ j = 10 := by omega
        rcases hj2 with rfl | rfl | rfl | rfl | rfl | rfl | rfl | rfl | rfl | rfl | rfl
        all_goals
          cases e
          exact no _ _ (by decide) (by decide)
      · refine ⟨_, rfl, rfl, rfl, d, _, _, rfl, upd_same, rfl, _, rfl, rfl, rfl, d, _, _, rfl, upd_same, rfl, (by show 3 ≤ sizeLine; decide), fun p hp => ?_⟩
        exact go p _ (fun c o e => by rw [upd_ne (ne_of_none e hp)]; exact e) hp upd_same
    · refine wCls_at (k := 12) rfl (fun j cj hj e => ?_) (yes 12 (by decide)) (fun b hb => ?_)
      · have hj2 : j = 0 ∨ j = 1 ∨ j = 2 ∨ j = 3 ∨ j = 4 ∨ j = 5 ∨ j = 6 ∨ j = 7 ∨ j = 8 ∨ j = 9 ∨ j = 10 ∨ j = 11 := by omega
        rcases hj2 with rfl | rfl | rfl | rfl | rfl | rfl | rfl | rfl | rfl | rfl | rfl | rfl
        all_goals
          cases e
          exact no _ _ (by decide) (by decide)
      · refine ⟨_, rfl, rfl, rfl, d, _, _, rfl, upd_same, rfl, _, rfl, rfl, rfl, d, _, _, rfl, upd_same, rfl, (by show 3 ≤ sizeLine; decide), fun p hp => ?_⟩
        exact go p _ (fun c o e => by rw [upd_ne (ne_of_none e hp)]; exact e) hp upd_same
end
end K1
namespace K1
open PySem PySem.Spec PyProof.Rows L2 Er
abbrev sClasses : Stmt := top 24
abbrev NClasses : List Str := ["kind", "given", "at", "e", "found", "k"]
theorem scClasses : FnScope NClasses ["kind", "given", "at"] (defScope sClasses) := ⟨rfl, rfl, rfl, by decide +kernel, rfl, by decide +kernel, by decide +kernel⟩
def spClasses : Sp := fun vs H Q _ => ∃ (kind : Int) (g a : V), vs = [.int kind, g, a] ∧ 0 ≤ kind ∧ kind < 13 ∧ ∀ H', Same H H' → Q (.bl true) H'
section
variable {P : Program} {w : World} {K : PySem.W.Frag} {mg : Str → Option Value} {base : Heap} {C : Nat → Addr} {cE fMore fRaise fLoad fDraw : Addr}
theorem ok_Classes {f : Addr} {fd fdMore fdRaise : FuncData} (F : Fun K "_law_classes" "_law_classes" sClasses f fd) (T : Txt mg fLoad fDraw) (R : Errs P w K mg C) (X : ErrsX K C cE) (gCE : mg "CiteError" = some (.ref cE)) (gRaiseMore : mg "_law_raise_more" = some (.ref fMore)) (FRaiseMore : Fun K "_law_raise_more" "_law_raise_more" sRaiseMore fMore fdMore) (bRaiseMore : Binds K fdMore ["kind", "given", "at"] [])
    (gRaise : mg "_law_raise" = some (.ref fRaise)) (FRaise : Fun K "_law_raise" "_law_raise" sRaise fRaise fdRaise) (bRaise : Binds K fdRaise ["kind", "given", "at"] []) :
    FnOk P w K mg base CX0 5 f fd ["kind", "given", "at"] spClasses := by
  have GRaise : FnOk P w K mg base (L2N.CX P w) 4 fRaise fdRaise ["kind", "given", "at"] (spRaise 0 C) := ok_Raise FRaise R gRaiseMore FRaiseMore bRaiseMore
  refine F.ok scClasses (fun vs H Q E h => ?_) (fun cdv A outer s H vs Q E hr h => ?_)
  · obtain ⟨_, _, _, rfl, _⟩ := h
    rfl
  · have hrRaise : Room 4 _ := hr
    refine ⟨_, (pss_cons (ps_try_cls rfl rfl scClasses.nd takesNo (fun W pn xe tk _ => (pss_one (ps_expr (pe_callS GRaise hrRaise rfl gRaise FRaise.kp bRaise (fun σ => L2N.passAt tk σ) (pa_cons (pv 0) (pa_cons (pv 1) (pa_cons (pv 2) pa_nil)))))))
      (ClsOk.cons ⟨rfl, by decide, .inl gCE⟩ (i := 3) rfl rfl (fun a oe cls d pn hz hf => (pss_cons (ps_set (i := 4) scClasses.nd rfl (Or.inl rfl) (pe_lst (pa_cons (pe_callB (r := rIsD K cls d a) (call_isD (L2N.Zn.zc hz) hf) (by rfl) T.b.isinstance (by decide +kernel) (pa_cons (pv 3) (pa_cons (pe_glob (v := .ref _) rfl R.e0.g rfl) pa_nil))) (pa_cons (pe_callB (r := rIsD K cls d a) (call_isD (L2N.Zn.zc hz) hf) (by rfl) T.b.isinstance (by decide +kernel) (pa_cons (pv 3) (pa_cons (pe_glob (v := .ref _) rfl R.e1.g rfl) pa_nil))) (pa_cons (pe_callB (r := rIsD K cls d a) (call_isD (L2N.Zn.zc hz) hf) (by rfl) T.b.isinstance (by decide +kernel) (pa_cons (pv 3) (pa_cons (pe_glob (v := .ref _) rfl R.e2.g rfl) pa_nil))) pa_nil)))))
      (pss_cons (ps_set (i := 4) scClasses.nd rfl (Or.inl rfl) (pe_op op_cat (pv 4) (pe_lst (pa_cons (pe_callB (r := rIsD K cls d a) (call_isD (L2N.Zn.zc hz) hf) (by rfl) T.b.isinstance (by decide +kernel) (pa_cons (pv 3) (pa_cons (pe_glob (v := .ref _) rfl R.e3.g rfl) pa_nil))) (pa_cons (pe_callB (r := rIsD K cls d a) (call_isD (L2N.Zn.zc hz) hf) (by rfl) T.b.isinstance (by decide +kernel) (pa_cons (pv 3) (pa_cons (pe_glob (v := .ref _) rfl R.e4.g rfl) pa_nil))) (pa_cons (pe_callB (r := rIsD K cls d a) (call_isD (L2N.Zn.zc hz) hf) (by rfl) T.b.isinstance (by decide +kernel) (pa_cons (pv 3) (pa_cons (pe_glob (v := .ref _) rfl R.e5.g rfl) pa_nil))) pa_nil))))))
      (pss_cons (ps_set (i := 4) scClasses.nd rfl (Or.inl rfl) (pe_op op_cat (pv 4) (pe_lst (pa_cons (pe_callB (r := rIsD K cls d a) (call_isD (L2N.Zn.zc hz) hf) (by rfl) T.b.isinstance (by decide +kernel) (pa_cons (pv 3) (pa_cons (pe_glob (v := .ref _) rfl R.e6.g rfl) pa_nil))) (pa_cons (pe_callB (r := rIsD K cls d a) (call_isD (L2N.Zn.zc hz) hf) (by rfl) T.b.isinstance (by decide +kernel) (pa_cons (pv 3) (pa_cons (pe_glob (v := .ref _) rfl R.e7.g rfl) pa_nil))) (pa_cons (pe_callB (r := rIsD K cls d a) (call_isD (L2N.Zn.zc hz) hf) (by rfl) T.b.isinstance (by decide +kernel) (pa_cons (pv 3) (pa_cons (pe_glob (v := .ref _) rfl R.e8.g rfl) pa_nil))) pa_nil))))))
      (pss_cons (ps_set (i := 4) scClasses.nd rfl (Or.inl rfl) (pe_op op_cat (pv 4) (pe_lst (pa_cons (pe_callB (r := rIsD K cls d a) (call_isD (L2N.Zn.zc hz) hf) (by rfl) T.b.isinstance (by decide +kernel) (pa_cons (pv 3) (pa_cons (pe_glob (v := .ref _) rfl R.e9.g rfl) pa_nil))) (pa_cons (pe_callB (r := rIsD K cls d a) (call_isD (L2N.Zn.zc hz) hf) (by rfl) T.b.isinstance (by decide +kernel) (pa_cons (pv 3) (pa_cons (pe_glob (v := .ref _) rfl R.e10.g rfl) pa_nil))) (pa_cons (pe_callB (r := rIsD K cls d a) (call_isD (L2N.Zn.zc hz) hf) (by rfl) T.b.isinstance (by decide +kernel) (pa_cons (pv 3) (pa_cons (pe_glob (v := .ref _) rfl R.e11.g rfl) pa_nil))) pa_nil))))))
      (pss_cons (ps_set (i := 4) scClasses.nd rfl (Or.inl rfl) (pe_op op_cat (pv 4) (pe_lst (pa_cons (pe_callB (r := rIsD K cls d a) (call_isD (L2N.Zn.zc hz) hf) (by rfl) T.b.isinstance (by decide +kernel) (pa_cons (pv 3) (pa_cons (pe_glob (v := .ref _) rfl R.e12.g rfl) pa_nil))) pa_nil))))
      (pss_one (ps_ret (pe_and (pe_cmpR (r := rEqD K) (op_eqD hr.units) (pv 4) (pe_lcH (own := [("k", 5)]) (g := gName 5) (hot_suite hz hf) scClasses.nd (L2H.pi_range1H (by rfl) T.b.range (pa_cons pe_int pa_nil)) (blkOk_by (own := [("k", 5)]) (N := NClasses) (sc := defScope sClasses) (by decide +kernel)) (fun _ _ _ _ _ => (pg_name (i := 5) scClasses.nd rfl (Or.inl rfl))) (fun _ _ _ _ _ => (pe_cmpR op_eq (pv 5) (pv 0) (nomark _)))) (nomark _)) (pe_one (pe_callB (r := rIsD K cls d a) (call_isD (L2N.Zn.zc hz) hf) (by rfl) T.b.isinstance (by decide +kernel) (pa_cons (pv 3) (pa_cons (pe_bltn (v := .ty "ValueError") (by rfl) T.b.ValueError (by decide +kernel) rfl) pa_nil)))))))))))))
      ClsOk.nil))
      (pss_one (ps_ret pe_bl))), ?_⟩
    obtain ⟨kind, g, a, rfl, h0, h1, k⟩ := h
    refine ⟨_, rfl, _, rfl, _, rfl, kind, g, a, rfl, h0, h1, fun d hd => ?_⟩
    refine ⟨true, X.exE _ (by omega), fun _ b hb => ?_, fun z => Bool.noConfusion z⟩
    have hk : kind.toNat < 13 := by omega
    have S0 : Same H (upd H d (.xd (flds kind.toNat g a))) := fun c o e => by
      rw [upd_ne (ne_of_none e hd)]
      exact e
    generalize hfs : flds kind.toNat g a = fs at S0 ⊢
    have x0 : upd H d (.xd fs) d = some (.xd fs) := upd_same
    generalize upd H d (.xd fs) = H0 at S0 x0 ⊢
    have grow : ∀ {H1 H2 : Hp} {p : Addr} {o : HO}, Same H1 H2 → H2 p = none → Same H1 (upd H2 p o) := fun s n c u e => by
      have z := s c u e
      rw [upd_ne (ne_of_none z n)]
      exact z
    refine ⟨_, rfl, C kind.toNat, d, _, .ref (C 0), .ref (C 0), _, rfl, rfl, X.isc _ hk, x0, rfl, (fun _ r => r), X.kit _ 0 hk (by decide), _, rfl, C kind.toNat, d, _, .ref (C 1), .ref (C 1), _, rfl, rfl, X.isc _ hk, x0, rfl, (fun _ r => r), X.kit _ 1 hk (by decide), _, rfl, C kind.toNat, d, _, .ref (C 2), .ref (C 2), _, rfl, rfl, X.isc _ hk, x0, rfl, (fun _ r => r), X.kit _ 2 hk (by decide), (by show 3 ≤ sizeLine; decide), fun p0 n0 => ?_⟩
    have s1 : Same H0 (upd H0 p0 (.lst [.bl (decide (kind.toNat = 0)), .bl (decide (kind.toNat = 1)), .bl (decide (kind.toNat = 2))])) := grow (Same.refl _) n0
    have l0 : upd H0 p0 (.lst [.bl (decide (kind.toNat = 0)), .bl (decide (kind.toNat = 1)), .bl (decide (kind.toNat = 2))]) p0 = some (.lst [.bl (decide (kind.toNat = 0)), .bl (decide (kind.toNat = 1)), .bl (decide (kind.toNat = 2))]) := upd_same
    generalize upd H0 p0 (.lst [.bl (decide (kind.toNat = 0)), .bl (decide (kind.toNat = 1)), .bl (decide (kind.toNat = 2))]) = H1 at s1 l0 ⊢
    have x1 := s1 _ _ x0
    refine ⟨_, rfl, _, rfl, C kind.toNat, d, _, .ref (C 3), .ref (C 3), _, rfl, rfl, X.isc _ hk, x1, rfl, (fun _ r => r), X.kit _ 3 hk (by decide), _, rfl, C kind.toNat, d, _, .ref (C 4), .ref (C 4), _, rfl, rfl, X.isc _ hk, x1, rfl, (fun _ r => r), X.kit _ 4 hk (by decide), _, rfl, C kind.toNat, d, _, .ref (C 5), .ref (C 5), _, rfl, rfl, X.isc _ hk, x1, rfl, (fun _ r => r), X.kit _ 5 hk (by decide), (by show 3 ≤ sizeLine; decide), fun q0 m0 => ?_⟩
    have t0 : Same H0 (upd H1 q0 (.lst [.bl (decide (kind.toNat = 3)), .bl (decide (kind.toNat = 4)), .bl (decide (kind.toNat = 5))])) := grow s1 m0
    have k0 : upd H1 q0 (.lst [.bl (decide (kind.toNat = 3)), .bl (decide (kind.toNat = 4)), .bl (decide (kind.toNat = 5))]) q0 = some (.lst [.bl (decide (kind.toNat = 3)), .bl (decide (kind.toNat = 4)), .bl (decide (kind.toNat = 5))]) := upd_same
    have j0 : upd H1 q0 (.lst [.bl (decide (kind.toNat = 3)), .bl (decide (kind.toNat = 4)), .bl (decide (kind.toNat = 5))]) p0 = some (.lst [.bl (decide (kind.toNat = 0)), .bl (decide (kind.toNat = 1)), .bl (decide (kind.toNat = 2))]) := by rw [upd_ne (ne_of_none l0 m0)]; exact l0
    generalize upd H1 q0 (.lst [.bl (decide (kind.toNat = 3)), .bl (decide (kind.toNat = 4)), .bl (decide (kind.toNat = 5))]) = G0 at t0 k0 j0 ⊢
    refine ⟨p0, q0, _, _, rfl, rfl, j0, k0, (by show 6 ≤ sizeLine; decide), fun p1 n1 => ?_⟩
    have s2 : Same H0 (upd G0 p1 (.lst ([.bl (decide (kind.toNat = 0)), .bl (decide (kind.toNat = 1)), .bl (decide (kind.toNat = 2))] ++ [.bl (decide (kind.toNat = 3)), .bl (decide (kind.toNat = 4)), .bl (decide (kind.toNat = 5))]))) := grow t0 n1
    have l1 : upd G0 p1 (.lst ([.bl (decide (kind.toNat = 0)), .bl (decide (kind.toNat = 1)), .bl (decide (kind.toNat = 2))] ++ [.bl (decide (kind.toNat = 3)), .bl (decide (kind.toNat = 4)), .bl (decide (kind.toNat = 5))])) p1 = some (.lst [.bl (decide (kind.toNat = 0)), .bl (decide (kind.toNat = 1)), .bl (decide (kind.toNat = 2)), .bl (decide (kind.toNat = 3)), .bl (decide (kind.toNat = 4)), .bl (decide (kind.toNat = 5))]) := upd_same
    generalize upd G0 p1 (.lst ([.bl (decide (kind.toNat = 0)), .bl (decide (kind.toNat = 1)), .bl (decide (kind.toNat = 2))] ++ [.bl (decide (kind.toNat = 3)), .bl (decide (kind.toNat = 4)), .bl (decide (kind.toNat = 5))])) = H2 at s2 l1 ⊢
    have x2 := s2 _ _ x0
    refine ⟨_, rfl, _, rfl, C kind.toNat, d, _, .ref (C 6), .ref (C 6), _, rfl, rfl, X.isc _ hk, x2, rfl, (fun _ r => r), X.kit _ 6 hk (by decide), _, rfl, C kind.toNat, d, _, .ref (C 7), .ref (C 7), _, rfl, rfl, X.isc _ hk, x2, rfl, (fun _ r => r), X.kit _ 7 hk (by decide), _, rfl, C kind.toNat, d, _, .ref (C 8), .ref (C 8), _, rfl, rfl, X.isc _ hk, x2, rfl, (fun _ r => r), X.kit _ 8 hk (by decide), (by show 3 ≤ sizeLine; decide), fun q1 m1 => ?_⟩
    have t1 : Same H0 (upd H2 q1 (.lst [.bl (decide (kind.toNat = 6)), .bl (decide (kind.toNat = 7)), .bl (decide (kind.toNat = 8))])) := grow s2 m1
    have k1 : upd H2 q1 (.lst [.bl (decide (kind.toNat = 6)), .bl (decide (kind.toNat = 7)), .bl (decide (kind.toNat = 8))]) q1 = some (.lst [.bl (decide (kind.toNat = 6)), .bl (decide (kind.toNat = 7)), .bl (decide (kind.toNat = 8))]) := upd_same
    have j1 : upd H2 q1 (.lst [.bl (decide (kind.toNat = 6)), .bl (decide (kind.toNat = 7)), .bl (decide (kind.toNat = 8))]) p1 = some (.lst [.bl (decide (kind.toNat = 0)), .bl (decide (kind.toNat = 1)), .bl (decide (kind.toNat = 2)), .bl (decide (kind.toNat = 3)), .bl (decide (kind.toNat = 4)), .bl (decide (kind.toNat = 5))]) := by rw [upd_ne (ne_of_none l1 m1)]; exact l1
    generalize upd H2 q1 (.lst [.bl (decide (kind.toNat = 6)), .bl (decide (kind.toNat = 7)), .bl (decide (kind.toNat = 8))]) = G1 at t1 k1 j1 ⊢
    refine ⟨p1, q1, _, _, rfl, rfl, j1, k1, (by show 9 ≤ sizeLine; decide), fun p2 n2 => ?_⟩
    have s3 : Same H0 (upd G1 p2 (.lst ([.bl (decide (kind.toNat = 0)), .bl (decide (kind.toNat = 1)), .bl (decide (kind.toNat = 2)), .bl (decide (kind.toNat = 3)), .bl (decide (kind.toNat = 4)), .bl (decide (kind.toNat = 5))] ++ [.bl (decide (kind.toNat = 6)), .bl (decide (kind.toNat = 7)), .bl (decide (kind.toNat = 8))]))) := grow t1 n2
    have l2 : upd G1 p2 (.lst ([.bl (decide (kind.toNat = 0)), .bl (decide (kind.toNat = 1)), .bl (decide (kind.toNat = 2)), .bl (decide (kind.toNat = 3)), .bl (decide (kind.toNat = 4)), .bl (decide (kind.toNat = 5))] ++ [.bl (decide (kind.toNat = 6)), .bl (decide (kind.toNat = 7)), .bl (decide (kind.toNat = 8))])) p2 = some (.lst [.bl (decide (kind.toNat = 0)), .bl (decide (kind.toNat = 1)), .bl (decide (kind.toNat = 2)), .bl (decide (kind.toNat = 3)), .bl (decide (kind.toNat = 4)), .bl (decide (kind.toNat = 5)), .bl (decide (kind.toNat = 6)), .bl (decide (kind.toNat = 7)), .bl (decide (kind.toNat = 8))]) := upd_same
    generalize upd G1 p2 (.lst ([.bl (decide (kind.toNat = 0)), .bl (decide (kind.toNat = 1)), .bl (decide (kind.toNat = 2)), .bl (decide (kind.toNat = 3)), .bl (decide (kind.toNat = 4)), .bl (decide (kind.toNat = 5))] ++ [.bl (decide (kind.toNat = 6)), .bl (decide (kind.toNat = 7)), .bl (decide (kind.toNat = 8))])) = H3 at s3 l2 ⊢
    have x3 := s3 _ _ x0
    refine ⟨_, rfl, _, rfl, C kind.toNat, d, _, .ref (C 9), .ref (C 9), _, rfl, rfl, X.isc _ hk, x3, rfl, (fun _ r => r), X.kit _ 9 hk (by decide), _, rfl, C kind.toNat, d, _, .ref (C 10), .ref (C 10), _, rfl, rfl, X.isc _ hk, x3, rfl, (fun _ r => r), X.kit _ 10 hk (by decide), _, rfl, C kind.toNat, d, _, .ref (C 11), .ref (C 11), _, rfl, rfl, X.isc _ hk, x3, rfl, (fun _ r => r), X.kit _ 11 hk (by decide), (by show 3 ≤ sizeLine; decide), fun q2 m2 => ?_⟩
    have t2 : Same H0 (upd H3 q2 (.lst [.bl (decide (kind.toNat = 9)), .bl (decide (kind.toNat = 10)), .bl (decide (kind.toNat = 11))])) := grow s3 m2
    have k2 : upd H3 q2 (.lst [.bl (decide (kind.toNat = 9)), .bl (decide (kind.toNat = 10)), .bl (decide (kind.toNat = 11))]) q2 = some (.lst [.bl (decide (kind.toNat = 9)), .bl (decide (kind.toNat = 10)), .bl (decide (kind.toNat = 11))]) := upd_same
    have j2 : upd H3 q2 (.lst [.bl (decide (kind.toNat = 9)), .bl (decide (kind.toNat = 10)), .bl (decide (kind.toNat = 11))]) p2 = some (.lst [.bl (decide (kind.toNat = 0)), .bl (decide (kind.toNat = 1)), .bl (decide (kind.toNat = 2)), .bl (decide (kind.toNat = 3)), .bl (decide (kind.toNat = 4)), .bl (decide (kind.toNat = 5)), .bl (decide (kind.toNat = 6)), .bl (decide (kind.toNat = 7)), .bl (decide (kind.toNat = 8))]) := by rw [upd_ne (ne_of_none l2 m2)]; exact l2
    generalize upd H3 q2 (.lst [.bl (decide (kind.toNat = 9)), .bl (decide (kind.toNat = 10)), .bl (decide (kind.toNat = 11))]) = G2 at t2 k2 j2 ⊢
    refine ⟨p2, q2, _, _, rfl, rfl, j2, k2, (by show 12 ≤ sizeLine; decide), fun p3 n3 => ?_⟩
    have s4 : Same H0 (upd G2 p3 (.lst ([.bl (decide (kind.toNat = 0)), .bl (decide (kind.toNat = 1)), .bl (decide (kind.toNat = 2)), .bl (decide (kind.toNat = 3)), .bl (decide (kind.toNat = 4)), .bl (decide (kind.toNat = 5)), .bl (decide (kind.toNat = 6)), .bl (decide (kind.toNat = 7)), .bl (decide (kind.toNat = 8))] ++ [.bl (decide (kind.toNat = 9)), .bl (decide (kind.toNat = 10)), .bl (decide (kind.toNat = 11))]))) := grow t2 n3
    have l3 : upd G2 p3 (.lst ([.bl (decide (kind.toNat = 0)), .bl (decide (kind.toNat = 1)), .bl (decide (kind.toNat = 2)), .bl (decide (kind.toNat = 3)), .bl (decide (kind.toNat = 4)), .bl (decide (kind.toNat = 5)), .bl (decide (kind.toNat = 6)), .bl (decide (kind.toNat = 7)), .bl (decide (kind.toNat = 8))] ++ [.bl (decide (kind.toNat = 9)), .bl (decide (kind.toNat = 10)), .bl (decide (kind.toNat = 11))])) p3 = some (.lst [.bl (decide (kind.toNat = 0)), .bl (decide (kind.toNat = 1)), .bl (decide (kind.toNat = 2)), .bl (decide (kind.toNat = 3)), .bl (decide (kind.toNat = 4)), .bl (decide (kind.toNat = 5)), .bl (decide (kind.toNat = 6)), .bl (decide (kind.toNat = 7)), .bl (decide (kind.toNat = 8)), .bl (decide (kind.toNat = 9)), .bl (decide (kind.toNat = 10)), .bl (decide (kind.toNat = 11))]) := upd_same
    generalize upd G2 p3 (.lst ([.bl (decide (kind.toNat = 0)), .bl (decide (kind.toNat = 1)), .bl (decide (kind.toNat = 2)), .bl (decide (kind.toNat = 3)), .bl (decide (kind.toNat = 4)), .bl (decide (kind.toNat = 5)), .bl (decide (kind.toNat = 6)), .bl (decide (kind.toNat = 7)), .bl (decide (kind.toNat = 8))] ++ [.bl (decide (kind.toNat = 9)), .bl (decide (kind.toNat = 10)), .bl (decide (kind.toNat = 11))])) = H4 at s4 l3 ⊢
    have x4 := s4 _ _ x0
    refine ⟨_, rfl, _, rfl, C kind.toNat, d, _, .ref (C 12), .ref (C 12), _, rfl, rfl, X.isc _ hk, x4, rfl, (fun _ r => r), X.kit _ 12 hk (by decide), (by show 1 ≤ sizeLine; decide), fun q3 m3 => ?_⟩
    have t3 : Same H0 (upd H4 q3 (.lst [.bl (decide (kind.toNat = 12))])) := grow s4 m3
    have k3 : upd H4 q3 (.lst [.bl (decide (kind.toNat = 12))]) q3 = some (.lst [.bl (decide (kind.toNat = 12))]) := upd_same
    have j3 : upd H4 q3 (.lst [.bl (decide (kind.toNat = 12))]) p3 = some (.lst [.bl (decide (kind.toNat = 0)), .bl (decide (kind.toNat = 1)), .bl (decide (kind.toNat = 2)), .bl (decide (kind.toNat = 3)), .bl (decide (kind.toNat = 4)), .bl (decide (kind.toNat = 5)), .bl (decide (kind.toNat = 6)), .bl (decide (kind.toNat = 7)), .bl (decide (kind.toNat = 8)), .bl (decide (kind.toNat = 9)), .bl (decide (kind.toNat = 10)), .bl (decide (kind.toNat = 11))]) := by rw [upd_ne (ne_of_none l3 m3)]; exact l3
    generalize upd H4 q3 (.lst [.bl (decide (kind.toNat = 12))]) = G3 at t3 k3 j3 ⊢
    refine ⟨p3, q3, _, _, rfl, rfl, j3, k3, (by show 13 ≤ sizeLine; decide), fun p4 n4 => ?_⟩
    have s5 : Same H0 (upd G3 p4 (.lst ([.bl (decide (kind.toNat = 0)), .bl (decide (kind.toNat = 1)), .bl (decide (kind.toNat = 2)), .bl (decide (kind.toNat = 3)), .bl (decide (kind.toNat = 4)), .bl (decide (kind.toNat = 5)), .bl (decide (kind.toNat = 6)), .bl (decide (kind.toNat = 7)), .bl (decide (kind.toNat = 8)), .bl (decide (kind.toNat = 9)), .bl (decide (kind.toNat = 10)), .bl (decide (kind.toNat = 11))] ++ [.bl (decide (kind.toNat = 12))]))) := grow t3 n4
    have l4 : upd G3 p4 (.lst ([.bl (decide (kind.toNat = 0)), .bl (decide (kind.toNat = 1)), .bl (decide (kind.toNat = 2)), .bl (decide (kind.toNat = 3)), .bl (decide (kind.toNat = 4)), .bl (decide (kind.toNat = 5)), .bl (decide (kind.toNat = 6)), .bl (decide (kind.toNat = 7)), .bl (decide (kind.toNat = 8)), .bl (decide (kind.toNat = 9)), .bl (decide (kind.toNat = 10)), .bl (decide (kind.toNat = 11))] ++ [.bl (decide (kind.toNat = 12))])) p4 = some (.lst [.bl (decide (kind.toNat = 0)), .bl (decide (kind.toNat = 1)), .bl (decide (kind.toNat = 2)), .bl (decide (kind.toNat = 3)), .bl (decide (kind.toNat = 4)), .bl (decide (kind.toNat = 5)), .bl (decide (kind.toNat = 6)), .bl (decide (kind.toNat = 7)), .bl (decide (kind.toNat = 8)), .bl (decide (kind.toNat = 9)), .bl (decide (kind.toNat = 10)), .bl (decide (kind.toNat = 11)), .bl (decide (kind.toNat = 12))]) := upd_same
    generalize upd G3 p4 (.lst ([.bl (decide (kind.toNat = 0)), .bl (decide (kind.toNat = 1)), .bl (decide (kind.toNat = 2)), .bl (decide (kind.toNat = 3)), .bl (decide (kind.toNat = 4)), .bl (decide (kind.toNat = 5)), .bl (decide (kind.toNat = 6)), .bl (decide (kind.toNat = 7)), .bl (decide (kind.toNat = 8)), .bl (decide (kind.toNat = 9)), .bl (decide (kind.toNat = 10)), .bl (decide (kind.toNat = 11))] ++ [.bl (decide (kind.toNat = 12))])) = H5 at s5 l4 ⊢
    have x5 := s5 _ _ x0
    refine ⟨_, rfl, _, rfl, by decide, by decide, fun D hD => ?_⟩
    refine lc_range (lo := 0) (n := (13 : Int).toNat) (fun i H' => H' D = some (.lst ((List.range i).map fun (j : Nat) => V.bl (decide ((j : Int) = kind)))) ∧ Same H5 H') ⟨upd_same, fun c o e => by rw [upd_ne (ne_of_none e hD)]; exact e⟩ ?_ ?_
    · rintro i H' hi ⟨e1, s'⟩
      refine ⟨rfl, lc_yes ?_⟩
      refine ⟨_, rfl, _, rfl, rfl, _, e1, ?_, ?_, ?_⟩
      · rw [List.length_map, List.length_range]
        exact small1000 (by have : i < 13 := hi; omega)
      · have e2 : decide (V.int (0 + (i : Int)) = V.int kind) = decide ((i : Int) = kind) := by
          rw [Int.zero_add]
          exact decide_eq_decide.mpr ⟨fun z => V.int.inj z, fun z => by rw [z]⟩
        rw [e2, List.range_succ, List.map_append]
        exact upd_same
      · exact fun c o e => by
          have z := s' _ _ e
          rw [upd_ne (ne_of_none e hD)]
          exact z
    · rintro H' ⟨e1, s'⟩
      have hl : H' D = some (.lst [.bl (decide (kind.toNat = 0)), .bl (decide (kind.toNat = 1)), .bl (decide (kind.toNat = 2)), .bl (decide (kind.toNat = 3)), .bl (decide (kind.toNat = 4)), .bl (decide (kind.toNat = 5)), .bl (decide (kind.toNat = 6)), .bl (decide (kind.toNat = 7)), .bl (decide (kind.toNat = 8)), .bl (decide (kind.toNat = 9)), .bl (decide (kind.toNat = 10)), .bl (decide (kind.toNat = 11)), .bl (decide (kind.toNat = 12))]) := by
        rw [e1]
        have e3 : ∀ j : Nat, j < 13 → decide ((j : Int) = kind) = decide (kind.toNat = j) := fun j hj => decide_eq_decide.mpr ⟨fun z => by omega, fun z => by omega⟩
        have e4 : (List.range (13 : Int).toNat).map (fun (j : Nat) => V.bl (decide ((j : Int) = kind))) = (List.range 13).map (fun (j : Nat) => V.bl (decide (kind.toNat = j))) := by
          refine List.map_congr_left fun j hj => ?_
          rw [e3 j (List.mem_range.mp hj)]
        rw [e4]
        rfl
      refine ⟨.list [.bool (decide (kind.toNat = 0)), .bool (decide (kind.toNat = 1)), .bool (decide (kind.toNat = 2)), .bool (decide (kind.toNat = 3)), .bool (decide (kind.toNat = 4)), .bool (decide (kind.toNat = 5)), .bool (decide (kind.toNat = 6)), .bool (decide (kind.toNat = 7)), .bool (decide (kind.toNat = 8)), .bool (decide (kind.toNat = 9)), .bool (decide (kind.toNat = 10)), .bool (decide (kind.toNat = 11)), .bool (decide (kind.toNat = 12))], .list [.bool (decide (kind.toNat = 0)), .bool (decide (kind.toNat = 1)), .bool (decide (kind.toNat = 2)), .bool (decide (kind.toNat = 3)), .bool (decide (kind.toNat = 4)), .bool (decide (kind.toNat = 5)), .bool (decide (kind.toNat = 6)), .bool (decide (kind.toNat = 7)), .bool (decide (kind.toNat = 8)), .bool (decide (kind.toNat = 9)), .bool (decide (kind.toNat = 10)), .bool (decide (kind.toNat = 11)), .bool (decide (kind.toNat = 12))], .lst (SqL.of (s' _ _ l4)) (.cons (.bl _) (.cons (.bl _) (.cons (.bl _) (.cons (.bl _) (.cons (.bl _) (.cons (.bl _) (.cons (.bl _) (.cons (.bl _) (.cons (.bl _) (.cons (.bl _) (.cons (.bl _) (.cons (.bl _) (.cons (.bl _) (.nil)))))))))))))), .lst (SqL.of hl) (.cons (.bl _) (.cons (.bl _) (.cons (.bl _) (.cons (.bl _) (.cons (.bl _) (.cons (.bl _) (.cons (.bl _) (.cons (.bl _) (.cons (.bl _) (.cons (.bl _) (.cons (.bl _) (.cons (.bl _) (.cons (.bl _) (.nil)))))))))))))), rfl, rfl, _, rfl, ?_⟩
      rw [SeqAt.eqv_refl _ rfl]
      refine iteT ?_
      refine ⟨_, rfl, C kind.toNat, d, _, .ty "ValueError", .type "ValueError", _, rfl, rfl, X.isc _ hk, s' _ _ x5, rfl, (fun _ r => r), X.kitV _ hk, ?_⟩
      exact k H' (S0.trans (s5.trans s'))
end
end K1
namespace K1
open PySem PySem.Spec PyProof.Rows L2 Er
abbrev sLaw : Stmt := top 26
abbrev NLaw : List Str := ["script", "flow", "kind", "turn", "given", "at", "due"]
theorem scLaw : FnScope NLaw ["script"] (defScope sLaw) := ⟨rfl, rfl, rfl, by decide +kernel, rfl, by decide +kernel, by decide +kernel⟩
theorem if_join {c : TT} {t u t2 : TS} {D : Ends} {σ : L2.St} {H : Hp} (P : L2.St → Hp → Prop) (h2 : ∀ σ' H', P σ' H' → t2 D σ' H') (h1 : ∀ N : L2.St → Hp → Prop, (∀ σ' H', P σ' H' → N σ' H') → tIfS c t u { D with nx := N } σ H) : tSeq (tIfS c t u) t2 D σ H := h1 (t2 D) h2
def spLaw (K : PySem.W.Frag) : Sp := fun vs H Q _ => ∃ (a : Addr) (ns : List Int), vs = [.ref a] ∧ SqL K H a (ns.map V.int) ∧ ∀ H', Q (.bl true) H'
/-- the functions of the text, where they stand and how they bind -/
structure Fns (K : PySem.W.Frag) (mg : Str → Option Value) (fFlow fLoad fDraw fPick fSame fRaise fMore fKept fClasses fGiven : Addr) (dFlow dLoad dDraw dPick dSame dRaise dMore dKept dClasses dGiven : FuncData) : Prop where
  FFlow : Fun K "_law_flow" "_law_flow" sFlow fFlow dFlow
  FLoad : Fun K "_law_load" "_law_load" sLoad fLoad dLoad
  FDraw : Fun K "_law_draw" "_law_draw" sDraw fDraw dDraw
  FPick : Fun K "_law_pick" "_law_pick" sPick fPick dPick
  FSame : Fun K "_law_same" "_law_same" sSame fSame dSame
  FRaise : Fun K "_law_raise" "_law_raise" sRaise fRaise dRaise
  FMore : Fun K "_law_raise_more" "_law_raise_more" sRaiseMore fMore dMore
  FKept : Fun K "_law_kept" "_law_kept" sKept fKept dKept
  FClasses : Fun K "_law_classes" "_law_classes" sClasses fClasses dClasses
  FGiven : Fun K "_law_given" "_law_given" sGiven fGiven dGiven
  bFlow : Binds K dFlow ["script"] []
  bLoad : Binds K dLoad ["flow"] []
  bDraw : Binds K dDraw ["flow", "many"] []
  bPick : Binds K dPick ["flow", "things"] []
  bSame : Binds K dSame ["actual", "due"] []
  bRaise : Binds K dRaise ["kind", "given", "at"] []
  bMore : Binds K dMore ["kind", "given", "at"] []
  bKept : Binds K dKept ["kind", "given", "at"] []
  bClasses : Binds K dClasses ["kind", "given", "at"] []
  bGiven : Binds K dGiven ["flow", "kind"] []
  gFlow : mg "_law_flow" = some (.ref fFlow)
  gLoad : mg "_law_load" = some (.ref fLoad)
  gDraw : mg "_law_draw" = some (.ref fDraw)
  gPick : mg "_law_pick" = some (.ref fPick)
  gSame : mg "_law_same" = some (.ref fSame)
  gRaise : mg "_law_raise" = some (.ref fRaise)
  gMore : mg "_law_raise_more" = some (.ref fMore)
  gKept : mg "_law_kept" = some (.ref fKept)
  gClasses : mg "_law_classes" = some (.ref fClasses)
  gGiven : mg "_law_given" = some (.ref fGiven)
section
variable {P : Program} {w : World} {K : PySem.W.Frag} {mg : Str → Option Value} {base : Heap} {C : Nat → Addr} {cE fFlow fLoad fDraw fPick fSame fRaise fMore fKept fClasses fGiven : Addr} {dFlow dLoad dDraw dPick dSame dRaise dMore dKept dClasses dGiven : FuncData}
theorem ok_law {f : Addr} {fd : FuncData} (F : Fun K "law" "law" sLaw f fd) (b : Bt mg) (N : Fns K mg fFlow fLoad fDraw fPick fSame fRaise fMore fKept fClasses fGiven dFlow dLoad dDraw dPick dSame dRaise dMore dKept dClasses dGiven) (R : Errs P w K mg C) (X : ErrsX K C cE) (gCE : mg "CiteError" = some (.ref cE)) :
    FnOk P w K mg base CX0 6 f fd ["script"] (spLaw K) := by
  obtain ⟨FFlow, FLoad, FDraw, FPick, FSame, FRaise, FMore, FKept, FClasses, FGiven, bFlow, bLoad, bDraw, bPick, bSame, bRaise, bMore, bKept, bClasses, bGiven, gFlow, gLoad, gDraw, gPick, gSame, gRaise, gMore, gKept, gClasses, gGiven⟩ := N
  have T : Txt mg fLoad fDraw := ⟨b, gLoad, gDraw⟩
  have GFlow : FnOk P w K mg base CX0 1 fFlow dFlow ["script"] (spFlow K) := ok_Flow FFlow T
  have GDraw : FnOk P w K mg base CX0 2 fDraw dDraw ["flow", "many"] spDraw := ok_Draw FDraw T FLoad bLoad
  have GGiven : FnOk P w K mg base CX0 4 fGiven dGiven ["flow", "kind"] (spGiven K) := ok_Given FGiven T gPick FLoad bLoad FDraw bDraw FPick bPick
  have GSame : FnOk P w K mg base CX0 4 fSame dSame ["actual", "due"] (spSame K 4) := ok_Same 4 FSame T gSame bSame
  have GKept : FnOk P w K mg base CX0 5 fKept dKept ["kind", "given", "at"] spKept := ok_Kept FKept R X gMore FMore bMore gRaise FRaise bRaise
  have GClasses : FnOk P w K mg base CX0 5 fClasses dClasses ["kind", "given", "at"] spClasses := ok_Classes FClasses T R X gCE gMore FMore bMore gRaise FRaise bRaise
  refine F.ok scLaw (fun vs H Q E h => ?_) (fun cdv A outer s H vs Q E hr h => ?_)
  · obtain ⟨_, _, rfl, _⟩ := h
    rfl
  · have hrFlow : Room 1 _ := hr.mono (by decide)
    have hrDraw : Room 2 _ := hr.mono (by decide)
    have hrGiven : Room 4 _ := hr.mono (by decide)
    have hrSame : Room 4 _ := hr.mono (by decide)
    have hrKept : Room 5 _ := hr
    have hrClasses : Room 5 _ := hr
    refine ⟨_, (pss_cons (ps_set (i := 1) scLaw.nd rfl (Or.inl rfl) (pe_call GFlow hrFlow rfl gFlow FFlow.kp bFlow .nil pass0 (pa_cons (pv 0) pa_nil)))
      (pss_cons (ps_for PassesOwn.never rfl (pi_range1 (by rfl) T.b.range (pa_cons pe_int pa_nil)) (pg_name (i := 2) scLaw.nd rfl (Or.inl rfl)) (pss_one (ps_for PassesOwn.never rfl (pi_range1 (by rfl) T.b.range (pa_cons pe_int pa_nil)) (pg_name (i := 3) scLaw.nd rfl (Or.inl rfl)) (pss_cons (ps_set (i := 4) scLaw.nd rfl (Or.inl rfl) (pe_call GGiven hrGiven rfl gGiven FGiven.kp bGiven .nil pass0 (pa_cons (pv 1) (pa_cons (pv 2) pa_nil))))
      (pss_cons (ps_set (i := 5) scLaw.nd rfl (Or.inl rfl) (pe_call GDraw hrDraw rfl gDraw FDraw.kp bDraw .nil pass0 (pa_cons (pv 1) (pa_cons pe_int pa_nil))))
      (pss_cons (ps_set (i := 6) scLaw.nd rfl (Or.inl rfl) (pe_tup (pa_cons (pv 2) (pa_cons (pv 4) pa_nil))))
      (pss_cons (ps_if (pt_cmpR op_gt (pv 2) pe_int (nomark _)) (pss_one (ps_set (i := 6) scLaw.nd rfl (Or.inl rfl) (pe_tup (pa_cons (pv 2) (pa_cons (pv 4) (pa_cons (pv 5) pa_nil)))))) pss_nil)
      (pss_one (ps_if (PW.pt (pw_or (pt_not (pt_val (pe_call GSame hrSame rfl gSame FSame.kp bSame .nil pass0 (pa_cons (pe_call GKept hrKept rfl gKept FKept.kp bKept .nil pass0 (pa_cons (pv 2) (pa_cons (pv 4) (pa_cons (pv 5) pa_nil)))) (pa_cons (pv 6) pa_nil))))) (pw_or1 (pt_not (pt_val (pe_call GClasses hrClasses rfl gClasses FClasses.kp bClasses .nil pass0 (pa_cons (pv 2) (pa_cons (pv 4) (pa_cons (pv 5) pa_nil))))))))) (pss_one (ps_ret pe_bl)) pss_nil)))))))))
      (pss_one (ps_ret pe_bl)))), ?_⟩
    obtain ⟨a, ns, rfl, hS, k⟩ := h
    refine ⟨_, rfl, a, ns, rfl, hS, fun f H0 F0 _ _ => ?_⟩
    refine ⟨13, rfl, by decide, by decide, for_range (lo := 0) (n := 13) (fun i σ H' => ∃ v2 v3 v4 v5 v6 : Option V, σ = [some (.ref a), some (.ref f), v2, v3, v4, v5, v6] ∧ Flow H' f) ⟨_, _, _, _, _, rfl, F0⟩ ?_ ?_⟩
    · rintro i σ H1 hi ⟨v2, v3, v4, v5, v6, rfl, F1⟩
      refine ⟨2, rfl, by decide, by decide, for_range (lo := 0) (n := 2) (fun j σ H' => ∃ v3 v4 v5 v6 : Option V, σ = [some (.ref a), some (.ref f), some (.int (0 + i)), v3, v4, v5, v6] ∧ Flow H' f) ⟨_, _, _, _, rfl, F1⟩ ?_ ?_⟩
      · rintro j σ H2 hj ⟨v3, v4, v5, v6, rfl, F2⟩
        refine ⟨_, rfl, _, rfl, f, _, rfl, F2, fun x H3 dx F3 B3 => ?_⟩
        refine ⟨_, rfl, f, _, rfl, by decide, F3, fun r H4 _ _ _ F4 B4 => ?_⟩
        refine ⟨_, rfl, _, rfl, (by show 2 ≤ sizeLine; decide), fun p hp => ?_⟩
        have A1 := F4.alloc hp (.tup [.int (0 + i), x])
        have d1 : IsD K (hid f (upd H4 p (.tup [.int (0 + i), x]))) 2 x := SameD.mono A1.sm (SameD.mono (hid_same B4) dx)
        dsimp only [gName]
        refine if_join (fun σ' H' => ∃ q, σ' = [some (.ref a), some (.ref f), some (.int (0 + i)), some (.int (0 + j)), some x, some (.int r), some (.ref q)] ∧ H' q = some (.tup (.int (0 + i) :: keptL (0 + (i : Int)).toNat x (.int r))) ∧ Flow H' f ∧ IsD K (hid f H') 2 x) ?_ ?_
        · rintro σ' H5 ⟨q, rfl, hq, F5, d5⟩
          refine ⟨_, rfl, _, rfl, _, rfl, 0 + i, x, .int r, rfl, by omega, by omega, fun q2 H6 s6 n6 h6 => ?_⟩
          refine ⟨_, rfl, .ref q2, .ref q, rfl, ?_, fun H7 s7 => ?_⟩
          · have d6 : IsD K H6 2 x := SameD.mono s6 (SameD.mono hid_sub d5)
            have len : (V.int (0 + (i : Int)) :: keptL (0 + (i : Int)).toNat x (.int r)).length ≤ 1000 := by
              unfold keptL
              split <;> simp
            have all : ∀ y ∈ V.int (0 + (i : Int)) :: keptL (0 + (i : Int)).toNat x (.int r), IsD K H6 2 y := by
              refine all_cons (isD_flat rfl) ?_
              unfold keptL
              split
              · exact all_cons d6 all_nil
              · exact all_cons d6 (all_cons (isD_flat rfl) all_nil)
            refine .inr ⟨true, q2, q, _, _, rfl, rfl, .inl h6, .inl (s6 _ _ hq), rfl, len, fun i u v a b => ?_⟩
            rw [a] at b
            cases b
            exact all _ (List.mem_of_getElem? a)
          · refine ⟨_, rfl, ?_⟩
            show (if (!true) = true then _ else _)
            refine iteF ?_
            refine ⟨_, rfl, _, rfl, _, rfl, 0 + i, x, .int r, rfl, by omega, by omega, fun H8 s8 => ?_⟩
            refine ⟨_, rfl, ?_⟩
            show (if (!true) = true then _ else _)
            refine iteF ?_
            have F8 : Flow H8 f := by
              obtain ⟨sc, ns, i, c, l, m, o, G⟩ := F5
              have z := s6.trans (s7.trans s8)
              exact ⟨sc, ns, i, c, l, m, o, z _ _ G.f, z _ _ G.s, G.p⟩
            exact ⟨_, _, _, _, rfl, F8⟩
        · intro N hN
          refine ⟨_, rfl, _, _, rfl, rfl, _, rfl, ?_⟩
          refine ite2 (fun c => ?_) (fun c => ?_)
          · have c2 : 10 < (0 + (i : Int)) := of_decide_eq_true c
            refine ⟨_, rfl, _, rfl, _, rfl, (by show 3 ≤ sizeLine; decide), fun p2 hp2 => ?_⟩
            have A2 := A1.fl.alloc hp2 (.tup [.int (0 + i), x, .int r])
            refine hN _ _ ⟨p2, rfl, ?_, A2.fl, SameD.mono A2.sm d1⟩
            have e : keptL (0 + (i : Int)).toNat x (.int r) = [x, .int r] := if_neg (by omega)
            rw [e]
            exact upd_same
          · have c2 : ¬ 10 < (0 + (i : Int)) := fun z => c (decide_eq_true z)
            refine hN _ _ ⟨p, rfl, ?_, A1.fl, d1⟩
            have e : keptL (0 + (i : Int)).toNat x (.int r) = [x] := if_pos (by omega)
            rw [e]
            exact upd_same
      · rintro σ H2 ⟨v3, v4, v5, v6, rfl, F2⟩
        exact ⟨_, _, _, _, _, rfl, F2⟩
    · rintro σ H1 ⟨v2, v3, v4, v5, v6, rfl, F1⟩
      exact k H1
end
end K1
namespace K1
open PySem PySem.Spec PyProof.Rows L2 Er
abbrev veT : List Value := [.type "ValueError", .type "Exception", .type "BaseException", .type "object"]
/-- what the written part says of one of the classes under cE -/
structure ErK (P : Program) (K : PySem.W.Frag) (C cE fI cc cda : Addr) : Prop where
  c : ErC P K C fI cc cda
  x : XfC K C
  i : ExcC K C
  m : ∃ cd, PySem.W.clsIn K C = some cd ∧ cd.mro = .ref C :: .ref cE :: veT
theorem mroIn_of {K : PySem.W.Frag} {C : Addr} {cd : ClassData} {b : Value} (h : PySem.W.clsIn K C = some cd) (hm : cd.mro.isEmpty = false) : PySem.W.mroIn K C b = some (cd.mro.contains b) := by
  unfold PySem.W.mroIn
  rw [h, Option.bind_some, if_neg (by rw [hm]; exact Bool.false_ne_true)]
theorem ErK.sub {P : Program} {K : PySem.W.Frag} {C cE fI cc cda : Addr} (E : ErK P K C cE fI cc cda) (b : Value) : PySem.W.subIn K (.ref C) b = some ((.ref C :: .ref cE :: veT).contains b) := by
  obtain ⟨cd, h, e⟩ := E.m
  have z := mroIn_of (b := b) h (by rw [e]; rfl)
  rw [e] at z
  exact z
theorem ErK.subRef {P : Program} {K : PySem.W.Frag} {C cE fI cc cda D : Addr} (E : ErK P K C cE fI cc cda) (h : D ≠ cE) : PySem.W.subIn K (.ref C) (.ref D) = some (decide (C = D)) := by
  rw [E.sub]
  have e1 : (Value.ref D == Value.ref cE) = false := by simpa using h
  have e2 : (Value.ref D == Value.ref C) = decide (C = D) := by
    by_cases e : C = D
    · subst e
      simp
    · have e' : ¬ D = C := fun z => e z.symm
      simp [e, e']
  have e3 : (decide (D = C) || decide (D = cE)) = decide (C = D) := by
    rw [decide_eq_false h, Bool.or_false]
    exact decide_eq_decide.mpr ⟨Eq.symm, Eq.symm⟩
  simp [List.contains_cons, e1, e2, veT, e3]
theorem kit_ref {K : PySem.W.Frag} {C D : Addr} {b : Bool} (hb : b = true ∨ C ≠ D) (hc : (PySem.W.clsIn K D).isSome = true) (ht : PySem.W.typeIn K (.ref D) = some (.type "type")) (hs : PySem.W.subIn K (.ref C) (.ref D) = some b) : PySem.W.kitOne K (.ref C) (.ref D) = some b := by
  unfold PySem.W.kitOne
  by_cases e : C = D
  · rw [if_pos (by simp [e])]
    rcases hb with rfl | hb
    · rfl
    · exact absurd e hb
  · rw [if_neg (by simpa using e)]
    show (if ((PySem.W.clsIn K D).isSome && PySem.W.typeIn K (.ref D) == some (.type "type")) = true then PySem.W.subIn K (.ref C) (.ref D) else none) = some b
    rw [hc, ht]
    exact hs
/-- the thirteen together -/
theorem errsX {P : Program} {K : PySem.W.Frag} {C : Nat → Addr} {cE : Addr} (h : ∀ i : Nat, i < 13 → ∃ f cc cda, ErK P K (C i) cE f cc cda) (inj : ∀ i j : Nat, i < 13 → j < 13 → C i = C j → i = j) (ne : ∀ i : Nat, i < 13 → C i ≠ cE)
    (bE : PySem.W.subIn K (.ref cE) (.type "BaseException") = some true) (dE : PySem.W.hasDictIn K cE = true) (tE : PySem.W.typeIn K (.ref cE) = some (.type "type"))
    (no0 : PySem.W.findIn K (.ref (C 0)) "value" = some none)
    (no1 : PySem.W.findIn K (.ref (C 1)) "value" = some none)
    (no2 : PySem.W.findIn K (.ref (C 2)) "value" = some none)
    (no3 : PySem.W.findIn K (.ref (C 3)) "value" = some none)
    (no4 : PySem.W.findIn K (.ref (C 4)) "value" = some none)
    (no5 : PySem.W.findIn K (.ref (C 5)) "value" = some none)
    (no6 : PySem.W.findIn K (.ref (C 6)) "value" = some none)
    (no7 : PySem.W.findIn K (.ref (C 7)) "value" = some none)
    (no8 : PySem.W.findIn K (.ref (C 8)) "claim" = some none)
    (no9 : PySem.W.findIn K (.ref (C 9)) "word" = some none)
    (no10 : PySem.W.findIn K (.ref (C 10)) "what" = some none)
    (no11 : PySem.W.findIn K (.ref (C 11)) "text" = some none)
    (no12 : PySem.W.findIn K (.ref (C 12)) "line" = some none)
    (no11at : PySem.W.findIn K (.ref (C 11)) "at" = some none)
    (no12at : PySem.W.findIn K (.ref (C 12)) "at" = some none)
    : ErrsX K C cE := by
  have dec : ∀ i j : Nat, i < 13 → j < 13 → decide (C i = C j) = decide (i = j) := fun i j hi hj => decide_eq_decide.mpr ⟨inj i j hi hj, fun z => by rw [z]⟩
  have sub : ∀ i j : Nat, i < 13 → j < 13 → PySem.W.subIn K (.ref (C i)) (.ref (C j)) = some (decide (i = j)) := fun i j hi hj => by
    obtain ⟨_, _, _, E⟩ := h i hi
    rw [E.subRef (ne j hj), dec i j hi hj]
  refine { xf := fun i hi => ?_, exm := fun i j hi hj => ?_, exE := fun i hi => ?_, kit := fun i j hi hj => ?_, kitV := fun i hi => ?_, isc := fun i hi => ?_, no0 := no0, no1 := no1, no2 := no2, no3 := no3, no4 := no4, no5 := no5, no6 := no6, no7 := no7, no8 := no8, no9 := no9, no10 := no10, no11 := no11, no12 := no12, no11at := no11at, no12at := no12at }
  · obtain ⟨_, _, _, E⟩ := h i hi
    exact E.x
  · obtain ⟨_, _, _, E⟩ := h j hj
    exact PySem.W.exm_ref E.c.exc E.c.own E.c.typ (sub i j hi hj)
  · obtain ⟨_, _, _, E⟩ := h i hi
    refine PySem.W.exm_ref bE dE tE ?_
    rw [E.sub]
    simp [List.contains_cons]
  · obtain ⟨_, _, _, E⟩ := h j hj
    refine kit_ref ?_ ?_ E.c.typ (sub i j hi hj)
    · by_cases e : i = j
      · exact .inl (decide_eq_true e)
      · exact .inr fun z => e (inj i j hi hj z)
    · obtain ⟨cd, z, _⟩ := E.m
      rw [z]
      rfl
  · obtain ⟨_, _, _, E⟩ := h i hi
    have z : PySem.W.kitMeta "ValueError" = true := by decide +kernel
    unfold PySem.W.kitOne
    rw [if_neg (by simp)]
    show (if PySem.W.kitMeta "ValueError" = true then PySem.W.subIn K (.ref (C i)) (.type "ValueError") else none) = some true
    rw [if_pos z]
    exact E.c.val
  · obtain ⟨_, _, _, E⟩ := h i hi
    exact E.i
theorem erF_one {P : Program} {w : World} {K : PySem.W.Frag} {mg : Str → Option Value} {x f : Str} {C fI cc cda : Addr} (g : mg x = some (.ref C)) (s : mg "super" = none) (T : ErC P K C fI cc cda)
    (hi : ∀ u, Inits P w K mg C fI [u] (fun y => if y = f then some u else none)) : ErF P w K mg x C (one f) := by
  refine ⟨g, s, fI, cc, cda, T, fun vs us fs r h => ?_⟩
  cases r with
  | nil => cases h
  | cons r1 r2 =>
    cases r2 with
    | nil =>
      cases h
      exact ⟨by simp, _, hi _, fun y => relO_put (fs := []) (mA := fun _ => none) r1 (fun _ => True.intro) y⟩
    | cons _ _ => cases h
theorem erF_two {P : Program} {w : World} {K : PySem.W.Frag} {mg : Str → Option Value} {x f g : Str} {C fI cc cda : Addr} (gl : mg x = some (.ref C)) (s : mg "super" = none) (T : ErC P K C fI cc cda)
    (hi : ∀ u v, Inits P w K mg C fI [u, v] (fun y => if y = g then some v else if y = f then some u else none)) : ErF P w K mg x C (two f g) := by
  refine ⟨gl, s, fI, cc, cda, T, fun vs us fs r h => ?_⟩
  cases r with
  | nil => cases h
  | cons r1 r2 =>
    cases r2 with
    | nil => cases h
    | cons r3 r4 =>
      cases r4 with
      | nil =>
        cases h
        exact ⟨by simp, _, hi _ _, fun y => relO_put r3 (fun z => relO_put (fs := []) (mA := fun _ => none) r1 (fun _ => True.intro) z) y⟩
      | cons _ _ => cases h
theorem inits0 {w : World} {K : PySem.W.Frag} {mg : Str → Option Value} {C fI cc cda : Addr} {kV doc pm ct oc : Value} {an od : Option Addr} {osl : Array (Option Value)} (T : ErC PySem.Challenge.pw_ibidem_k01_errors K C fI cc cda) (no_value : PySem.W.findIn K (.ref C) "value" = some none)
    (lk : K.lookup fI = some ⟨oc, od, .func (PySem.W.ksFn "__init__" "InvalidBook.__init__" (defArgs (inClass (top 2) 0)) (defBody (inClass (top 2) 0)) (defScope (inClass (top 2) 0)) .none kV doc pm an (.ref cda) ct cc), osl⟩) (cd : PySem.W.codeIn K (.ref cda) "InvalidBook.__init__" = true) (u : Value) : Inits PySem.Challenge.pw_ibidem_k01_errors w K mg C fI [u] (fun y => if y = "value" then some u else none) :=
  fun _ _ _ _ _ X M lim ox out room go => init_value T no_value lk cd X M lim ox out room (fun _ => ⟨_, rfl⟩) go
theorem inits1 {w : World} {K : PySem.W.Frag} {mg : Str → Option Value} {C fI cc cda : Addr} {kV doc pm ct oc : Value} {an od : Option Addr} {osl : Array (Option Value)} (T : ErC PySem.Challenge.pw_ibidem_k01_errors K C fI cc cda) (no_value : PySem.W.findIn K (.ref C) "value" = some none)
    (lk : K.lookup fI = some ⟨oc, od, .func (PySem.W.ksFn "__init__" "InvalidList.__init__" (defArgs (inClass (top 3) 0)) (defBody (inClass (top 3) 0)) (defScope (inClass (top 3) 0)) .none kV doc pm an (.ref cda) ct cc), osl⟩) (cd : PySem.W.codeIn K (.ref cda) "InvalidList.__init__" = true) (u : Value) : Inits PySem.Challenge.pw_ibidem_k01_errors w K mg C fI [u] (fun y => if y = "value" then some u else none) :=
  fun _ _ _ _ _ X M lim ox out room go => init_value T no_value lk cd X M lim ox out room (fun _ => ⟨_, rfl⟩) go
theorem inits2 {w : World} {K : PySem.W.Frag} {mg : Str → Option Value} {C fI cc cda : Addr} {kV doc pm ct oc : Value} {an od : Option Addr} {osl : Array (Option Value)} (T : ErC PySem.Challenge.pw_ibidem_k01_errors K C fI cc cda) (no_value : PySem.W.findIn K (.ref C) "value" = some none)
    (lk : K.lookup fI = some ⟨oc, od, .func (PySem.W.ksFn "__init__" "InvalidStyle.__init__" (defArgs (inClass (top 4) 0)) (defBody (inClass (top 4) 0)) (defScope (inClass (top 4) 0)) .none kV doc pm an (.ref cda) ct cc), osl⟩) (cd : PySem.W.codeIn K (.ref cda) "InvalidStyle.__init__" = true) (u : Value) : Inits PySem.Challenge.pw_ibidem_k01_errors w K mg C fI [u] (fun y => if y = "value" then some u else none) :=
  fun _ _ _ _ _ X M lim ox out room go => init_value T no_value lk cd X M lim ox out room (fun _ => ⟨_, rfl⟩) go
theorem inits3 {w : World} {K : PySem.W.Frag} {mg : Str → Option Value} {C fI cc cda : Addr} {kV doc pm ct oc : Value} {an od : Option Addr} {osl : Array (Option Value)} (T : ErC PySem.Challenge.pw_ibidem_k01_errors K C fI cc cda) (no_value : PySem.W.findIn K (.ref C) "value" = some none)
    (lk : K.lookup fI = some ⟨oc, od, .func (PySem.W.ksFn "__init__" "InvalidLetters.__init__" (defArgs (inClass (top 5) 0)) (defBody (inClass (top 5) 0)) (defScope (inClass (top 5) 0)) .none kV doc pm an (.ref cda) ct cc), osl⟩) (cd : PySem.W.codeIn K (.ref cda) "InvalidLetters.__init__" = true) (u : Value) : Inits PySem.Challenge.pw_ibidem_k01_errors w K mg C fI [u] (fun y => if y = "value" then some u else none) :=
  fun _ _ _ _ _ X M lim ox out room go => init_value T no_value lk cd X M lim ox out room (fun _ => ⟨_, rfl⟩) go
theorem inits4 {w : World} {K : PySem.W.Frag} {mg : Str → Option Value} {C fI cc cda : Addr} {kV doc pm ct oc : Value} {an od : Option Addr} {osl : Array (Option Value)} (T : ErC PySem.Challenge.pw_ibidem_k01_errors K C fI cc cda) (no_value : PySem.W.findIn K (.ref C) "value" = some none)
    (lk : K.lookup fI = some ⟨oc, od, .func (PySem.W.ksFn "__init__" "InvalidNumber.__init__" (defArgs (inClass (top 7) 0)) (defBody (inClass (top 7) 0)) (defScope (inClass (top 7) 0)) .none kV doc pm an (.ref cda) ct cc), osl⟩) (cd : PySem.W.codeIn K (.ref cda) "InvalidNumber.__init__" = true) (u : Value) : Inits PySem.Challenge.pw_ibidem_k01_errors w K mg C fI [u] (fun y => if y = "value" then some u else none) :=
  fun _ _ _ _ _ X M lim ox out room go => init_value T no_value lk cd X M lim ox out room (fun _ => ⟨_, rfl⟩) go
theorem inits5 {w : World} {K : PySem.W.Frag} {mg : Str → Option Value} {C fI cc cda : Addr} {kV doc pm ct oc : Value} {an od : Option Addr} {osl : Array (Option Value)} (T : ErC PySem.Challenge.pw_ibidem_k01_errors K C fI cc cda) (no_value : PySem.W.findIn K (.ref C) "value" = some none)
    (lk : K.lookup fI = some ⟨oc, od, .func (PySem.W.ksFn "__init__" "InvalidMarks.__init__" (defArgs (inClass (top 8) 0)) (defBody (inClass (top 8) 0)) (defScope (inClass (top 8) 0)) .none kV doc pm an (.ref cda) ct cc), osl⟩) (cd : PySem.W.codeIn K (.ref cda) "InvalidMarks.__init__" = true) (u : Value) : Inits PySem.Challenge.pw_ibidem_k01_errors w K mg C fI [u] (fun y => if y = "value" then some u else none) :=
  fun _ _ _ _ _ X M lim ox out room go => init_value T no_value lk cd X M lim ox out room (fun _ => ⟨_, rfl⟩) go
theorem inits6 {w : World} {K : PySem.W.Frag} {mg : Str → Option Value} {C fI cc cda : Addr} {kV doc pm ct oc : Value} {an od : Option Addr} {osl : Array (Option Value)} (T : ErC PySem.Challenge.pw_ibidem_k01_errors K C fI cc cda) (no_value : PySem.W.findIn K (.ref C) "value" = some none)
    (lk : K.lookup fI = some ⟨oc, od, .func (PySem.W.ksFn "__init__" "InvalidParts.__init__" (defArgs (inClass (top 9) 0)) (defBody (inClass (top 9) 0)) (defScope (inClass (top 9) 0)) .none kV doc pm an (.ref cda) ct cc), osl⟩) (cd : PySem.W.codeIn K (.ref cda) "InvalidParts.__init__" = true) (u : Value) : Inits PySem.Challenge.pw_ibidem_k01_errors w K mg C fI [u] (fun y => if y = "value" then some u else none) :=
  fun _ _ _ _ _ X M lim ox out room go => init_value T no_value lk cd X M lim ox out room (fun _ => ⟨_, rfl⟩) go
theorem inits7 {w : World} {K : PySem.W.Frag} {mg : Str → Option Value} {C fI cc cda : Addr} {kV doc pm ct oc : Value} {an od : Option Addr} {osl : Array (Option Value)} (T : ErC PySem.Challenge.pw_ibidem_k01_errors K C fI cc cda) (no_value : PySem.W.findIn K (.ref C) "value" = some none)
    (lk : K.lookup fI = some ⟨oc, od, .func (PySem.W.ksFn "__init__" "InvalidClaim.__init__" (defArgs (inClass (top 10) 0)) (defBody (inClass (top 10) 0)) (defScope (inClass (top 10) 0)) .none kV doc pm an (.ref cda) ct cc), osl⟩) (cd : PySem.W.codeIn K (.ref cda) "InvalidClaim.__init__" = true) (u : Value) : Inits PySem.Challenge.pw_ibidem_k01_errors w K mg C fI [u] (fun y => if y = "value" then some u else none) :=
  fun _ _ _ _ _ X M lim ox out room go => init_value T no_value lk cd X M lim ox out room (fun _ => ⟨_, rfl⟩) go
theorem inits8 {w : World} {K : PySem.W.Frag} {mg : Str → Option Value} {C fI cc cda : Addr} {kV doc pm ct oc : Value} {an od : Option Addr} {osl : Array (Option Value)} (T : ErC PySem.Challenge.pw_ibidem_k01_errors K C fI cc cda) (no_claim : PySem.W.findIn K (.ref C) "claim" = some none)
    (lk : K.lookup fI = some ⟨oc, od, .func (PySem.W.ksFn "__init__" "Refused.__init__" (defArgs (inClass (top 11) 0)) (defBody (inClass (top 11) 0)) (defScope (inClass (top 11) 0)) .none kV doc pm an (.ref cda) ct cc), osl⟩) (cd : PySem.W.codeIn K (.ref cda) "Refused.__init__" = true) (u : Value) : Inits PySem.Challenge.pw_ibidem_k01_errors w K mg C fI [u] (fun y => if y = "claim" then some u else none) :=
  fun _ _ _ _ _ X M lim ox out room go => init_claim T no_claim lk cd X M lim ox out room (fun _ => ⟨_, rfl⟩) go
theorem inits9 {w : World} {K : PySem.W.Frag} {mg : Str → Option Value} {C fI cc cda : Addr} {kV doc pm ct oc : Value} {an od : Option Addr} {osl : Array (Option Value)} (T : ErC PySem.Challenge.pw_ibidem_k01_errors K C fI cc cda) (no_word : PySem.W.findIn K (.ref C) "word" = some none)
    (lk : K.lookup fI = some ⟨oc, od, .func (PySem.W.ksFn "__init__" "NothingToUndo.__init__" (defArgs (inClass (top 13) 0)) (defBody (inClass (top 13) 0)) (defScope (inClass (top 13) 0)) .none kV doc pm an (.ref cda) ct cc), osl⟩) (cd : PySem.W.codeIn K (.ref cda) "NothingToUndo.__init__" = true) (u : Value) : Inits PySem.Challenge.pw_ibidem_k01_errors w K mg C fI [u] (fun y => if y = "word" then some u else none) :=
  fun _ _ _ _ _ X M lim ox out room go => init_word T no_word lk cd X M lim ox out room (fun _ => ⟨_, rfl⟩) go
theorem inits10 {w : World} {K : PySem.W.Frag} {mg : Str → Option Value} {C fI cc cda : Addr} {kV doc pm ct oc : Value} {an od : Option Addr} {osl : Array (Option Value)} (T : ErC PySem.Challenge.pw_ibidem_k01_errors K C fI cc cda) (no_what : PySem.W.findIn K (.ref C) "what" = some none)
    (lk : K.lookup fI = some ⟨oc, od, .func (PySem.W.ksFn "__init__" "Undefined.__init__" (defArgs (inClass (top 14) 0)) (defBody (inClass (top 14) 0)) (defScope (inClass (top 14) 0)) .none kV doc pm an (.ref cda) ct cc), osl⟩) (cd : PySem.W.codeIn K (.ref cda) "Undefined.__init__" = true) (u : Value) : Inits PySem.Challenge.pw_ibidem_k01_errors w K mg C fI [u] (fun y => if y = "what" then some u else none) :=
  fun _ _ _ _ _ X M lim ox out room go => init_what T no_what lk cd X M lim ox out room (fun _ => ⟨_, rfl⟩) go
theorem inits11 {w : World} {K : PySem.W.Frag} {mg : Str → Option Value} {C fI cc cda : Addr} {kV doc pm ct oc : Value} {an od : Option Addr} {osl : Array (Option Value)} (T : ErC PySem.Challenge.pw_ibidem_k01_errors K C fI cc cda) (no_text : PySem.W.findIn K (.ref C) "text" = some none) (no_at : PySem.W.findIn K (.ref C) "at" = some none)
    (lk : K.lookup fI = some ⟨oc, od, .func (PySem.W.ksFn "__init__" "InvalidText.__init__" (defArgs (inClass (top 6) 0)) (defBody (inClass (top 6) 0)) (defScope (inClass (top 6) 0)) .none kV doc pm an (.ref cda) ct cc), osl⟩) (cd : PySem.W.codeIn K (.ref cda) "InvalidText.__init__" = true) (u v : Value) : Inits PySem.Challenge.pw_ibidem_k01_errors w K mg C fI [u, v] (fun y => if y = "at" then some v else if y = "text" then some u else none) :=
  fun _ _ _ _ _ X M lim ox out room go => init_text_at T no_text no_at lk cd X M lim ox out room (fun _ => ⟨_, rfl⟩) go
theorem inits12 {w : World} {K : PySem.W.Frag} {mg : Str → Option Value} {C fI cc cda : Addr} {kV doc pm ct oc : Value} {an od : Option Addr} {osl : Array (Option Value)} (T : ErC PySem.Challenge.pw_ibidem_k01_errors K C fI cc cda) (no_line : PySem.W.findIn K (.ref C) "line" = some none) (no_at : PySem.W.findIn K (.ref C) "at" = some none)
    (lk : K.lookup fI = some ⟨oc, od, .func (PySem.W.ksFn "__init__" "InvalidLine.__init__" (defArgs (inClass (top 12) 0)) (defBody (inClass (top 12) 0)) (defScope (inClass (top 12) 0)) .none kV doc pm an (.ref cda) ct cc), osl⟩) (cd : PySem.W.codeIn K (.ref cda) "InvalidLine.__init__" = true) (u v : Value) : Inits PySem.Challenge.pw_ibidem_k01_errors w K mg C fI [u, v] (fun y => if y = "at" then some v else if y = "line" then some u else none) :=
  fun _ _ _ _ _ X M lim ox out room go => init_line_at T no_line no_at lk cd X M lim ox out room (fun _ => ⟨_, rfl⟩) go
end K1
namespace K1
open PySem PySem.Spec PyProof.Rows L2 Er
abbrev Pr : Program := PySem.Challenge.pw_ibidem_k01_errors
theorem erK {K : PySem.W.Frag} {C cE fI cc cda : Addr} {nm qn : Str} {N : Addr} {bs : List Value} {sn : List Str} {sub : List Value} {ab : Bool} {col : Option Bool} {dd : Option Addr} {p0 p1 p2 p3 p5 : Option Value}
    {xa ya : Value} {xb yb : Option Addr} {xc yc : Array (Option Value)} {vs : Array Value} {file : Str} {tf : Tok}
    (x : K.lookup C = some (excClassObj nm qn C N bs (.ref cE :: veT) true sn sub ab col dd p0 p1 p2 p3 p5 "ValueError.__new__"))
    (sa : PySem.W.findIn K (.ref C) "__setattr__" = some (some (.builtin "object.__setattr__"))) (ga : PySem.W.findIn K (.ref C) "__getattribute__" = some (some (.builtin "BaseException.__getattribute__"))) (gg : PySem.W.findIn K (.ref C) "__getattr__" = some none)
    (ha : PySem.W.findIn K (.ref C) "__class__" = some (some (.builtin "object.__class__"))) (ini : PySem.W.findIn K (.ref C) "__init__" = some (some (.ref fI))) (fn : PySem.W.typeIn K (.ref fI) = some (.type "function")) (kp : PySem.W.keepIn K (.ref C) = true) (ty : PySem.W.typeIn K (.ref C) = some (.type "type"))
    (hd : PySem.W.hasDictIn K C = true) (su : PySem.W.ks_superIn K C C "__init__" = some (some (.builtin "ValueError.__init__"))) (ce : K.lookup cc = some ⟨xa, xb, .cell (some (.ref C)), xc⟩) (cd : K.lookup cda = some ⟨ya, yb, .fields vs, yc⟩) (vf : vs[2]? = some (.str file tf)) (ff : ((Pr.main.file : Str) == file) = true)
    (third : PySem.W.nsIn K cStatics "thirdparty.any" = some none) (spc : PySem.W.specialIn K (.builtin "object.__class__") "__get__" = some (some (.builtin "getset_descriptor.__get__"))) (tkc : PySem.W.takesIn K (.builtin "object.__class__") = some true) : ErK Pr K C cE fI cc cda := by
  have hcl : PySem.W.clsIn K C = some { name := nm, bases := bs, mro := .ref C :: .ref cE :: veT, ns := N, qualname := qn, hasDict := true, slotNames := sn, subclasses := sub, abstract := ab, collection := col, hasDel := false } := by
    unfold PySem.W.clsIn
    rw [x] <;> rfl
  have sb : ∀ b : Value, PySem.W.mroIn K C b = some ((Value.ref C :: .ref cE :: veT).contains b) := fun b => mroIn_of (b := b) hcl rfl
  have sb' : ∀ b : Value, (Value.ref C :: .ref cE :: veT).contains b = true → PySem.W.subIn K (.ref C) b = some true := fun b hb => by
    have z := sb b
    rw [hb] at z
    exact z
  have cO : ∀ T ∈ veT, (Value.ref C :: .ref cE :: veT).contains T = true := fun T hT => by
    rw [List.contains_iff_mem]
    exact List.mem_cons_of_mem _ (List.mem_cons_of_mem _ hT)
  have e1 := sb' (.type "BaseException") (cO _ (by simp))
  have e2 := sb' (.type "ValueError") (cO _ (by simp))
  have e3 := sb' (.type "object") (cO _ (by simp))
  have e4 := sb' (.ref C) (by simp)
  exact { c := ⟨⟨nm, qn, N, bs, _, sn, sub, ab, col, dd, p0, p1, p2, p3, p5, x, rfl⟩, sa, ini, fn, kp, e1, e2, ty, hd, e4, su, third, ⟨_, _, _, ce⟩, ⟨_, _, _, _, file, tf, cd, vf, ff⟩, by decide +kernel⟩
          x := ⟨ga, gg, e1, hd⟩
          i := ⟨ga, gg, e1, hd, ha, spc, tkc, e3⟩
          m := ⟨_, hcl, rfl⟩ }
theorem nd_inj {l : List Addr} (h : l.Nodup) {i j : Nat} (hi : i < l.length) (hj : j < l.length) (e : l.getD i 0 = l.getD j 0) : i = j := by
  have a : l[i]? = some (l.getD i 0) := by rw [List.getD_eq_getElem?_getD, List.getElem?_eq_getElem hi]; rfl
  have b : l[j]? = some (l.getD j 0) := by rw [List.getD_eq_getElem?_getD, List.getElem?_eq_getElem hj]; rfl
  rw [e] at a
  exact nd_ix h a b
theorem all_mk {w : World} {K : PySem.W.Frag} {h : Heap} {mg : Str → Option Value} (X : K.In h) (G : h.Ns mainGlobals mg) {fa cE c0 c1 c2 c3 c4 c5 c6 c7 c8 c9 c10 c11 c12 i0 i1 i2 i3 i4 i5 i6 i7 i8 i9 i10 i11 i12 u0 u1 u2 u3 u4 u5 u6 u7 u8 u9 u10 u11 u12 v0 v1 v2 v3 v4 v5 v6 v7 v8 v9 v10 v11 v12 fFlow fLoad fDraw fPick fSame fRaise fRaiseMore fKept fClasses fGiven fLaw : Addr}
    {nm0 qn0 : Str} {N0 : Addr} {bs0 : List Value} {sn0 : List Str} {sub0 : List Value} {ab0 : Bool} {col0 : Option Bool} {dd0 : Option Addr} {p00 p10 p20 p30 p50 : Option Value}
    {kV0 doc0 pm0 ct0 oc0 xa0 ya0 : Value} {an0 od0 xb0 yb0 : Option Addr} {osl0 xc0 yc0 : Array (Option Value)} {vs0 : Array Value} {file0 : Str} {tf0 : Tok}
    {nm1 qn1 : Str} {N1 : Addr} {bs1 : List Value} {sn1 : List Str} {sub1 : List Value} {ab1 : Bool} {col1 : Option Bool} {dd1 : Option Addr} {p01 p11 p21 p31 p51 : Option Value}
    {kV1 doc1 pm1 ct1 oc1 xa1 ya1 : Value} {an1 od1 xb1 yb1 : Option Addr} {osl1 xc1 yc1 : Array (Option Value)} {vs1 : Array Value} {file1 : Str} {tf1 : Tok}
    {nm2 qn2 : Str} {N2 : Addr} {bs2 : List Value} {sn2 : List Str} {sub2 : List Value} {ab2 : Bool} {col2 : Option Bool} {dd2 : Option Addr} {p02 p12 p22 p32 p52 : Option Value}
    {kV2 doc2 pm2 ct2 oc2 xa2 ya2 : Value} {an2 od2 xb2 yb2 : Option Addr} {osl2 xc2 yc2 : Array (Option Value)} {vs2 : Array Value} {file2 : Str} {tf2 : Tok}
    {nm3 qn3 : Str} {N3 : Addr} {bs3 : List Value} {sn3 : List Str} {sub3 : List Value} {ab3 : Bool} {col3 : Option Bool} {dd3 : Option Addr} {p03 p13 p23 p33 p53 : Option Value}
    {kV3 doc3 pm3 ct3 oc3 xa3 ya3 : Value} {an3 od3 xb3 yb3 : Option Addr} {osl3 xc3 yc3 : Array (Option Value)} {vs3 : Array Value} {file3 : Str} {tf3 : Tok}
    {nm4 qn4 : Str} {N4 : Addr} {bs4 : List Value} {sn4 : List Str} {sub4 : List Value} {ab4 : Bool} {col4 : Option Bool} {dd4 : Option Addr} {p04 p14 p24 p34 p54 : Option Value}
    {kV4 doc4 pm4 ct4 oc4 xa4 ya4 : Value} {an4 od4 xb4 yb4 : Option Addr} {osl4 xc4 yc4 : Array (Option Value)} {vs4 : Array Value} {file4 : Str} {tf4 : Tok}
    {nm5 qn5 : Str} {N5 : Addr} {bs5 : List Value} {sn5 : List Str} {sub5 : List Value} {ab5 : Bool} {col5 : Option Bool} {dd5 : Option Addr} {p05 p15 p25 p35 p55 : Option Value}
    {kV5 doc5 pm5 ct5 oc5 xa5 ya5 : Value} {an5 od5 xb5 yb5 : Option Addr} {osl5 xc5 yc5 : Array (Option Value)} {vs5 : Array Value} {file5 : Str} {tf5 : Tok}
    {nm6 qn6 : Str} {N6 : Addr} {bs6 : List Value} {sn6 : List Str} {sub6 : List Value} {ab6 : Bool} {col6 : Option Bool} {dd6 : Option Addr} {p06 p16 p26 p36 p56 : Option Value}
    {kV6 doc6 pm6 ct6 oc6 xa6 ya6 : Value} {an6 od6 xb6 yb6 : Option Addr} {osl6 xc6 yc6 : Array (Option Value)} {vs6 : Array Value} {file6 : Str} {tf6 : Tok}
    {nm7 qn7 : Str} {N7 : Addr} {bs7 : List Value} {sn7 : List Str} {sub7 : List Value} {ab7 : Bool} {col7 : Option Bool} {dd7 : Option Addr} {p07 p17 p27 p37 p57 : Option Value}
    {kV7 doc7 pm7 ct7 oc7 xa7 ya7 : Value} {an7 od7 xb7 yb7 : Option Addr} {osl7 xc7 yc7 : Array (Option Value)} {vs7 : Array Value} {file7 : Str} {tf7 : Tok}
    {nm8 qn8 : Str} {N8 : Addr} {bs8 : List Value} {sn8 : List Str} {sub8 : List Value} {ab8 : Bool} {col8 : Option Bool} {dd8 : Option Addr} {p08 p18 p28 p38 p58 : Option Value}
    {kV8 doc8 pm8 ct8 oc8 xa8 ya8 : Value} {an8 od8 xb8 yb8 : Option Addr} {osl8 xc8 yc8 : Array (Option Value)} {vs8 : Array Value} {file8 : Str} {tf8 : Tok}
    {nm9 qn9 : Str} {N9 : Addr} {bs9 : List Value} {sn9 : List Str} {sub9 : List Value} {ab9 : Bool} {col9 : Option Bool} {dd9 : Option Addr} {p09 p19 p29 p39 p59 : Option Value}
    {kV9 doc9 pm9 ct9 oc9 xa9 ya9 : Value} {an9 od9 xb9 yb9 : Option Addr} {osl9 xc9 yc9 : Array (Option Value)} {vs9 : Array Value} {file9 : Str} {tf9 : Tok}
    {nm10 qn10 : Str} {N10 : Addr} {bs10 : List Value} {sn10 : List Str} {sub10 : List Value} {ab10 : Bool} {col10 : Option Bool} {dd10 : Option Addr} {p010 p110 p210 p310 p510 : Option Value}
    {kV10 doc10 pm10 ct10 oc10 xa10 ya10 : Value} {an10 od10 xb10 yb10 : Option Addr} {osl10 xc10 yc10 : Array (Option Value)} {vs10 : Array Value} {file10 : Str} {tf10 : Tok}
    {nm11 qn11 : Str} {N11 : Addr} {bs11 : List Value} {sn11 : List Str} {sub11 : List Value} {ab11 : Bool} {col11 : Option Bool} {dd11 : Option Addr} {p011 p111 p211 p311 p511 : Option Value}
    {kV11 doc11 pm11 ct11 oc11 xa11 ya11 : Value} {an11 od11 xb11 yb11 : Option Addr} {osl11 xc11 yc11 : Array (Option Value)} {vs11 : Array Value} {file11 : Str} {tf11 : Tok}
    {nm12 qn12 : Str} {N12 : Addr} {bs12 : List Value} {sn12 : List Str} {sub12 : List Value} {ab12 : Bool} {col12 : Option Bool} {dd12 : Option Addr} {p012 p112 p212 p312 p512 : Option Value}
    {kV12 doc12 pm12 ct12 oc12 xa12 ya12 : Value} {an12 od12 xb12 yb12 : Option Addr} {osl12 xc12 yc12 : Array (Option Value)} {vs12 : Array Value} {file12 : Str} {tf12 : Tok}
    {odFlow anFlow : Option Addr} {slFlow : Array (Option Value)} {ocFlow kVFlow dcFlow pmFlow cdFlow ctFlow : Value}
    {odLoad anLoad : Option Addr} {slLoad : Array (Option Value)} {ocLoad kVLoad dcLoad pmLoad cdLoad ctLoad : Value}
    {odDraw anDraw : Option Addr} {slDraw : Array (Option Value)} {ocDraw kVDraw dcDraw pmDraw cdDraw ctDraw : Value}
    {odPick anPick : Option Addr} {slPick : Array (Option Value)} {ocPick kVPick dcPick pmPick cdPick ctPick : Value}
    {odSame anSame : Option Addr} {slSame : Array (Option Value)} {ocSame kVSame dcSame pmSame cdSame ctSame : Value}
    {odRaise anRaise : Option Addr} {slRaise : Array (Option Value)} {ocRaise kVRaise dcRaise pmRaise cdRaise ctRaise : Value}
    {odRaiseMore anRaiseMore : Option Addr} {slRaiseMore : Array (Option Value)} {ocRaiseMore kVRaiseMore dcRaiseMore pmRaiseMore cdRaiseMore ctRaiseMore : Value}
    {odKept anKept : Option Addr} {slKept : Array (Option Value)} {ocKept kVKept dcKept pmKept cdKept ctKept : Value}
    {odClasses anClasses : Option Addr} {slClasses : Array (Option Value)} {ocClasses kVClasses dcClasses pmClasses cdClasses ctClasses : Value}
    {odGiven anGiven : Option Addr} {slGiven : Array (Option Value)} {ocGiven kVGiven dcGiven pmGiven cdGiven ctGiven : Value}
    {odLaw anLaw : Option Addr} {slLaw : Array (Option Value)} {ocLaw kVLaw dcLaw pmLaw cdLaw ctLaw : Value}
    (hfa : mg "law" = some (.ref fa))
    (aE : PySem.W.nsIn K mainGlobals "CiteError" = some (some (.ref cE)))
    (bE : PySem.W.subIn K (.ref cE) (.type "BaseException") = some true)
    (dE : PySem.W.hasDictIn K cE = true)
    (tE : PySem.W.typeIn K (.ref cE) = some (.type "type"))
    (third : PySem.W.nsIn K cStatics "thirdparty.any" = some none)
    (spc : PySem.W.specialIn K (.builtin "object.__class__") "__get__" = some (some (.builtin "getset_descriptor.__get__")))
    (tkc : PySem.W.takesIn K (.builtin "object.__class__") = some true)
    (aS : PySem.W.nsIn K mainGlobals "super" = some none)
    (a0 : PySem.W.nsIn K mainGlobals "InvalidBook" = some (some (.ref c0)))
    (x0 : K.lookup c0 = some (excClassObj nm0 qn0 c0 N0 bs0 (.ref cE :: veT) true sn0 sub0 ab0 col0 dd0 p00 p10 p20 p30 p50 "ValueError.__new__"))
    (sa0 : PySem.W.findIn K (.ref c0) "__setattr__" = some (some (.builtin "object.__setattr__")))
    (ga0 : PySem.W.findIn K (.ref c0) "__getattribute__" = some (some (.builtin "BaseException.__getattribute__")))
    (gg0 : PySem.W.findIn K (.ref c0) "__getattr__" = some none)
    (ha0 : PySem.W.findIn K (.ref c0) "__class__" = some (some (.builtin "object.__class__")))
    (in0 : PySem.W.findIn K (.ref c0) "__init__" = some (some (.ref i0)))
    (fn0 : PySem.W.typeIn K (.ref i0) = some (.type "function"))
    (kp0 : PySem.W.keepIn K (.ref c0) = true)
    (ty0 : PySem.W.typeIn K (.ref c0) = some (.type "type"))
    (hd0 : PySem.W.hasDictIn K c0 = true)
    (su0 : PySem.W.ks_superIn K c0 c0 "__init__" = some (some (.builtin "ValueError.__init__")))
    (lk0 : K.lookup i0 = some ⟨oc0, od0, .func (PySem.W.ksFn "__init__" "InvalidBook.__init__" (defArgs (inClass (top 2) 0)) (defBody (inClass (top 2) 0)) (defScope (inClass (top 2) 0)) .none kV0 doc0 pm0 an0 (.ref v0) ct0 u0), osl0⟩)
    (co0 : PySem.W.codeIn K (.ref v0) "InvalidBook.__init__" = true)
    (ce0 : K.lookup u0 = some ⟨xa0, xb0, .cell (some (.ref c0)), xc0⟩)
    (cd0 : K.lookup v0 = some ⟨ya0, yb0, .fields vs0, yc0⟩)
    (vf0 : vs0[2]? = some (.str file0 tf0))
    (ff0 : ((PySem.Challenge.pw_ibidem_k01_errors.main.file : Str) == file0) = true)
    (no0 : PySem.W.findIn K (.ref c0) "value" = some none)
    (a1 : PySem.W.nsIn K mainGlobals "InvalidList" = some (some (.ref c1)))
    (x1 : K.lookup c1 = some (excClassObj nm1 qn1 c1 N1 bs1 (.ref cE :: veT) true sn1 sub1 ab1 col1 dd1 p01 p11 p21 p31 p51 "ValueError.__new__"))
    (sa1 : PySem.W.findIn K (.ref c1) "__setattr__" = some (some (.builtin "object.__setattr__")))
    (ga1 : PySem.W.findIn K (.ref c1) "__getattribute__" = some (some (.builtin "BaseException.__getattribute__")))
    (gg1 : PySem.W.findIn K (.ref c1) "__getattr__" = some none)
    (ha1 : PySem.W.findIn K (.ref c1) "__class__" = some (some (.builtin "object.__class__")))
    (in1 : PySem.W.findIn K (.ref c1) "__init__" = some (some (.ref i1)))
    (fn1 : PySem.W.typeIn K (.ref i1) = some (.type "function"))
    (kp1 : PySem.W.keepIn K (.ref c1) = true)
    (ty1 : PySem.W.typeIn K (.ref c1) = some (.type "type"))
    (hd1 : PySem.W.hasDictIn K c1 = true)
    (su1 : PySem.W.ks_superIn K c1 c1 "__init__" = some (some (.builtin "ValueError.__init__")))
    (lk1 : K.lookup i1 = some ⟨oc1, od1, .func (PySem.W.ksFn "__init__" "InvalidList.__init__" (defArgs (inClass (top 3) 0)) (defBody (inClass (top 3) 0)) (defScope (inClass (top 3) 0)) .none kV1 doc1 pm1 an1 (.ref v1) ct1 u1), osl1⟩)
    (co1 : PySem.W.codeIn K (.ref v1) "InvalidList.__init__" = true)
    (ce1 : K.lookup u1 = some ⟨xa1, xb1, .cell (some (.ref c1)), xc1⟩)
    (cd1 : K.lookup v1 = some ⟨ya1, yb1, .fields vs1, yc1⟩)
    (vf1 : vs1[2]? = some (.str file1 tf1))
    (ff1 : ((PySem.Challenge.pw_ibidem_k01_errors.main.file : Str) == file1) = true)
    (no1 : PySem.W.findIn K (.ref c1) "value" = some none)
    (a2 : PySem.W.nsIn K mainGlobals "InvalidStyle" = some (some (.ref c2)))
    (x2 : K.lookup c2 = some (excClassObj nm2 qn2 c2 N2 bs2 (.ref cE :: veT) true sn2 sub2 ab2 col2 dd2 p02 p12 p22 p32 p52 "ValueError.__new__"))
    (sa2 : PySem.W.findIn K (.ref c2) "__setattr__" = some (some (.builtin "object.__setattr__")))
    (ga2 : PySem.W.findIn K (.ref c2) "__getattribute__" = some (some (.builtin "BaseException.__getattribute__")))
    (gg2 : PySem.W.findIn K (.ref c2) "__getattr__" = some none)
    (ha2 : PySem.W.findIn K (.ref c2) "__class__" = some (some (.builtin "object.__class__")))
    (in2 : PySem.W.findIn K (.ref c2) "__init__" = some (some (.ref i2)))
    (fn2 : PySem.W.typeIn K (.ref i2) = some (.type "function"))
    (kp2 : PySem.W.keepIn K (.ref c2) = true)
    (ty2 : PySem.W.typeIn K (.ref c2) = some (.type "type"))
    (hd2 : PySem.W.hasDictIn K c2 = true)
    (su2 : PySem.W.ks_superIn K c2 c2 "__init__" = some (some (.builtin "ValueError.__init__")))
    (lk2 : K.lookup i2 = some ⟨oc2, od2, .func (PySem.W.ksFn "__init__" "InvalidStyle.__init__" (defArgs (inClass (top 4) 0)) (defBody (inClass (top 4) 0)) (defScope (inClass (top 4) 0)) .none kV2 doc2 pm2 an2 (.ref v2) ct2 u2), osl2⟩)
    (co2 : PySem.W.codeIn K (.ref v2) "InvalidStyle.__init__" = true)
    (ce2 : K.lookup u2 = some ⟨xa2, xb2, .cell (some (.ref c2)), xc2⟩)
    (cd2 : K.lookup v2 = some ⟨ya2, yb2, .fields vs2, yc2⟩)
    (vf2 : vs2[2]? = some (.str file2 tf2))
    (ff2 : ((PySem.Challenge.pw_ibidem_k01_errors.main.file : Str) == file2) = true)
    (no2 : PySem.W.findIn K (.ref c2) "value" = some none)
    (a3 : PySem.W.nsIn K mainGlobals "InvalidLetters" = some (some (.ref c3)))
    (x3 : K.lookup c3 = some (excClassObj nm3 qn3 c3 N3 bs3 (.ref cE :: veT) true sn3 sub3 ab3 col3 dd3 p03 p13 p23 p33 p53 "ValueError.__new__"))
    (sa3 : PySem.W.findIn K (.ref c3) "__setattr__" = some (some (.builtin "object.__setattr__")))
    (ga3 : PySem.W.findIn K (.ref c3) "__getattribute__" = some (some (.builtin "BaseException.__getattribute__")))
    (gg3 : PySem.W.findIn K (.ref c3) "__getattr__" = some none)
    (ha3 : PySem.W.findIn K (.ref c3) "__class__" = some (some (.builtin "object.__class__")))
    (in3 : PySem.W.findIn K (.ref c3) "__init__" = some (some (.ref i3)))
    (fn3 : PySem.W.typeIn K (.ref i3) = some (.type "function"))
    (kp3 : PySem.W.keepIn K (.ref c3) = true)
    (ty3 : PySem.W.typeIn K (.ref c3) = some (.type "type"))
    (hd3 : PySem.W.hasDictIn K c3 = true)
    (su3 : PySem.W.ks_superIn K c3 c3 "__init__" = some (some (.builtin "ValueError.__init__")))
    (lk3 : K.lookup i3 = some ⟨oc3, od3, .func (PySem.W.ksFn "__init__" "InvalidLetters.__init__" (defArgs (inClass (top 5) 0)) (defBody (inClass (top 5) 0)) (defScope (inClass (top 5) 0)) .none kV3 doc3 pm3 an3 (.ref v3) ct3 u3), osl3⟩)
    (co3 : PySem.W.codeIn K (.ref v3) "InvalidLetters.__init__" = true)
    (ce3 : K.lookup u3 = some ⟨xa3, xb3, .cell (some (.ref c3)), xc3⟩)
    (cd3 : K.lookup v3 = some ⟨ya3, yb3, .fields vs3, yc3⟩)
    (vf3 : vs3[2]? = some (.str file3 tf3))
    (ff3 : ((PySem.Challenge.pw_ibidem_k01_errors.main.file : Str) == file3) = true)
    (no3 : PySem.W.findIn K (.ref c3) "value" = some none)
    (a4 : PySem.W.nsIn K mainGlobals "InvalidNumber" = some (some (.ref c4)))
    (x4 : K.lookup c4 = some (excClassObj nm4 qn4 c4 N4 bs4 (.ref cE :: veT) true sn4 sub4 ab4 col4 dd4 p04 p14 p24 p34 p54 "ValueError.__new__"))
    (sa4 : PySem.W.findIn K (.ref c4) "__setattr__" = some (some (.builtin "object.__setattr__")))
    (ga4 : PySem.W.findIn K (.ref c4) "__getattribute__" = some (some (.builtin "BaseException.__getattribute__")))
    (gg4 : PySem.W.findIn K (.ref c4) "__getattr__" = some none)
    (ha4 : PySem.W.findIn K (.ref c4) "__class__" = some (some (.builtin "object.__class__")))
    (in4 : PySem.W.findIn K (.ref c4) "__init__" = some (some (.ref i4)))
    (fn4 : PySem.W.typeIn K (.ref i4) = some (.type "function"))
    (kp4 : PySem.W.keepIn K (.ref c4) = true)
    (ty4 : PySem.W.typeIn K (.ref c4) = some (.type "type"))
    (hd4 : PySem.W.hasDictIn K c4 = true)
    (su4 : PySem.W.ks_superIn K c4 c4 "__init__" = some (some (.builtin "ValueError.__init__")))
    (lk4 : K.lookup i4 = some ⟨oc4, od4, .func (PySem.W.ksFn "__init__" "InvalidNumber.__init__" (defArgs (inClass (top 7) 0)) (defBody (inClass (top 7) 0)) (defScope (inClass (top 7) 0)) .none kV4 doc4 pm4 an4 (.ref v4) ct4 u4), osl4⟩)
    (co4 : PySem.W.codeIn K (.ref v4) "InvalidNumber.__init__" = true)
    (ce4 : K.lookup u4 = some ⟨xa4, xb4, .cell (some (.ref c4)), xc4⟩)
    (cd4 : K.lookup v4 = some ⟨ya4, yb4, .fields vs4, yc4⟩)
    (vf4 : vs4[2]? = some (.str file4 tf4))
    (ff4 : ((PySem.Challenge.pw_ibidem_k01_errors.main.file : Str) == file4) = true)
    (no4 : PySem.W.findIn K (.ref c4) "value" = some none)
    (a5 : PySem.W.nsIn K mainGlobals "InvalidMarks" = some (some (.ref c5)))
    (x5 : K.lookup c5 = some (excClassObj nm5 qn5 c5 N5 bs5 (.ref cE :: veT) true sn5 sub5 ab5 col5 dd5 p05 p15 p25 p35 p55 "ValueError.__new__"))
    (sa5 : PySem.W.findIn K (.ref c5) "__setattr__" = some (some (.builtin "object.__setattr__")))
    (ga5 : PySem.W.findIn K (.ref c5) "__getattribute__" = some (some (.builtin "BaseException.__getattribute__")))
    (gg5 : PySem.W.findIn K (.ref c5) "__getattr__" = some none)
    (ha5 : PySem.W.findIn K (.ref c5) "__class__" = some (some (.builtin "object.__class__")))
    (in5 : PySem.W.findIn K (.ref c5) "__init__" = some (some (.ref i5)))
    (fn5 : PySem.W.typeIn K (.ref i5) = some (.type "function"))
    (kp5 : PySem.W.keepIn K (.ref c5) = true)
    (ty5 : PySem.W.typeIn K (.ref c5) = some (.type "type"))
    (hd5 : PySem.W.hasDictIn K c5 = true)
    (su5 : PySem.W.ks_superIn K c5 c5 "__init__" = some (some (.builtin "ValueError.__init__")))
    (lk5 : K.lookup i5 = some ⟨oc5, od5, .func (PySem.W.ksFn "__init__" "InvalidMarks.__init__" (defArgs (inClass (top 8) 0)) (defBody (inClass (top 8) 0)) (defScope (inClass (top 8) 0)) .none kV5 doc5 pm5 an5 (.ref v5) ct5 u5), osl5⟩)
    (co5 : PySem.W.codeIn K (.ref v5) "InvalidMarks.__init__" = true)
    (ce5 : K.lookup u5 = some ⟨xa5, xb5, .cell (some (.ref c5)), xc5⟩)
    (cd5 : K.lookup v5 = some ⟨ya5, yb5, .fields vs5, yc5⟩)
    (vf5 : vs5[2]? = some (.str file5 tf5))
    (ff5 : ((PySem.Challenge.pw_ibidem_k01_errors.main.file : Str) == file5) = true)
    (no5 : PySem.W.findIn K (.ref c5) "value" = some none)
    (a6 : PySem.W.nsIn K mainGlobals "InvalidParts" = some (some (.ref c6)))
    (x6 : K.lookup c6 = some (excClassObj nm6 qn6 c6 N6 bs6 (.ref cE :: veT) true sn6 sub6 ab6 col6 dd6 p06 p16 p26 p36 p56 "ValueError.__new__"))
    (sa6 : PySem.W.findIn K (.ref c6) "__setattr__" = some (some (.builtin "object.__setattr__")))
    (ga6 : PySem.W.findIn K (.ref c6) "__getattribute__" = some (some (.builtin "BaseException.__getattribute__")))
    (gg6 : PySem.W.findIn K (.ref c6) "__getattr__" = some none)
    (ha6 : PySem.W.findIn K (.ref c6) "__class__" = some (some (.builtin "object.__class__")))
    (in6 : PySem.W.findIn K (.ref c6) "__init__" = some (some (.ref i6)))
    (fn6 : PySem.W.typeIn K (.ref i6) = some (.type "function"))
    (kp6 : PySem.W.keepIn K (.ref c6) = true)
    (ty6 : PySem.W.typeIn K (.ref c6) = some (.type "type"))
    (hd6 : PySem.W.hasDictIn K c6 = true)
    (su6 : PySem.W.ks_superIn K c6 c6 "__init__" = some (some (.builtin "ValueError.__init__")))
    (lk6 : K.lookup i6 = some ⟨oc6, od6, .func (PySem.W.ksFn "__init__" "InvalidParts.__init__" (defArgs (inClass (top 9) 0)) (defBody (inClass (top 9) 0)) (defScope (inClass (top 9) 0)) .none kV6 doc6 pm6 an6 (.ref v6) ct6 u6), osl6⟩)
    (co6 : PySem.W.codeIn K (.ref v6) "InvalidParts.__init__" = true)
    (ce6 : K.lookup u6 = some ⟨xa6, xb6, .cell (some (.ref c6)), xc6⟩)
    (cd6 : K.lookup v6 = some ⟨ya6, yb6, .fields vs6, yc6⟩)
    (vf6 : vs6[2]? = some (.str file6 tf6))
    (ff6 : ((PySem.Challenge.pw_ibidem_k01_errors.main.file : Str) == file6) = true)
    (no6 : PySem.W.findIn K (.ref c6) "value" = some none)
    (a7 : PySem.W.nsIn K mainGlobals "InvalidClaim" = some (some (.ref c7)))
    (x7 : K.lookup c7 = some (excClassObj nm7 qn7 c7 N7 bs7 (.ref cE :: veT) true sn7 sub7 ab7 col7 dd7 p07 p17 p27 p37 p57 "ValueError.__new__"))
    (sa7 : PySem.W.findIn K (.ref c7) "__setattr__" = some (some (.builtin "object.__setattr__")))
    (ga7 : PySem.W.findIn K (.ref c7) "__getattribute__" = some (some (.builtin "BaseException.__getattribute__")))
    (gg7 : PySem.W.findIn K (.ref c7) "__getattr__" = some none)
    (ha7 : PySem.W.findIn K (.ref c7) "__class__" = some (some (.builtin "object.__class__")))
    (in7 : PySem.W.findIn K (.ref c7) "__init__" = some (some (.ref i7)))
    (fn7 : PySem.W.typeIn K (.ref i7) = some (.type "function"))
    (kp7 : PySem.W.keepIn K (.ref c7) = true)
    (ty7 : PySem.W.typeIn K (.ref c7) = some (.type "type"))
    (hd7 : PySem.W.hasDictIn K c7 = true)
    (su7 : PySem.W.ks_superIn K c7 c7 "__init__" = some (some (.builtin "ValueError.__init__")))
    (lk7 : K.lookup i7 = some ⟨oc7, od7, .func (PySem.W.ksFn "__init__" "InvalidClaim.__init__" (defArgs (inClass (top 10) 0)) (defBody (inClass (top 10) 0)) (defScope (inClass (top 10) 0)) .none kV7 doc7 pm7 an7 (.ref v7) ct7 u7), osl7⟩)
    (co7 : PySem.W.codeIn K (.ref v7) "InvalidClaim.__init__" = true)
    (ce7 : K.lookup u7 = some ⟨xa7, xb7, .cell (some (.ref c7)), xc7⟩)
    (cd7 : K.lookup v7 = some ⟨ya7, yb7, .fields vs7, yc7⟩)
    (vf7 : vs7[2]? = some (.str file7 tf7))
    (ff7 : ((PySem.Challenge.pw_ibidem_k01_errors.main.file : Str) == file7) = true)
    (no7 : PySem.W.findIn K (.ref c7) "value" = some none)
    (a8 : PySem.W.nsIn K mainGlobals "Refused" = some (some (.ref c8)))
    (x8 : K.lookup c8 = some (excClassObj nm8 qn8 c8 N8 bs8 (.ref cE :: veT) true sn8 sub8 ab8 col8 dd8 p08 p18 p28 p38 p58 "ValueError.__new__"))
    (sa8 : PySem.W.findIn K (.ref c8) "__setattr__" = some (some (.builtin "object.__setattr__")))
    (ga8 : PySem.W.findIn K (.ref c8) "__getattribute__" = some (some (.builtin "BaseException.__getattribute__")))
    (gg8 : PySem.W.findIn K (.ref c8) "__getattr__" = some none)
    (ha8 : PySem.W.findIn K (.ref c8) "__class__" = some (some (.builtin "object.__class__")))
    (in8 : PySem.W.findIn K (.ref c8) "__init__" = some (some (.ref i8)))
    (fn8 : PySem.W.typeIn K (.ref i8) = some (.type "function"))
    (kp8 : PySem.W.keepIn K (.ref c8) = true)
    (ty8 : PySem.W.typeIn K (.ref c8) = some (.type "type"))
    (hd8 : PySem.W.hasDictIn K c8 = true)
    (su8 : PySem.W.ks_superIn K c8 c8 "__init__" = some (some (.builtin "ValueError.__init__")))
    (lk8 : K.lookup i8 = some ⟨oc8, od8, .func (PySem.W.ksFn "__init__" "Refused.__init__" (defArgs (inClass (top 11) 0)) (defBody (inClass (top 11) 0)) (defScope (inClass (top 11) 0)) .none kV8 doc8 pm8 an8 (.ref v8) ct8 u8), osl8⟩)
    (co8 : PySem.W.codeIn K (.ref v8) "Refused.__init__" = true)
    (ce8 : K.lookup u8 = some ⟨xa8, xb8, .cell (some (.ref c8)), xc8⟩)
    (cd8 : K.lookup v8 = some ⟨ya8, yb8, .fields vs8, yc8⟩)
    (vf8 : vs8[2]? = some (.str file8 tf8))
    (ff8 : ((PySem.Challenge.pw_ibidem_k01_errors.main.file : Str) == file8) = true)
    (no8 : PySem.W.findIn K (.ref c8) "claim" = some none)
    (a9 : PySem.W.nsIn K mainGlobals "NothingToUndo" = some (some (.ref c9)))
    (x9 : K.lookup c9 = some (excClassObj nm9 qn9 c9 N9 bs9 (.ref cE :: veT) true sn9 sub9 ab9 col9 dd9 p09 p19 p29 p39 p59 "ValueError.__new__"))
    (sa9 : PySem.W.findIn K (.ref c9) "__setattr__" = some (some (.builtin "object.__setattr__")))
    (ga9 : PySem.W.findIn K (.ref c9) "__getattribute__" = some (some (.builtin "BaseException.__getattribute__")))
    (gg9 : PySem.W.findIn K (.ref c9) "__getattr__" = some none)
    (ha9 : PySem.W.findIn K (.ref c9) "__class__" = some (some (.builtin "object.__class__")))
    (in9 : PySem.W.findIn K (.ref c9) "__init__" = some (some (.ref i9)))
    (fn9 : PySem.W.typeIn K (.ref i9) = some (.type "function"))
    (kp9 : PySem.W.keepIn K (.ref c9) = true)
    (ty9 : PySem.W.typeIn K (.ref c9) = some (.type "type"))
    (hd9 : PySem.W.hasDictIn K c9 = true)
    (su9 : PySem.W.ks_superIn K c9 c9 "__init__" = some (some (.builtin "ValueError.__init__")))
    (lk9 : K.lookup i9 = some ⟨oc9, od9, .func (PySem.W.ksFn "__init__" "NothingToUndo.__init__" (defArgs (inClass (top 13) 0)) (defBody (inClass (top 13) 0)) (defScope (inClass (top 13) 0)) .none kV9 doc9 pm9 an9 (.ref v9) ct9 u9), osl9⟩)
    (co9 : PySem.W.codeIn K (.ref v9) "NothingToUndo.__init__" = true)
    (ce9 : K.lookup u9 = some ⟨xa9, xb9, .cell (some (.ref c9)), xc9⟩)
    (cd9 : K.lookup v9 = some ⟨ya9, yb9, .fields vs9, yc9⟩)
    (vf9 : vs9[2]? = some (.str file9 tf9))
    (ff9 : ((PySem.Challenge.pw_ibidem_k01_errors.main.file : Str) == file9) = true)
    (no9 : PySem.W.findIn K (.ref c9) "word" = some none)
    (a10 : PySem.W.nsIn K mainGlobals "Undefined" = some (some (.ref c10)))
    (x10 : K.lookup c10 = some (excClassObj nm10 qn10 c10 N10 bs10 (.ref cE :: veT) true sn10 sub10 ab10 col10 dd10 p010 p110 p210 p310 p510 "ValueError.__new__"))
    (sa10 : PySem.W.findIn K (.ref c10) "__setattr__" = some (some (.builtin "object.__setattr__")))
    (ga10 : PySem.W.findIn K (.ref c10) "__getattribute__" = some (some (.builtin "BaseException.__getattribute__")))
    (gg10 : PySem.W.findIn K (.ref c10) "__getattr__" = some none)
    (ha10 : PySem.W.findIn K (.ref c10) "__class__" = some (some (.builtin "object.__class__")))
    (in10 : PySem.W.findIn K (.ref c10) "__init__" = some (some (.ref i10)))
    (fn10 : PySem.W.typeIn K (.ref i10) = some (.type "function"))
    (kp10 : PySem.W.keepIn K (.ref c10) = true)
    (ty10 : PySem.W.typeIn K (.ref c10) = some (.type "type"))
    (hd10 : PySem.W.hasDictIn K c10 = true)
    (su10 : PySem.W.ks_superIn K c10 c10 "__init__" = some (some (.builtin "ValueError.__init__")))
    (lk10 : K.lookup i10 = some ⟨oc10, od10, .func (PySem.W.ksFn "__init__" "Undefined.__init__" (defArgs (inClass (top 14) 0)) (defBody (inClass (top 14) 0)) (defScope (inClass (top 14) 0)) .none kV10 doc10 pm10 an10 (.ref v10) ct10 u10), osl10⟩)
    (co10 : PySem.W.codeIn K (.ref v10) "Undefined.__init__" = true)
    (ce10 : K.lookup u10 = some ⟨xa10, xb10, .cell (some (.ref c10)), xc10⟩)
    (cd10 : K.lookup v10 = some ⟨ya10, yb10, .fields vs10, yc10⟩)
    (vf10 : vs10[2]? = some (.str file10 tf10))
    (ff10 : ((PySem.Challenge.pw_ibidem_k01_errors.main.file : Str) == file10) = true)
    (no10 : PySem.W.findIn K (.ref c10) "what" = some none)
    (a11 : PySem.W.nsIn K mainGlobals "InvalidText" = some (some (.ref c11)))
    (x11 : K.lookup c11 = some (excClassObj nm11 qn11 c11 N11 bs11 (.ref cE :: veT) true sn11 sub11 ab11 col11 dd11 p011 p111 p211 p311 p511 "ValueError.__new__"))
    (sa11 : PySem.W.findIn K (.ref c11) "__setattr__" = some (some (.builtin "object.__setattr__")))
    (ga11 : PySem.W.findIn K (.ref c11) "__getattribute__" = some (some (.builtin "BaseException.__getattribute__")))
    (gg11 : PySem.W.findIn K (.ref c11) "__getattr__" = some none)
    (ha11 : PySem.W.findIn K (.ref c11) "__class__" = some (some (.builtin "object.__class__")))
    (in11 : PySem.W.findIn K (.ref c11) "__init__" = some (some (.ref i11)))
    (fn11 : PySem.W.typeIn K (.ref i11) = some (.type "function"))
    (kp11 : PySem.W.keepIn K (.ref c11) = true)
    (ty11 : PySem.W.typeIn K (.ref c11) = some (.type "type"))
    (hd11 : PySem.W.hasDictIn K c11 = true)
    (su11 : PySem.W.ks_superIn K c11 c11 "__init__" = some (some (.builtin "ValueError.__init__")))
    (lk11 : K.lookup i11 = some ⟨oc11, od11, .func (PySem.W.ksFn "__init__" "InvalidText.__init__" (defArgs (inClass (top 6) 0)) (defBody (inClass (top 6) 0)) (defScope (inClass (top 6) 0)) .none kV11 doc11 pm11 an11 (.ref v11) ct11 u11), osl11⟩)
    (co11 : PySem.W.codeIn K (.ref v11) "InvalidText.__init__" = true)
    (ce11 : K.lookup u11 = some ⟨xa11, xb11, .cell (some (.ref c11)), xc11⟩)
    (cd11 : K.lookup v11 = some ⟨ya11, yb11, .fields vs11, yc11⟩)
    (vf11 : vs11[2]? = some (.str file11 tf11))
    (ff11 : ((PySem.Challenge.pw_ibidem_k01_errors.main.file : Str) == file11) = true)
    (no11 : PySem.W.findIn K (.ref c11) "text" = some none)
    (no11at : PySem.W.findIn K (.ref c11) "at" = some none)
    (a12 : PySem.W.nsIn K mainGlobals "InvalidLine" = some (some (.ref c12)))
    (x12 : K.lookup c12 = some (excClassObj nm12 qn12 c12 N12 bs12 (.ref cE :: veT) true sn12 sub12 ab12 col12 dd12 p012 p112 p212 p312 p512 "ValueError.__new__"))
    (sa12 : PySem.W.findIn K (.ref c12) "__setattr__" = some (some (.builtin "object.__setattr__")))
    (ga12 : PySem.W.findIn K (.ref c12) "__getattribute__" = some (some (.builtin "BaseException.__getattribute__")))
    (gg12 : PySem.W.findIn K (.ref c12) "__getattr__" = some none)
    (ha12 : PySem.W.findIn K (.ref c12) "__class__" = some (some (.builtin "object.__class__")))
    (in12 : PySem.W.findIn K (.ref c12) "__init__" = some (some (.ref i12)))
    (fn12 : PySem.W.typeIn K (.ref i12) = some (.type "function"))
    (kp12 : PySem.W.keepIn K (.ref c12) = true)
    (ty12 : PySem.W.typeIn K (.ref c12) = some (.type "type"))
    (hd12 : PySem.W.hasDictIn K c12 = true)
    (su12 : PySem.W.ks_superIn K c12 c12 "__init__" = some (some (.builtin "ValueError.__init__")))
    (lk12 : K.lookup i12 = some ⟨oc12, od12, .func (PySem.W.ksFn "__init__" "InvalidLine.__init__" (defArgs (inClass (top 12) 0)) (defBody (inClass (top 12) 0)) (defScope (inClass (top 12) 0)) .none kV12 doc12 pm12 an12 (.ref v12) ct12 u12), osl12⟩)
    (co12 : PySem.W.codeIn K (.ref v12) "InvalidLine.__init__" = true)
    (ce12 : K.lookup u12 = some ⟨xa12, xb12, .cell (some (.ref c12)), xc12⟩)
    (cd12 : K.lookup v12 = some ⟨ya12, yb12, .fields vs12, yc12⟩)
    (vf12 : vs12[2]? = some (.str file12 tf12))
    (ff12 : ((PySem.Challenge.pw_ibidem_k01_errors.main.file : Str) == file12) = true)
    (no12 : PySem.W.findIn K (.ref c12) "line" = some none)
    (no12at : PySem.W.findIn K (.ref c12) "at" = some none)
    (nd : [c0, c1, c2, c3, c4, c5, c6, c7, c8, c9, c10, c11, c12, cE].Nodup)
    (gFlow : PySem.W.nsIn K mainGlobals "_law_flow" = some (some (.ref fFlow)))
    (lFlow : K.lookup fFlow = some ⟨ocFlow, odFlow, .func (PySem.W.fnOf "_law_flow" "_law_flow" (defArgs sFlow) (defBody sFlow) (defScope sFlow) .none kVFlow dcFlow pmFlow anFlow cdFlow ctFlow), slFlow⟩)
    (cFlow : PySem.W.codeIn K cdFlow "_law_flow" = true)
    (kFlow : PySem.W.keepIn K (.ref fFlow) = true)
    (gLoad : PySem.W.nsIn K mainGlobals "_law_load" = some (some (.ref fLoad)))
    (lLoad : K.lookup fLoad = some ⟨ocLoad, odLoad, .func (PySem.W.fnOf "_law_load" "_law_load" (defArgs sLoad) (defBody sLoad) (defScope sLoad) .none kVLoad dcLoad pmLoad anLoad cdLoad ctLoad), slLoad⟩)
    (cLoad : PySem.W.codeIn K cdLoad "_law_load" = true)
    (kLoad : PySem.W.keepIn K (.ref fLoad) = true)
    (gDraw : PySem.W.nsIn K mainGlobals "_law_draw" = some (some (.ref fDraw)))
    (lDraw : K.lookup fDraw = some ⟨ocDraw, odDraw, .func (PySem.W.fnOf "_law_draw" "_law_draw" (defArgs sDraw) (defBody sDraw) (defScope sDraw) .none kVDraw dcDraw pmDraw anDraw cdDraw ctDraw), slDraw⟩)
    (cDraw : PySem.W.codeIn K cdDraw "_law_draw" = true)
    (kDraw : PySem.W.keepIn K (.ref fDraw) = true)
    (gPick : PySem.W.nsIn K mainGlobals "_law_pick" = some (some (.ref fPick)))
    (lPick : K.lookup fPick = some ⟨ocPick, odPick, .func (PySem.W.fnOf "_law_pick" "_law_pick" (defArgs sPick) (defBody sPick) (defScope sPick) .none kVPick dcPick pmPick anPick cdPick ctPick), slPick⟩)
    (cPick : PySem.W.codeIn K cdPick "_law_pick" = true)
    (kPick : PySem.W.keepIn K (.ref fPick) = true)
    (gSame : PySem.W.nsIn K mainGlobals "_law_same" = some (some (.ref fSame)))
    (lSame : K.lookup fSame = some ⟨ocSame, odSame, .func (PySem.W.fnOf "_law_same" "_law_same" (defArgs sSame) (defBody sSame) (defScope sSame) .none kVSame dcSame pmSame anSame cdSame ctSame), slSame⟩)
    (cSame : PySem.W.codeIn K cdSame "_law_same" = true)
    (kSame : PySem.W.keepIn K (.ref fSame) = true)
    (gRaise : PySem.W.nsIn K mainGlobals "_law_raise" = some (some (.ref fRaise)))
    (lRaise : K.lookup fRaise = some ⟨ocRaise, odRaise, .func (PySem.W.fnOf "_law_raise" "_law_raise" (defArgs sRaise) (defBody sRaise) (defScope sRaise) .none kVRaise dcRaise pmRaise anRaise cdRaise ctRaise), slRaise⟩)
    (cRaise : PySem.W.codeIn K cdRaise "_law_raise" = true)
    (kRaise : PySem.W.keepIn K (.ref fRaise) = true)
    (gRaiseMore : PySem.W.nsIn K mainGlobals "_law_raise_more" = some (some (.ref fRaiseMore)))
    (lRaiseMore : K.lookup fRaiseMore = some ⟨ocRaiseMore, odRaiseMore, .func (PySem.W.fnOf "_law_raise_more" "_law_raise_more" (defArgs sRaiseMore) (defBody sRaiseMore) (defScope sRaiseMore) .none kVRaiseMore dcRaiseMore pmRaiseMore anRaiseMore cdRaiseMore ctRaiseMore), slRaiseMore⟩)
    (cRaiseMore : PySem.W.codeIn K cdRaiseMore "_law_raise_more" = true)
    (kRaiseMore : PySem.W.keepIn K (.ref fRaiseMore) = true)
    (gKept : PySem.W.nsIn K mainGlobals "_law_kept" = some (some (.ref fKept)))
    (lKept : K.lookup fKept = some ⟨ocKept, odKept, .func (PySem.W.fnOf "_law_kept" "_law_kept" (defArgs sKept) (defBody sKept) (defScope sKept) .none kVKept dcKept pmKept anKept cdKept ctKept), slKept⟩)
    (cKept : PySem.W.codeIn K cdKept "_law_kept" = true)
    (kKept : PySem.W.keepIn K (.ref fKept) = true)
    (gClasses : PySem.W.nsIn K mainGlobals "_law_classes" = some (some (.ref fClasses)))
    (lClasses : K.lookup fClasses = some ⟨ocClasses, odClasses, .func (PySem.W.fnOf "_law_classes" "_law_classes" (defArgs sClasses) (defBody sClasses) (defScope sClasses) .none kVClasses dcClasses pmClasses anClasses cdClasses ctClasses), slClasses⟩)
    (cClasses : PySem.W.codeIn K cdClasses "_law_classes" = true)
    (kClasses : PySem.W.keepIn K (.ref fClasses) = true)
    (gGiven : PySem.W.nsIn K mainGlobals "_law_given" = some (some (.ref fGiven)))
    (lGiven : K.lookup fGiven = some ⟨ocGiven, odGiven, .func (PySem.W.fnOf "_law_given" "_law_given" (defArgs sGiven) (defBody sGiven) (defScope sGiven) .none kVGiven dcGiven pmGiven anGiven cdGiven ctGiven), slGiven⟩)
    (cGiven : PySem.W.codeIn K cdGiven "_law_given" = true)
    (kGiven : PySem.W.keepIn K (.ref fGiven) = true)
    (gLaw : PySem.W.nsIn K mainGlobals "law" = some (some (.ref fLaw)))
    (lLaw : K.lookup fLaw = some ⟨ocLaw, odLaw, .func (PySem.W.fnOf "law" "law" (defArgs sLaw) (defBody sLaw) (defScope sLaw) .none kVLaw dcLaw pmLaw anLaw cdLaw ctLaw), slLaw⟩)
    (cLaw : PySem.W.codeIn K cdLaw "law" = true)
    (kLaw : PySem.W.keepIn K (.ref fLaw) = true)
    (zint : PySem.W.nsIn K mainGlobals "int" = some none)
    (zlist : PySem.W.nsIn K mainGlobals "list" = some none)
    (zlen : PySem.W.nsIn K mainGlobals "len" = some none)
    (zabs : PySem.W.nsIn K mainGlobals "abs" = some none)
    (zmax : PySem.W.nsIn K mainGlobals "max" = some none)
    (zisinstance : PySem.W.nsIn K mainGlobals "isinstance" = some none)
    (ztuple : PySem.W.nsIn K mainGlobals "tuple" = some none)
    (zall : PySem.W.nsIn K mainGlobals "all" = some none)
    (zrange : PySem.W.nsIn K mainGlobals "range" = some none)
    (zstr : PySem.W.nsIn K mainGlobals "str" = some none)
    (zbool : PySem.W.nsIn K mainGlobals "bool" = some none)
    (zValueError : PySem.W.nsIn K mainGlobals "ValueError" = some none) :
    ∃ fd : FuncData, (∀ (s : Shared) (v : Value), BindsTo s fd ⟨[v], []⟩ [("script", v)]) ∧ ∀ base : Heap, K.In base → base.Ns mainGlobals mg → FnOk Pr w K mg base CX0 6 fa fd ["script"] (spLaw K) := by
  have e := hfa.symm.trans (PySem.W.mg_of X G gLaw)
  cases e
  have E0 := erK x0 sa0 ga0 gg0 ha0 in0 fn0 kp0 ty0 hd0 su0 ce0 cd0 vf0 ff0 third spc tkc
  have E1 := erK x1 sa1 ga1 gg1 ha1 in1 fn1 kp1 ty1 hd1 su1 ce1 cd1 vf1 ff1 third spc tkc
  have E2 := erK x2 sa2 ga2 gg2 ha2 in2 fn2 kp2 ty2 hd2 su2 ce2 cd2 vf2 ff2 third spc tkc
  have E3 := erK x3 sa3 ga3 gg3 ha3 in3 fn3 kp3 ty3 hd3 su3 ce3 cd3 vf3 ff3 third spc tkc
  have E4 := erK x4 sa4 ga4 gg4 ha4 in4 fn4 kp4 ty4 hd4 su4 ce4 cd4 vf4 ff4 third spc tkc
  have E5 := erK x5 sa5 ga5 gg5 ha5 in5 fn5 kp5 ty5 hd5 su5 ce5 cd5 vf5 ff5 third spc tkc
  have E6 := erK x6 sa6 ga6 gg6 ha6 in6 fn6 kp6 ty6 hd6 su6 ce6 cd6 vf6 ff6 third spc tkc
  have E7 := erK x7 sa7 ga7 gg7 ha7 in7 fn7 kp7 ty7 hd7 su7 ce7 cd7 vf7 ff7 third spc tkc
  have E8 := erK x8 sa8 ga8 gg8 ha8 in8 fn8 kp8 ty8 hd8 su8 ce8 cd8 vf8 ff8 third spc tkc
  have E9 := erK x9 sa9 ga9 gg9 ha9 in9 fn9 kp9 ty9 hd9 su9 ce9 cd9 vf9 ff9 third spc tkc
  have E10 := erK x10 sa10 ga10 gg10 ha10 in10 fn10 kp10 ty10 hd10 su10 ce10 cd10 vf10 ff10 third spc tkc
  have E11 := erK x11 sa11 ga11 gg11 ha11 in11 fn11 kp11 ty11 hd11 su11 ce11 cd11 vf11 ff11 third spc tkc
  have E12 := erK x12 sa12 ga12 gg12 ha12 in12 fn12 kp12 ty12 hd12 su12 ce12 cd12 vf12 ff12 third spc tkc
  have S := PySem.W.mg_none_of X G aS
  have R0 : ErF Pr w K mg "InvalidBook" c0 (one "value") := erF_one (PySem.W.mg_of X G a0) S E0.c (fun u => inits0 E0.c no0 lk0 co0 u)
  have R1 : ErF Pr w K mg "InvalidList" c1 (one "value") := erF_one (PySem.W.mg_of X G a1) S E1.c (fun u => inits1 E1.c no1 lk1 co1 u)
  have R2 : ErF Pr w K mg "InvalidStyle" c2 (one "value") := erF_one (PySem.W.mg_of X G a2) S E2.c (fun u => inits2 E2.c no2 lk2 co2 u)
  have R3 : ErF Pr w K mg "InvalidLetters" c3 (one "value") := erF_one (PySem.W.mg_of X G a3) S E3.c (fun u => inits3 E3.c no3 lk3 co3 u)
  have R4 : ErF Pr w K mg "InvalidNumber" c4 (one "value") := erF_one (PySem.W.mg_of X G a4) S E4.c (fun u => inits4 E4.c no4 lk4 co4 u)
  have R5 : ErF Pr w K mg "InvalidMarks" c5 (one "value") := erF_one (PySem.W.mg_of X G a5) S E5.c (fun u => inits5 E5.c no5 lk5 co5 u)
  have R6 : ErF Pr w K mg "InvalidParts" c6 (one "value") := erF_one (PySem.W.mg_of X G a6) S E6.c (fun u => inits6 E6.c no6 lk6 co6 u)
  have R7 : ErF Pr w K mg "InvalidClaim" c7 (one "value") := erF_one (PySem.W.mg_of X G a7) S E7.c (fun u => inits7 E7.c no7 lk7 co7 u)
  have R8 : ErF Pr w K mg "Refused" c8 (one "claim") := erF_one (PySem.W.mg_of X G a8) S E8.c (fun u => inits8 E8.c no8 lk8 co8 u)
  have R9 : ErF Pr w K mg "NothingToUndo" c9 (one "word") := erF_one (PySem.W.mg_of X G a9) S E9.c (fun u => inits9 E9.c no9 lk9 co9 u)
  have R10 : ErF Pr w K mg "Undefined" c10 (one "what") := erF_one (PySem.W.mg_of X G a10) S E10.c (fun u => inits10 E10.c no10 lk10 co10 u)
  have R11 : ErF Pr w K mg "InvalidText" c11 (two "text" "at") := erF_two (PySem.W.mg_of X G a11) S E11.c (fun u v => inits11 E11.c no11 no11at lk11 co11 u v)
  have R12 : ErF Pr w K mg "InvalidLine" c12 (two "line" "at") := erF_two (PySem.W.mg_of X G a12) S E12.c (fun u v => inits12 E12.c no12 no12at lk12 co12 u v)
  have R : Errs Pr w K mg (fun i => ([c0, c1, c2, c3, c4, c5, c6, c7, c8, c9, c10, c11, c12, cE] : List Addr).getD i 0) := ⟨R0, R1, R2, R3, R4, R5, R6, R7, R8, R9, R10, R11, R12⟩
  have XX : ErrsX K (fun i => ([c0, c1, c2, c3, c4, c5, c6, c7, c8, c9, c10, c11, c12, cE] : List Addr).getD i 0) cE := by
    refine errsX (P := Pr) (fun i hi => ?_) (fun i j hi hj e => ?_) (fun i hi e => ?_) bE dE tE no0 no1 no2 no3 no4 no5 no6 no7 no8 no9 no10 no11 no12 no11at no12at
    · match i, hi with
      | 0, _ => exact ⟨_, _, _, E0⟩
      | 1, _ => exact ⟨_, _, _, E1⟩
      | 2, _ => exact ⟨_, _, _, E2⟩
      | 3, _ => exact ⟨_, _, _, E3⟩
      | 4, _ => exact ⟨_, _, _, E4⟩
      | 5, _ => exact ⟨_, _, _, E5⟩
      | 6, _ => exact ⟨_, _, _, E6⟩
      | 7, _ => exact ⟨_, _, _, E7⟩
      | 8, _ => exact ⟨_, _, _, E8⟩
      | 9, _ => exact ⟨_, _, _, E9⟩
      | 10, _ => exact ⟨_, _, _, E10⟩
      | 11, _ => exact ⟨_, _, _, E11⟩
      | 12, _ => exact ⟨_, _, _, E12⟩
    · exact nd_inj nd (by simp; omega) (by simp; omega) e
    · have z := nd_inj nd (i := i) (j := 13) (by simp; omega) (by simp) e
      omega
  have FFlow := fun_mk (st := sFlow) lFlow cFlow kFlow
  have bFlow := FFlow.binds (ps := ["script"]) fun _ _ _ _ _ _ us hl => match us, hl with | [_], _ => rfl
  have FLoad := fun_mk (st := sLoad) lLoad cLoad kLoad
  have bLoad := FLoad.binds (ps := ["flow"]) fun _ _ _ _ _ _ us hl => match us, hl with | [_], _ => rfl
  have FDraw := fun_mk (st := sDraw) lDraw cDraw kDraw
  have bDraw := FDraw.binds (ps := ["flow", "many"]) fun _ _ _ _ _ _ us hl => match us, hl with | [_, _], _ => rfl
  have FPick := fun_mk (st := sPick) lPick cPick kPick
  have bPick := FPick.binds (ps := ["flow", "things"]) fun _ _ _ _ _ _ us hl => match us, hl with | [_, _], _ => rfl
  have FSame := fun_mk (st := sSame) lSame cSame kSame
  have bSame := FSame.binds (ps := ["actual", "due"]) fun _ _ _ _ _ _ us hl => match us, hl with | [_, _], _ => rfl
  have FRaise := fun_mk (st := sRaise) lRaise cRaise kRaise
  have bRaise := FRaise.binds (ps := ["kind", "given", "at"]) fun _ _ _ _ _ _ us hl => match us, hl with | [_, _, _], _ => rfl
  have FRaiseMore := fun_mk (st := sRaiseMore) lRaiseMore cRaiseMore kRaiseMore
  have bRaiseMore := FRaiseMore.binds (ps := ["kind", "given", "at"]) fun _ _ _ _ _ _ us hl => match us, hl with | [_, _, _], _ => rfl
  have FKept := fun_mk (st := sKept) lKept cKept kKept
  have bKept := FKept.binds (ps := ["kind", "given", "at"]) fun _ _ _ _ _ _ us hl => match us, hl with | [_, _, _], _ => rfl
  have FClasses := fun_mk (st := sClasses) lClasses cClasses kClasses
  have bClasses := FClasses.binds (ps := ["kind", "given", "at"]) fun _ _ _ _ _ _ us hl => match us, hl with | [_, _, _], _ => rfl
  have FGiven := fun_mk (st := sGiven) lGiven cGiven kGiven
  have bGiven := FGiven.binds (ps := ["flow", "kind"]) fun _ _ _ _ _ _ us hl => match us, hl with | [_, _], _ => rfl
  have FLaw := fun_mk (st := sLaw) lLaw cLaw kLaw
  have B : Bt mg := ⟨PySem.W.mg_none_of X G zint, PySem.W.mg_none_of X G zlist, PySem.W.mg_none_of X G zlen, PySem.W.mg_none_of X G zabs, PySem.W.mg_none_of X G zmax, PySem.W.mg_none_of X G zisinstance, PySem.W.mg_none_of X G ztuple, PySem.W.mg_none_of X G zall, PySem.W.mg_none_of X G zrange, PySem.W.mg_none_of X G zstr, PySem.W.mg_none_of X G zbool, PySem.W.mg_none_of X G zValueError⟩
  have N := Fns.mk FFlow FLoad FDraw FPick FSame FRaise FRaiseMore FKept FClasses FGiven bFlow bLoad bDraw bPick bSame bRaise bRaiseMore bKept bClasses bGiven (PySem.W.mg_of X G gFlow) (PySem.W.mg_of X G gLoad) (PySem.W.mg_of X G gDraw) (PySem.W.mg_of X G gPick) (PySem.W.mg_of X G gSame) (PySem.W.mg_of X G gRaise) (PySem.W.mg_of X G gRaiseMore) (PySem.W.mg_of X G gKept) (PySem.W.mg_of X G gClasses) (PySem.W.mg_of X G gGiven)
  exact ⟨PySem.W.fnOf "law" "law" (defArgs sLaw) (defBody sLaw) (defScope sLaw) .none kVLaw dcLaw pmLaw anLaw cdLaw ctLaw, fun s v => .of_eq rfl, fun base _ _ => ok_law FLaw B N R XX (PySem.W.mg_of X G aE)⟩
theorem walk {l : PySem.W.OpenLaw} {q : Program} {loose : List Str} {XP : (Str → Option Value) → Heap → Prop} {YP : World → Heap → Prop} {d : DefRec} {K : Params → PySem.W.Frag} (hn : l.most = some 63) (hdf : d.params.defaults = [])
    (hY : ∀ (w : World) (h : Heap), YP w h → (K w.params).In h)
    (F : ∀ (w : World) (mg : Str → Option Value) (fa : Addr) (h : Heap), (K w.params).In h → h.Ns mainGlobals mg → mg d.name = some (.ref fa) →
      ∃ fd : FuncData, (∀ (s : Shared) (u : Value), BindsTo s fd ⟨[u], []⟩ [("script", u)]) ∧ ∀ base : Heap, (K w.params).In base → base.Ns mainGlobals mg → FnOk l.prog w (K w.params) mg base CX0 6 fa fd ["script"] (spLaw (K w.params))) :
    PySem.W.WalkO q loose XP YP l.row.toRowW d [] (fun f vs => PySem.call f vs) :=
  L2.walk_of (n := 63) (k := 6) (x := "script") (CX := fun _ => CX0) (sp := fun w => spLaw (K w.params)) hn (by decide) hdf ⟨rfl, by decide, by decide⟩ hY F (fun _ _ a ns _ _ hS => ⟨a, ns, rfl, hS, fun _ => rfl⟩) fun _ _ _ _ _ z => z
end K1
open PySem PySem.W PyProof.Rows
set_option maxRecDepth 100000 in
set_option maxHeartbeats 0 in
theorem PySem.Challenge.cw_ibidem_k01_errors_holds : PySem.Challenge.rw_ibidem_k01_errors.Holds := by
  w_on; o_law; k_head; (case hw => w_witness2)
  k_fill
  refine K1.walk (l := PySem.Challenge.rw_ibidem_k01_errors) rfl rfl (fun w h Y => PySem.W.kIn_of Y) ?F
  case F =>
    intro w mg fa h KX G hmg
    refine' K1.all_mk KX G hmg ?q_aE ?q_bE ?q_dE ?q_tE ?q_third ?q_spc ?q_tkc ?q_aS ?q_a0 ?q_x0 ?q_sa0 ?q_ga0 ?q_gg0 ?q_ha0 ?q_in0 ?q_fn0 ?q_kp0 ?q_ty0 ?q_hd0 ?q_su0 ?q_lk0 ?q_co0 ?q_ce0 ?q_cd0 ?q_vf0 ?q_ff0 ?q_no0 ?q_a1 ?q_x1 ?q_sa1 ?q_ga1 ?q_gg1 ?q_ha1 ?q_in1 ?q_fn1 ?q_kp1 ?q_ty1 ?q_hd1 ?q_su1 ?q_lk1 ?q_co1 ?q_ce1 ?q_cd1 ?q_vf1 ?q_ff1 ?q_no1 ?q_a2 ?q_x2 ?q_sa2 ?q_ga2 ?q_gg2 ?q_ha2 ?q_in2 ?q_fn2 ?q_kp2 ?q_ty2 ?q_hd2 ?q_su2 ?q_lk2 ?q_co2 ?q_ce2 ?q_cd2 ?q_vf2 ?q_ff2 ?q_no2 ?q_a3 ?q_x3 ?q_sa3 ?q_ga3 ?q_gg3 ?q_ha3 ?q_in3 ?q_fn3 ?q_kp3 ?q_ty3 ?q_hd3 ?q_su3 ?q_lk3 ?q_co3 ?q_ce3 ?q_cd3 ?q_vf3 ?q_ff3 ?q_no3 ?q_a4 ?q_x4 ?q_sa4 ?q_ga4 ?q_gg4 ?q_ha4 ?q_in4 ?q_fn4 ?q_kp4 ?q_ty4 ?q_hd4 ?q_su4 ?q_lk4 ?q_co4 ?q_ce4 ?q_cd4 ?q_vf4 ?q_ff4 ?q_no4 ?q_a5 ?q_x5 ?q_sa5 ?q_ga5 ?q_gg5 ?q_ha5 ?q_in5 ?q_fn5 ?q_kp5 ?q_ty5 ?q_hd5 ?q_su5 ?q_lk5 ?q_co5 ?q_ce5 ?q_cd5 ?q_vf5 ?q_ff5 ?q_no5 ?q_a6 ?q_x6 ?q_sa6 ?q_ga6 ?q_gg6 ?q_ha6 ?q_in6 ?q_fn6 ?q_kp6 ?q_ty6 ?q_hd6 ?q_su6 ?q_lk6 ?q_co6 ?q_ce6 ?q_cd6 ?q_vf6 ?q_ff6 ?q_no6 ?q_a7 ?q_x7 ?q_sa7 ?q_ga7 ?q_gg7 ?q_ha7 ?q_in7 ?q_fn7 ?q_kp7 ?q_ty7 ?q_hd7 ?q_su7 ?q_lk7 ?q_co7 ?q_ce7 ?q_cd7 ?q_vf7 ?q_ff7 ?q_no7 ?q_a8 ?q_x8 ?q_sa8 ?q_ga8 ?q_gg8 ?q_ha8 ?q_in8 ?q_fn8 ?q_kp8 ?q_ty8 ?q_hd8 ?q_su8 ?q_lk8 ?q_co8 ?q_ce8 ?q_cd8 ?q_vf8 ?q_ff8 ?q_no8 ?q_a9 ?q_x9 ?q_sa9 ?q_ga9 ?q_gg9 ?q_ha9 ?q_in9 ?q_fn9 ?q_kp9 ?q_ty9 ?q_hd9 ?q_su9 ?q_lk9 ?q_co9 ?q_ce9 ?q_cd9 ?q_vf9 ?q_ff9 ?q_no9 ?q_a10 ?q_x10 ?q_sa10 ?q_ga10 ?q_gg10 ?q_ha10 ?q_in10 ?q_fn10 ?q_kp10 ?q_ty10 ?q_hd10 ?q_su10 ?q_lk10 ?q_co10 ?q_ce10 ?q_cd10 ?q_vf10 ?q_ff10 ?q_no10 ?q_a11 ?q_x11 ?q_sa11 ?q_ga11 ?q_gg11 ?q_ha11 ?q_in11 ?q_fn11 ?q_kp11 ?q_ty11 ?q_hd11 ?q_su11 ?q_lk11 ?q_co11 ?q_ce11 ?q_cd11 ?q_vf11 ?q_ff11 ?q_no11 ?q_no11at ?q_a12 ?q_x12 ?q_sa12 ?q_ga12 ?q_gg12 ?q_ha12 ?q_in12 ?q_fn12 ?q_kp12 ?q_ty12 ?q_hd12 ?q_su12 ?q_lk12 ?q_co12 ?q_ce12 ?q_cd12 ?q_vf12 ?q_ff12 ?q_no12 ?q_no12at ?q_nd ?q_gFlow ?q_lFlow ?q_cFlow ?q_kFlow ?q_gLoad ?q_lLoad ?q_cLoad ?q_kLoad ?q_gDraw ?q_lDraw ?q_cDraw ?q_kDraw ?q_gPick ?q_lPick ?q_cPick ?q_kPick ?q_gSame ?q_lSame ?q_cSame ?q_kSame ?q_gRaise ?q_lRaise ?q_cRaise ?q_kRaise ?q_gRaiseMore ?q_lRaiseMore ?q_cRaiseMore ?q_kRaiseMore ?q_gKept ?q_lKept ?q_cKept ?q_kKept ?q_gClasses ?q_lClasses ?q_cClasses ?q_kClasses ?q_gGiven ?q_lGiven ?q_cGiven ?q_kGiven ?q_gLaw ?q_lLaw ?q_cLaw ?q_kLaw ?q_zint ?q_zlist ?q_zlen ?q_zabs ?q_zmax ?q_zisinstance ?q_ztuple ?q_zall ?q_zrange ?q_zstr ?q_zbool ?q_zValueError
    (case q_aE => k_is)
    (case q_bE => k_is)
    (case q_dE => k_is)
    (case q_tE => k_is)
    (case q_third => k_is)
    (case q_spc => k_is)
    (case q_tkc => k_is)
    (case q_aS => k_is)
    (case q_a0 => k_is)
    (case q_x0 => k_is)
    (case q_sa0 => k_is)
    (case q_ga0 => k_is)
    (case q_gg0 => k_is)
    (case q_ha0 => k_is)
    (case q_in0 => k_is)
    (case q_fn0 => k_is)
    (case q_kp0 => k_is)
    (case q_ty0 => k_is)
    (case q_hd0 => k_is)
    (case q_su0 => ks_is)
    (case q_lk0 => k_is)
    (case q_co0 => k_is)
    (case q_ce0 => k_is)
    (case q_cd0 => k_is)
    (case q_vf0 => rfl)
    (case q_ff0 => first | rfl | decide +kernel)
    (case q_no0 => k_is)
    (case q_a1 => k_is)
    (case q_x1 => k_is)
    (case q_sa1 => k_is)
    (case q_ga1 => k_is)
    (case q_gg1 => k_is)
    (case q_ha1 => k_is)
    (case q_in1 => k_is)
    (case q_fn1 => k_is)
    (case q_kp1 => k_is)
    (case q_ty1 => k_is)
    (case q_hd1 => k_is)
    (case q_su1 => ks_is)
    (case q_lk1 => k_is)
    (case q_co1 => k_is)
    (case q_ce1 => k_is)
    (case q_cd1 => k_is)
    (case q_vf1 => rfl)
    (case q_ff1 => first | rfl | decide +kernel)
    (case q_no1 => k_is)
    (case q_a2 => k_is)
    (case q_x2 => k_is)
    (case q_sa2 => k_is)
    (case q_ga2 => k_is)
    (case q_gg2 => k_is)
    (case q_ha2 => k_is)
    (case q_in2 => k_is)
    (case q_fn2 => k_is)
    (case q_kp2 => k_is)
    (case q_ty2 => k_is)
    (case q_hd2 => k_is)
    (case q_su2 => ks_is)
    (case q_lk2 => k_is)
    (case q_co2 => k_is)
    (case q_ce2 => k_is)
    (case q_cd2 => k_is)
    (case q_vf2 => rfl)
    (case q_ff2 => first | rfl | decide +kernel)
    (case q_no2 => k_is)
    (case q_a3 => k_is)
    (case q_x3 => k_is)
    (case q_sa3 => k_is)
    (case q_ga3 => k_is)
    (case q_gg3 => k_is)
    (case q_ha3 => k_is)
    (case q_in3 => k_is)
    (case q_fn3 => k_is)
    (case q_kp3 => k_is)
    (case q_ty3 => k_is)
    (case q_hd3 => k_is)
    (case q_su3 => ks_is)
    (case q_lk3 => k_is)
    (case q_co3 => k_is)
    (case q_ce3 => k_is)
    (case q_cd3 => k_is)
    (case q_vf3 => rfl)
    (case q_ff3 => first | rfl | decide +kernel)
    (case q_no3 => k_is)
    (case q_a4 => k_is)
    (case q_x4 => k_is)
    (case q_sa4 => k_is)
    (case q_ga4 => k_is)
    (case q_gg4 => k_is)
    (case q_ha4 => k_is)
    (case q_in4 => k_is)
    (case q_fn4 => k_is)
    (case q_kp4 => k_is)
    (case q_ty4 => k_is)
    (case q_hd4 => k_is)
    (case q_su4 => ks_is)
    (case q_lk4 => k_is)
    (case q_co4 => k_is)
    (case q_ce4 => k_is)
    (case q_cd4 => k_is)
    (case q_vf4 => rfl)
    (case q_ff4 => first | rfl | decide +kernel)
    (case q_no4 => k_is)
    (case q_a5 => k_is)
    (case q_x5 => k_is)
    (case q_sa5 => k_is)
    (case q_ga5 => k_is)
    (case q_gg5 => k_is)
    (case q_ha5 => k_is)
    (case q_in5 => k_is)
    (case q_fn5 => k_is)
    (case q_kp5 => k_is)
    (case q_ty5 => k_is)
    (case q_hd5 => k_is)
    (case q_su5 => ks_is)
    (case q_lk5 => k_is)
    (case q_co5 => k_is)
    (case q_ce5 => k_is)
    (case q_cd5 => k_is)
    (case q_vf5 => rfl)
    (case q_ff5 => first | rfl | decide +kernel)
    (case q_no5 => k_is)
    (case q_a6 => k_is)
    (case q_x6 => k_is)
    (case q_sa6 => k_is)
    (case q_ga6 => k_is)
    (case q_gg6 => k_is)
    (case q_ha6 => k_is)
    (case q_in6 => k_is)
    (case q_fn6 => k_is)
    (case q_kp6 => k_is)
    (case q_ty6 => k_is)
    (case q_hd6 => k_is)
    (case q_su6 => ks_is)
    (case q_lk6 => k_is)
    (case q_co6 => k_is)
    (case q_ce6 => k_is)
    (case q_cd6 => k_is)
    (case q_vf6 => rfl)
    (case q_ff6 => first | rfl | decide +kernel)
    (case q_no6 => k_is)
    (case q_a7 => k_is)
    (case q_x7 => k_is)
    (case q_sa7 => k_is)
    (case q_ga7 => k_is)
    (case q_gg7 => k_is)
    (case q_ha7 => k_is)
    (case q_in7 => k_is)
    (case q_fn7 => k_is)
    (case q_kp7 => k_is)
    (case q_ty7 => k_is)
    (case q_hd7 => k_is)
    (case q_su7 => ks_is)
    (case q_lk7 => k_is)
    (case q_co7 => k_is)
    (case q_ce7 => k_is)
    (case q_cd7 => k_is)
    (case q_vf7 => rfl)
    (case q_ff7 => first | rfl | decide +kernel)
    (case q_no7 => k_is)
    (case q_a8 => k_is)
    (case q_x8 => k_is)
    (case q_sa8 => k_is)
    (case q_ga8 => k_is)
    (case q_gg8 => k_is)
    (case q_ha8 => k_is)
    (case q_in8 => k_is)
    (case q_fn8 => k_is)
    (case q_kp8 => k_is)
    (case q_ty8 => k_is)
    (case q_hd8 => k_is)
    (case q_su8 => ks_is)
    (case q_lk8 => k_is)
    (case q_co8 => k_is)
    (case q_ce8 => k_is)
    (case q_cd8 => k_is)
    (case q_vf8 => rfl)
    (case q_ff8 => first | rfl | decide +kernel)
    (case q_no8 => k_is)
    (case q_a9 => k_is)
    (case q_x9 => k_is)
    (case q_sa9 => k_is)
    (case q_ga9 => k_is)
    (case q_gg9 => k_is)
    (case q_ha9 => k_is)
    (case q_in9 => k_is)
    (case q_fn9 => k_is)
    (case q_kp9 => k_is)
    (case q_ty9 => k_is)
    (case q_hd9 => k_is)
    (case q_su9 => ks_is)
    (case q_lk9 => k_is)
    (case q_co9 => k_is)
    (case q_ce9 => k_is)
    (case q_cd9 => k_is)
    (case q_vf9 => rfl)
    (case q_ff9 => first | rfl | decide +kernel)
    (case q_no9 => k_is)
    (case q_a10 => k_is)
    (case q_x10 => k_is)
    (case q_sa10 => k_is)
    (case q_ga10 => k_is)
    (case q_gg10 => k_is)
    (case q_ha10 => k_is)
    (case q_in10 => k_is)
    (case q_fn10 => k_is)
    (case q_kp10 => k_is)
    (case q_ty10 => k_is)
    (case q_hd10 => k_is)
    (case q_su10 => ks_is)
    (case q_lk10 => k_is)
    (case q_co10 => k_is)
    (case q_ce10 => k_is)
    (case q_cd10 => k_is)
    (case q_vf10 => rfl)
    (case q_ff10 => first | rfl | decide +kernel)
    (case q_no10 => k_is)
    (case q_a11 => k_is)
    (case q_x11 => k_is)
    (case q_sa11 => k_is)
    (case q_ga11 => k_is)
    (case q_gg11 => k_is)
    (case q_ha11 => k_is)
    (case q_in11 => k_is)
    (case q_fn11 => k_is)
    (case q_kp11 => k_is)
    (case q_ty11 => k_is)
    (case q_hd11 => k_is)
    (case q_su11 => ks_is)
    (case q_lk11 => k_is)
    (case q_co11 => k_is)
    (case q_ce11 => k_is)
    (case q_cd11 => k_is)
    (case q_vf11 => rfl)
    (case q_ff11 => first | rfl | decide +kernel)
    (case q_no11 => k_is)
    (case q_no11at => k_is)
    (case q_a12 => k_is)
    (case q_x12 => k_is)
    (case q_sa12 => k_is)
    (case q_ga12 => k_is)
    (case q_gg12 => k_is)
    (case q_ha12 => k_is)
    (case q_in12 => k_is)
    (case q_fn12 => k_is)
    (case q_kp12 => k_is)
    (case q_ty12 => k_is)
    (case q_hd12 => k_is)
    (case q_su12 => ks_is)
    (case q_lk12 => k_is)
    (case q_co12 => k_is)
    (case q_ce12 => k_is)
    (case q_cd12 => k_is)
    (case q_vf12 => rfl)
    (case q_ff12 => first | rfl | decide +kernel)
    (case q_no12 => k_is)
    (case q_no12at => k_is)
    (case q_nd => decide)
    (case q_gFlow => k_is)
    (case q_lFlow => k_is)
    (case q_cFlow => k_is)
    (case q_kFlow => k_is)
    (case q_gLoad => k_is)
    (case q_lLoad => k_is)
    (case q_cLoad => k_is)
    (case q_kLoad => k_is)
    (case q_gDraw => k_is)
    (case q_lDraw => k_is)
    (case q_cDraw => k_is)
    (case q_kDraw => k_is)
    (case q_gPick => k_is)
    (case q_lPick => k_is)
    (case q_cPick => k_is)
    (case q_kPick => k_is)
    (case q_gSame => k_is)
    (case q_lSame => k_is)
    (case q_cSame => k_is)
    (case q_kSame => k_is)
    (case q_gRaise => k_is)
    (case q_lRaise => k_is)
    (case q_cRaise => k_is)
    (case q_kRaise => k_is)
    (case q_gRaiseMore => k_is)
    (case q_lRaiseMore => k_is)
    (case q_cRaiseMore => k_is)
    (case q_kRaiseMore => k_is)
    (case q_gKept => k_is)
    (case q_lKept => k_is)
    (case q_cKept => k_is)
    (case q_kKept => k_is)
    (case q_gClasses => k_is)
    (case q_lClasses => k_is)
    (case q_cClasses => k_is)
    (case q_kClasses => k_is)
    (case q_gGiven => k_is)
    (case q_lGiven => k_is)
    (case q_cGiven => k_is)
    (case q_kGiven => k_is)
    (case q_gLaw => k_is)
    (case q_lLaw => k_is)
    (case q_cLaw => k_is)
    (case q_kLaw => k_is)
    (case q_zint => k_is)
    (case q_zlist => k_is)
    (case q_zlen => k_is)
    (case q_zabs => k_is)
    (case q_zmax => k_is)
    (case q_zisinstance => k_is)
    (case q_ztuple => k_is)
    (case q_zall => k_is)
    (case q_zrange => k_is)
    (case q_zstr => k_is)
    (case q_zbool => k_is)
    (case q_zValueError => k_is)
