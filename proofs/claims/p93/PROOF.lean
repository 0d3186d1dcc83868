import PyProof.Rows.All
import Wide.All
import OpenK.AllK
import Wide.FinOn
import KE.KExcSuper
import HandS.ExcInit
import HandS.ExcCtx
import HandS.ForExc
import HandS.TryMany
import HandS.ExcField
import HandS.ExcIs
import HandS.WordsExc
import KE.KExcIs
import HandS.HotCalls
import HandS.Comp
import HandS.ForMost
import HandS.More
import HandS.Wide
import HandS.Codes
import HandS.Walk
import PySem.Challenge.RW_forkbeats_k93_error_classes
set_option Elab.async false
set_option linter.all false
set_option maxRecDepth 100000
set_option maxHeartbeats 4000000
/-! own errors whose __init__ first says super().__init__(text) -/
namespace PySem
namespace OwnX
open PySem.W PySem.Calls PyProof.Rows PySem.HandSPX

section
variable {prog : Program} {w : World} {A : Around} {E : Value → Shared → Prop} {h : Heap} {g : Array GenState} {d : Drawn} {t : Nat} {os : OsState}
variable {nm q : Str} {C N : Addr} {bs bm : List Value} {sn : List Str} {sub : List Value} {ab : Bool} {col : Option Bool} {dd : Option Addr} {k0 k1 k2 k3 k5 : Option Value}

theorem bw_call {u x t0 : Addr} {rest : List Value} {Q : Value → Shared → Prop}
    (hC : h.get? C = some (excClassObj nm q C N bs bm true sn sub ab col dd k0 k1 k2 k3 k5 "ValueError.__new__")) (he : h.get? x = some (excO C t0)) (hu : h.get? u = some (kxs_mw "ValueError.__init__" x)) (hrest : rest.length ≤ sizeLine)
    (hq : ∀ h' t1, (∀ b o, b ≠ x → h.get? b = some o → h'.get? b = some o) → h'.get? x = some (excO C t1) → Q .none ⟨h', g, d, t, os⟩) :
    wpAny (model prog w) A (call (.ref u) rest) Q E ⟨h, g, d, t, os⟩ := by
  refine wpAny_call (codeAny_of_tree ?_)
  show wpAny _ A.in1 (callAny (.ref u) ⟨rest, []⟩) _ _ _
  simp only [callAny]
  refine wpAny_bind (wpAny_load hu ?_)
  simp only [kxs_mw, show (Value.type "method-wrapper" == Value.type "method" || Value.type "method-wrapper" == Value.type "builtin_function_or_method" || Value.type "method-wrapper" == Value.type "method-wrapper") = true by decide, if_true]
  refine KFB.if_so (by decide) ?_
  refine wpAny_bind (check_bound_init F.excBase_ValueError.toExcCallFacts hC he rfl ?_)
  refine wpAny_bind (wpAny_pure (wpAny_pure ?_))
  refine ⟨plainId_quiet F.excBase_ValueError.init.plain _, codeAny_builtin F.excBase_ValueError.initEntry ?_⟩
  exact exc_init_tree (cls := .ref C) (t0 := t0) (dv := none) (c2 := .none) (c3 := .none) (b4 := .bool false) he hrest fun h' k e' _ => hq h' _ k e'
end

/-- what the written part says of the class at C, its __init__ at fI, its cell at cc, its code at cda -/
structure ErrC (P : Program) (K : Frag) (C : Addr) : Prop where
  cls : ∃ nm q N bs bm sn sub ab col dd k0 k1 k2 k3 k5, K.lookup C = some (excClassObj nm q C N bs bm true sn sub ab col dd k0 k1 k2 k3 k5 "ValueError.__new__") ∧ refsVE bm = true
  sup : ks_superIn K C C "__init__" = some (some (.builtin "ValueError.__init__"))
  self : mroIn K C (.ref C) = some true
  ve : subIn K (.ref C) (.type "ValueError") = some true
  opq : nsIn K cStatics "thirdparty.any" = some none
  top : (P.main.scope.names.lookup ("super" : Str)).isSome = false

section
variable {prog : Program} {w : World} {A : Around} {E : Value → Shared → Prop} {s : Shared} {K : Frag} {mg m : Str → Option Value}
theorem hev_of {o arg : Expr} {env : Env} {p2 p3 : Pos} {name : Str} (h : (p2.endLine == p3.line) = true) (hst : starEach (arg :: []) env = (false, eval arg env) :: starEach [] env) :
    eval (.Call (.Attribute o name p2) [arg] [] p3) env = (do
      let ov ← attributeBase o name env (eval o env)
      standAt p2.atName
      let (fn, first) ← holding [ov] (getMethod ov name (do return (← importBound o env).getD true))
      callWith p3 fn first (backTo p3 (starEach [arg] env)) []) := by
  rw [arm_eval_Call]
  have hf : methodCallForm ([arg].length + ([] : List Keyword).length) (backTo p3 (starEach [arg] env)) (backToKw p3 (keywordEach [] env)) = true := by
    rw [hst]
    rfl
  unfold methodCall
  rw [hf]
  unfold calleeOf methodCallPos
  simp only [h, Bool.not_true, Bool.false_or, if_true, pure_bind]
  rfl
theorem sup_init {C x t0 f cc cda L : Addr} {qual : Str} {scope : Scope} {fd : FuncData} {oc ccl cl : Value} {od cdd cld : Option Addr} {osl ccs csl : Array (Option Value)} {ar : Arg} {vs : Array Value} {file : Str} {tf : Tok}
    {p0 p1 p2 p3 p4 : Pos} {arg : Expr} {body : List Stmt} {Q : Flow → Shared → Prop}
    (T : ErrC prog K C) (X : K.In s.heap) (hg : s.heap.Ns mainGlobals mg) (hmg : mg "super" = none) (hb : ∃ mb, s.heap.Ns builtinsNs mb ∧ ∀ x : Str, x ≠ "__name__" → mb x = bootBuiltins x)
    (hn : s.heap.Ns L m) (hv : m ar.arg = some (.ref x)) (hx : s.heap.get? x = some (excO C t0)) (hxC : x ≠ C)
    (hf : K.lookup f = some ⟨oc, od, .func fd, osl⟩) (hp : (fd.params.posonlyargs ++ fd.params.args).head? = some ar)
    (hcode : K.lookup cda = some ⟨ccl, cdd, .fields vs, ccs⟩) (hvs : vs[2]? = some (.str file tf)) (hfile : ((prog.main.file : Str) == file) = true)
    (hcell : K.lookup cc = some ⟨cl, cld, .cell (some (.ref C)), csl⟩)
    (hk : scope.kind = .function) (hks : scope.names.lookup ("super" : Str) = some .globalImplicit) (hkc : scope.names.lookup ("__class__" : Str) = some .free) (hka : scope.names.lookup ar.arg = some .local)
    (harg : ∀ h' tk, (∀ b o, s.heap.get? b = some o → h'.get? b = some o) → wpAny (model prog w) A (eval arg (ksEnv qual scope L f (.ref cda) cc)) (fun _ s'' => ∃ tk', s'' = { s with heap := h', toks := tk' }) E { s with heap := h', toks := tk })
    (hst : starEach (arg :: []) (ksEnv qual scope L f (.ref cda) cc) = (false, eval arg (ksEnv qual scope L f (.ref cda) cc)) :: starEach [] (ksEnv qual scope L f (.ref cda) cc))
    {pl : Sem Bool}
    (hev : eval (.Call (.Attribute (.Call (.Name "super" p0) [] [] p1) "__init__" p2) [arg] [] p3) (ksEnv qual scope L f (.ref cda) cc) = (do
      let ov ← attributeBase (.Call (.Name "super" p0) [] [] p1) "__init__" (ksEnv qual scope L f (.ref cda) cc) (eval (.Call (.Name "super" p0) [] [] p1) (ksEnv qual scope L f (.ref cda) cc))
      standAt p2.atName
      let (fn, first) ← holding [ov] (getMethod ov "__init__" pl)
      callWith p3 fn first (backTo p3 (starEach [arg] (ksEnv qual scope L f (.ref cda) cc))) []))
    (hsw : swapsWith (.Call (.Attribute (.Call (.Name "super" p0) [] [] p1) "__init__" p2) [arg] [] p3) none p4.line (ksEnv qual scope L f (.ref cda) cc) = pure false)
    (hq : ∀ h' tk t1, (∀ b o, b ≠ x → s.heap.get? b = some o → h'.get? b = some o) → h'.get? x = some (excO C t1) → Q .next { s with heap := h', toks := tk }) :
    _root_.PySem.wpAt (model prog w) A (.func body (ksEnv qual scope L f (.ref cda) cc))
      (exec (.Expr (.Call (.Attribute (.Call (.Name "super" p0) [] [] p1) "__init__" p2) [arg] [] p3) p4) (ksEnv qual scope L f (.ref cda) cc)) Q E s := by
  obtain ⟨nm, q, N, bs, bm, sn, sub, ab, col, dd, k0, k1, k2, k3, k5, hC, hbm⟩ := T.cls
  obtain ⟨mb, hb1, hb2⟩ := hb
  have hI : interactive (ksEnv qual scope L f (.ref cda) cc) = false := by simp [interactive, hk]
  refine ks_wpAt_Expr_any ?_ hI hsw
  refine ks_wpAt_MethodCall ?_ hev
  obtain ⟨cdD, hD, hDm⟩ : ∃ cdD, clsIn K C = some cdD ∧ cdD.mro = .ref C :: bm := by
    refine ⟨{ name := nm, bases := bs, mro := .ref C :: bm, ns := N, qualname := q, hasDict := true, slotNames := sn, subclasses := sub, abstract := ab, collection := col, hasDel := false }, ?_, rfl⟩
    unfold clsIn
    rw [hC] <;> rfl
  obtain ⟨oD, hD1, hD2⟩ : ∃ oD, s.heap.get? C = some oD ∧ oD.data = .cls cdD := by
    have hD' := hD
    unfold clsIn at hD'
    split at hD'
    · rename_i c d cd' sl ho
      cases hD'
      exact ⟨_, X _ _ ho, rfl⟩
    · cases hD'
  refine ks_wpAt_super_base (env := ksEnv qual scope L f (.ref cda) cc) hks hkc rfl rfl (X _ _ hf) rfl hp rfl (X _ _ hcode) rfl hvs hfile T.top ?_
  obtain ⟨hh, g, d, t, os⟩ := s
  refine ks_loadName_global hk hks (loadGlobal_builtin (env := ksEnv qual scope L f (.ref cda) cc) hg hmg hb1 ((hb2 _ (by decide +kernel)).trans (show bootBuiltins "super" = some (.type "super") by first | boot_by_name | rfl | kernel_rfl)) ⟨rfl, ?_⟩)
  refine wpAny_loadName_free hk hkc rfl ⟨_, X _ _ hcell, rfl⟩ ?_
  refine wpAny_loadName_local hk hka hn hv ?_
  refine ks_wpAny_isType_cls hD1 hD2 ⟨rfl, ?_⟩
  refine ks_wpAny_call_super hD1 hD2 hx rfl (fun c e => ?_) (looks_mroIn X T.self) (fun h1 e1 k1 => ?_)
  · cases e
  · have X1 : K.In h1 := fun a o z => k1 a o (X a o z)
    have hx1 := k1 _ _ hx
    have I1 : InstAt h1 x (excO C t0) C none := ⟨hx1, rfl, rfl, trivial⟩
    have hI1 : Looks (model prog w) h1 (isInstance (.ref x) (.type "ValueError")) true := I1.type.andThen (looks_subIn X1 T.ve)
    have hsup := T.sup
    unfold ks_superIn at hsup
    rw [hD] at hsup
    refine kxs_getMethod (K := K) kxs_ValueError e1 (looks_opaque X1 T.opq) (l₀ := cdD.mro) ?_ rfl X1 hsup hI1 hxC rfl ?_
    · exact fun A Q E s k q => wpAny_bind ((looks_clsIn X1 hD) A _ E s k (wpAny_pure q))
    · have k2 : ∀ b o, hh.get? b = some o → (h1.push (kxs_mw "ValueError.__init__" x)).get? b = some o := fun b o z => Heap.get?_push_of_some _ (k1 b o z)
      have e2 : (h1.push (kxs_mw "ValueError.__init__" x)).get? h1.objs.size = some (kxs_mw "ValueError.__init__" x) := Heap.get?_push_at rfl rfl
      refine kxs_callWith (i := "ValueError.__init__") (x := x) (by rw [hst]; rfl) ?_
      rw [hst]
      refine evalArgs_plain ?_
      show wpAny _ _ (spliced ((false, eval arg (ksEnv qual scope L f (.ref cda) cc)) :: backTo p3 (starEach [] (ksEnv qual scope L f (.ref cda) cc)))) _ _ _
      refine Calls.spliced_cons (wpAny_mono (harg _ _ k2) (fun v s2 hs2 => ?_) fun _ _ z => z)
      obtain ⟨tk', rfl⟩ := hs2
      refine args_nil ⟨e2, ?_⟩
      refine bw_call (C := C) (x := x) (t0 := t0) (k2 _ _ (X _ _ hC)) (k2 _ _ hx) e2 (by show 1 ≤ sizeLine; rw [sizeLine_eq]; decide) (fun h' t1 k e' => ?_)
      exact hq h' tk' t1 (fun b o hb z => k b o hb (k2 b o z)) e'
end

/-! ### the texts within -/
def FmV (c : Int) : Value → Prop
  | .str z _ => (c = 114 ∧ (reprText z).length ≤ 7000000) ∨ (c = -1 ∧ z.length ≤ 7000000)
  | .int i _ => c = -1 ∧ i.natAbs.log2 < 1920
  | _ => False
section
variable {prog : Program} {w : World} {A : Around} {E : Value → Shared → Prop} {env : Env} {m : Str → Option Value} {L : Addr}
theorem int_text_small {i : Int} (h : i.natAbs.log2 < 1920) : (Str.ofString (toString i)).length ≤ 7000000 := by
  have e := int_text_length_le (k := 1920) (by decide) h
  rw [ofString_length]
  omega
/-- one field within an f-string -/
theorem fmt_one {fl : Str} {conv : Int} {a1 a2 : Pos} {v : Value} {s : Shared} {Q : Value → Shared → Prop} (hn : s.heap.Ns env.locals m) (hv : m fl = some v) (hf : FmV conv v)
    (hk : env.scope.kind = .function) (hl : env.kindOf fl = some .local) (hd : (fl == ("__debug__" : Str)) = false)
    (h : ∀ (y : Str) (t tk : Tok), y.length ≤ 7000000 → Q (.str y t) { s with toks := tk }) :
    wpAny (model prog w) A (eval (.FormattedValue (.Name fl a1) conv none a2) env) Q E s := by
  cases v with
  | str z t =>
    rcases hf with ⟨rfl, hz⟩ | ⟨rfl, hz⟩
    · refine wpAny_FormattedValue_repr (wpAny_Name (wpAny_loadName_local hk hl hn hv ?_) hd)
      refine pyReprObj_str (wpAny_formatField_str (h _ _ _ hz) (h _ _ _ hz) ?_) ?_
      all_goals rw [sizeLine_eq]; omega
    · refine wpAny_FormattedValue_plain (wpAny_Name (wpAny_loadName_local hk hl hn hv ?_) hd)
      refine wpAny_formatField_str (h _ _ _ hz) (h _ _ _ hz) ?_
      rw [sizeLine_eq]; omega
  | int i t =>
    obtain ⟨rfl, hi⟩ := hf
    refine wpAny_FormattedValue_plain (wpAny_Name (wpAny_loadName_local hk hl hn hv ?_) hd)
    exact wpAny_formatField_int hi (h _ _ _ (int_text_small hi))
  | _ => exact hf.elim
end

/-! ### the shapes of the bodies -/
def supCall (arg : Expr) (p0 p1 p2 p3 p4 : Pos) : Stmt := .Expr (.Call (.Attribute (.Call (.Name "super" p0) [] [] p1) "__init__" p2) [arg] [] p3) p4
def setSelf (f : Str) (q1 q2 q3 q4 : Pos) : Stmt := .Assign [.Attribute (.Name "self" q1) f q2] (.Name f q3) q4
def txt1 (y1 : Str) (c1 : Int) (f1 : Str) (j1 : Nat) (a0 a1 a2 a3 : Pos) : Expr := .JoinedStr [.Constant (.str y1) j1 a0, .FormattedValue (.Name f1 a1) c1 none a2] a3
def txt2 (y1 : Str) (c1 : Int) (f1 : Str) (y2 : Str) (c2 : Int) (f2 : Str) (j1 j2 : Nat) (a0 a1 a2 b0 b1 b2 a3 : Pos) : Expr :=
  .JoinedStr [.Constant (.str y1) j1 a0, .FormattedValue (.Name f1 a1) c1 none a2, .Constant (.str y2) j2 b0, .FormattedValue (.Name f2 b1) c2 none b2] a3
def scope1 (f1 : Str) : Scope := { kind := .function, names := [("self", .local), (f1, .local), ("__class__", .free), ("super", .globalImplicit)], isGenerator := false, isCoroutine := false, more := [] }
def scope2 (f1 f2 : Str) : Scope := { kind := .function, names := [("self", .local), (f1, .local), (f2, .local), ("__class__", .free), ("super", .globalImplicit)], isGenerator := false, isCoroutine := false, more := [] }
def scope0 : Scope := { kind := .function, names := [("self", .local), ("__class__", .free), ("super", .globalImplicit)], isGenerator := false, isCoroutine := false, more := [] }
def args_ (l : List Arg) : Arguments := { posonlyargs := [], args := l, vararg := none, kwonlyargs := [], kw_defaults := [], kwarg := none, defaults := [] }
def arg_ (x : Str) (p : Pos) : Arg := { arg := x, annotation := none, pos := p }
/-- what the written part says of __init__ -/
structure ErrF (P : Program) (K : Frag) (C fI : Addr) (qual : Str) (ar : Arguments) (body : List Stmt) (sc : Scope) : Prop where
  iC : findIn K (.ref C) "__init__" = some (some (.ref fI))
  tI : typeIn K (.ref fI) = some (.type "function")
  fn : ∃ (oc : Value) (od : Option Addr) (doc pm : Value) (an : Option Addr) (cda : Addr) (ct : Value) (cc : Addr) (osl : Array (Option Value)) (kV : Value),
    K.lookup fI = some ⟨oc, od, .func (ksFn "__init__" qual ar body sc .none kV doc pm an (.ref cda) ct cc), osl⟩ ∧ codeIn K (.ref cda) qual = true ∧
    (∃ ccl cdd vs ccs file tf, K.lookup cda = some ⟨ccl, cdd, .fields vs, ccs⟩ ∧ vs[2]? = some (.str file tf) ∧ ((P.main.file : Str) == file) = true) ∧
    ∃ cl cld csl, K.lookup cc = some ⟨cl, cld, .cell (some (.ref C)), csl⟩
/-- of the class, for its fields -/
structure ErrS (K : Frag) (C : Addr) (fs : List Str) : Prop where
  sa : findIn K (.ref C) "__setattr__" = some (some (.builtin "object.__setattr__"))
  no : ∀ f ∈ fs, findIn K (.ref C) f = some none
/-- what __init__ leaves of the exception at x -/
structure InitEnd (h h' : Heap) (x C : Addr) (d : Option Addr) (fs : List (Str × Value)) : Prop where
  keep : ∀ b o, b ≠ x → h.get? b = some o → h'.get? b = some o
  obj : ∃ t1 : Addr, h'.get? x = some { cls := .ref C, dict := d, data := .fields #[.ref t1, .none, .none, .none, .bool false, .none] }
  own : ∀ dx, d = some dx → h.objs.size ≤ dx ∧ dx ≠ x ∧ h'.Ns1 dx (fun y => fs.lookup y)
section
variable {prog : Program} {w : World} {A : Around} {E : Value → Shared → Prop} {R : Result → Shared → Prop} {s : Shared} {K : Frag} {mg : Str → Option Value} {C fI : Addr}
theorem one_size (v : Value) : [v].length ≤ sizeLine := by
  rw [sizeLine_eq]
  exact (by decide : 1 ≤ 16777216)
theorem lookup1 (f : Str) (v : Value) : (fun y => if y = f then some v else none) = fun y => List.lookup y [(f, v)] := by
  funext y
  by_cases h : y = f
  · subst h
    simp [List.lookup]
  · have e : (y == f) = false := by simpa using h
    rw [if_neg h]
    simp [List.lookup, e]
theorem lookup2 (f g : Str) (v u : Value) : (fun y => if y = g then some u else (if y = f then some v else none)) = fun y => List.lookup y [(g, u), (f, v)] := by
  funext y
  have e1 := congrFun (lookup1 f v) y
  by_cases h : y = g
  · subst h
    simp [List.lookup]
  · have e : (y == g) = false := by simpa using h
    rw [if_neg h, e1]
    simp [List.lookup, e]

/-- self.f = f in the body, on an exception that has no dict yet -/
theorem set_first {env : Env} {f : Str} {q1 q2 q3 q4 : Pos} {x t1 : Addr} {m : Str → Option Value} {v : Value} {Q : Flow → Shared → Prop} (T : ErrC prog K C) (S : findIn K (.ref C) "__setattr__" = some (some (.builtin "object.__setattr__"))) (no : findIn K (.ref C) f = some none)
    (X : K.In s.heap) (hn : s.heap.Ns env.locals m) (hself : m "self" = some (.ref x)) (hv : m f = some v) (hx : s.heap.get? x = some (excO C t1))
    (hk : env.scope.kind = .function) (hls : env.kindOf "self" = some .local) (hlf : env.kindOf f = some .local) (hd : (f == ("__debug__" : Str)) = false)
    (hsw : swapsWith (.Name f q3) (some (.Attribute (.Name "self" q1) f q2)) q4.line env = pure false)
    (hq : ∀ h' tk dx, (∀ b o, b ≠ x → s.heap.get? b = some o → h'.get? b = some o) → s.heap.objs.size ≤ dx → dx ≠ x → h'.get? x = some { cls := .ref C, dict := some dx, data := .fields #[.ref t1, .none, .none, .none, .bool false, .none] } →
      h'.Ns1 dx (fun y => List.lookup y [(f, v)]) → Q .next { s with heap := h', toks := tk }) :
    wpAny (model prog w) A (exec (setSelf f q1 q2 q3 q4) env) Q E s := by
  obtain ⟨nm, q, N, bs, bm, sn, sub, ab, col, dd, k0, k1, k2, k3, k5, hC, hbm⟩ := T.cls
  have hcl : clsIn K C = some { name := nm, bases := bs, mro := .ref C :: bm, ns := N, qualname := q, hasDict := true, slotNames := sn, subclasses := sub, abstract := ab, collection := col, hasDel := false } := by unfold clsIn; rw [hC] <;> rfl
  refine plainObj_wpAny_Assign_Attribute ?_ hsw
  refine wpAny_Name (wpAny_loadName_local hk hlf hn hv (wpAny_Name (wpAny_loadName_local hk hls hn hself ?_) rfl)) hd
  obtain ⟨hp, g, dr, tk, os⟩ := s
  refine set_plain X (ox := excO C t1) (od := none) ⟨hx, rfl, rfl, trivial⟩ S ?_
  refine exc_osa X hx hcl (show refsVE (.ref C :: bm) = true from hbm) rfl no (fun h₃ tk₃ dx k₃ dn dne hx₃ hn₃ => ?_)
  exact hq h₃ tk₃ dx k₃ dn dne hx₃ (by rw [← lookup1]; exact hn₃)
/-- .. on one that has its dict -/
theorem set_more {env : Env} {f g : Str} {q1 q2 q3 q4 : Pos} {x t1 dx : Addr} {m : Str → Option Value} {v u : Value} {Q : Flow → Shared → Prop} (T : ErrC prog K C) (S : findIn K (.ref C) "__setattr__" = some (some (.builtin "object.__setattr__"))) (no : findIn K (.ref C) g = some none)
    (X : K.In s.heap) (hn : s.heap.Ns env.locals m) (hself : m "self" = some (.ref x)) (hv : m g = some u) (hx : s.heap.get? x = some { cls := .ref C, dict := some dx, data := .fields #[.ref t1, .none, .none, .none, .bool false, .none] })
    (hns : s.heap.Ns1 dx (fun y => List.lookup y [(f, v)]))
    (hk : env.scope.kind = .function) (hls : env.kindOf "self" = some .local) (hlf : env.kindOf g = some .local) (hd : (g == ("__debug__" : Str)) = false)
    (hsw : swapsWith (.Name g q3) (some (.Attribute (.Name "self" q1) g q2)) q4.line env = pure false)
    (hq : ∀ h' tk, (∀ b o, b ≠ dx → s.heap.get? b = some o → h'.get? b = some o) → h'.Ns1 dx (fun y => List.lookup y [(g, u), (f, v)]) → Q .next { s with heap := h', toks := tk }) :
    wpAny (model prog w) A (exec (setSelf g q1 q2 q3 q4) env) Q E s := by
  obtain ⟨nm, q, N, bs, bm, sn, sub, ab, col, dd, k0, k1, k2, k3, k5, hC, hbm⟩ := T.cls
  have hcl : clsIn K C = some { name := nm, bases := bs, mro := .ref C :: bm, ns := N, qualname := q, hasDict := true, slotNames := sn, subclasses := sub, abstract := ab, collection := col, hasDel := false } := by unfold clsIn; rw [hC] <;> rfl
  rw [← lookup1] at hns
  have hw : Within (fun y => if y = f then some v else none) [f] := Within.cons f v Within.nil
  obtain ⟨oD, _, _, hoD, _, _⟩ := hns.count hw
  refine plainObj_wpAny_Assign_Attribute ?_ hsw
  refine wpAny_Name (wpAny_loadName_local hk hlf hn hv (wpAny_Name (wpAny_loadName_local hk hls hn hself ?_) rfl)) hd
  obtain ⟨hp, g, dr, tk, os⟩ := s
  refine set_plain X (ox := { cls := .ref C, dict := some dx, data := .fields #[.ref t1, .none, .none, .none, .bool false, .none] }) (od := some oD) ⟨hx, rfl, rfl, hoD⟩ S ?_
  refine OEX.osa_old X hx hns hw (by show 1 ≤ 1000; decide) hcl (show refsVE (.ref C :: bm) = true from hbm) rfl no (fun h' tk' k hn' => ?_)
  exact hq h' tk' k (by rw [← lookup2]; exact hn')
end

/-- the names of the fields are no names of the machine's -/
structure NmOk (f : Str) : Prop where
  a : (f == ("self" : Str)) = false
  b : (("self" : Str) == f) = false
  c : (("super" : Str) == f) = false
  d : (("__class__" : Str) == f) = false
  e : (f == ("__debug__" : Str)) = false
section
variable {prog : Program} {w : World} {A : Around} {E : Value → Shared → Prop} {R : Result → Shared → Prop} {s : Shared} {K : Frag} {mg : Str → Option Value} {C fI : Addr}
/-- what the module says at a call -/
structure ModS (K : Frag) (mg : Str → Option Value) (h : Heap) : Prop where
  kin : K.In h
  lim : h.NoLimit
  glob : h.Ns mainGlobals mg
  blt : ∃ mb, h.Ns builtinsNs mb ∧ ∀ x : Str, x ≠ "__name__" → mb x = bootBuiltins x
  sup : mg "super" = none
theorem ModS.keeps {h h' : Heap} (M : ModS K mg h) (k : ∀ b o, h.get? b = some o → h'.get? b = some o) : ModS K mg h' := by
  obtain ⟨mb, b1, b2⟩ := M.blt
  exact ⟨M.kin.keeps k, M.lim.keeps k, M.glob.at fun o q => k _ _ q, ⟨mb, b1.at fun o q => k _ _ q, b2⟩, M.sup⟩
theorem joined1 {env : Env} {y1 f1 : Str} {c1 : Int} {j1 : Nat} {a0 a1 a2 a3 : Pos} {v : Value} {m : Str → Option Value} (fm : FmV c1 v) (hy : y1.length ≤ 1000) (hv : m f1 = some v)
    (hk : env.scope.kind = .function) (hl : env.kindOf f1 = some .local) (hd : (f1 == ("__debug__" : Str)) = false) {h' : Heap} {tk : Tok} (hn : h'.Ns env.locals m) :
    wpAny (model prog w) A (eval (txt1 y1 c1 f1 j1 a0 a1 a2 a3) env) (fun _ s'' => ∃ tk', s'' = { s with heap := h', toks := tk' }) E { s with heap := h', toks := tk } := by
  refine wpAny_JoinedStr ?_
  refine Calls.Constant_str ⟨y1, _, rfl, ?_, ?_⟩
  · rw [sizeLine_eq]
    show (Str.empty ++ y1).length ≤ _
    rw [Str.length_append]
    show 0 + y1.length ≤ _
    omega
  · refine fmt_one (m := m) hn hv fm hk hl hd fun y t tk2 hz => ⟨y, t, rfl, ?_, ?_⟩
    · rw [sizeLine_eq, Str.length_append, Str.length_append]
      show 0 + y1.length + y.length ≤ _
      omega
    · refine ⟨?_, _, rfl⟩
      rw [sizeLine_eq, Str.length_append, Str.length_append]
      show 0 + y1.length + y.length ≤ _
      omega
theorem joined2 {env : Env} {y1 f1 y2 f2 : Str} {c1 c2 : Int} {j1 j2 : Nat} {a0 a1 a2 b0 b1 b2 a3 : Pos} {v u : Value} {m : Str → Option Value} (fm : FmV c1 v) (fm2 : FmV c2 u) (hy : y1.length ≤ 1000) (hy2 : y2.length ≤ 1000) (hv : m f1 = some v) (hu : m f2 = some u)
    (hk : env.scope.kind = .function) (hl : env.kindOf f1 = some .local) (hl2 : env.kindOf f2 = some .local) (hd : (f1 == ("__debug__" : Str)) = false) (hd2 : (f2 == ("__debug__" : Str)) = false) {h' : Heap} {tk : Tok} (hn : h'.Ns env.locals m) :
    wpAny (model prog w) A (eval (txt2 y1 c1 f1 y2 c2 f2 j1 j2 a0 a1 a2 b0 b1 b2 a3) env) (fun _ s'' => ∃ tk', s'' = { s with heap := h', toks := tk' }) E { s with heap := h', toks := tk } := by
  refine wpAny_JoinedStr ?_
  refine Calls.Constant_str ⟨y1, _, rfl, ?_, ?_⟩
  · rw [sizeLine_eq, Str.length_append]
    show 0 + y1.length ≤ _
    omega
  · refine fmt_one (m := m) hn hv fm hk hl hd fun y t tk2 hz => ⟨y, t, rfl, ?_, ?_⟩
    · rw [sizeLine_eq, Str.length_append, Str.length_append]
      show 0 + y1.length + y.length ≤ _
      omega
    · refine Calls.Constant_str ⟨y2, _, rfl, ?_, ?_⟩
      · rw [sizeLine_eq, Str.length_append, Str.length_append, Str.length_append]
        show 0 + y1.length + y.length + y2.length ≤ _
        omega
      · refine fmt_one (m := m) hn hu fm2 hk hl2 hd2 fun z t2 tk3 hz2 => ⟨z, t2, rfl, ?_, ?_⟩
        · rw [sizeLine_eq, Str.length_append, Str.length_append, Str.length_append, Str.length_append]
          show 0 + y1.length + y.length + y2.length + z.length ≤ _
          omega
        · refine ⟨?_, _, rfl⟩
          rw [sizeLine_eq, Str.length_append, Str.length_append, Str.length_append, Str.length_append]
          show 0 + y1.length + y.length + y2.length + z.length ≤ _
          omega
theorem init1 {qual y1 f1 : Str} {c1 : Int} {j1 : Nat} {a0 a1 a2 a3 p0 p1 p2 p3 p4 p5 p6 q1 q2 q3 q4 : Pos} {x t0 : Addr} {v : Value} (T : ErrC prog K C)
    (F : ErrF prog K C fI qual (args_ [arg_ "self" p5, arg_ f1 p6]) [supCall (txt1 y1 c1 f1 j1 a0 a1 a2 a3) p0 p1 p2 p3 p4, setSelf f1 q1 q2 q3 q4] (scope1 f1)) (S : ErrS K C [f1]) (nf : NmOk f1)
    (M : ModS K mg s.heap) (hx : s.heap.get? x = some (excO C t0)) (hnx : K.lookup x = none) (hroom : A.depth < recursionLimit) (hpos : (p2.endLine == p3.line) = true) (fm : FmV c1 v) (hy : y1.length ≤ 1000)
    (hbd : ∀ (kV doc pm : Value) (an : Option Addr) (cda : Addr) (ct : Value) (cc : Addr) (x v : Value), bindArgs (ksFn "__init__" qual (args_ [arg_ "self" p5, arg_ f1 p6]) [supCall (txt1 y1 c1 f1 j1 a0 a1 a2 a3) p0 p1 p2 p3 p4, setSelf f1 q1 q2 q3 q4] (scope1 f1) .none kV doc pm an (.ref cda) ct cc) ⟨[x, v], []⟩ = pure [(("self" : Str), x), (f1, v)])
    (hq : ∀ h' tk d, InitEnd s.heap h' x C (some d) [(f1, v)] → R (.ok (.ret .none)) { s with heap := h', toks := tk }) :
    codeAny (model prog w) A (.call (.ref fI) ⟨[.ref x, v], []⟩) R s := by
  obtain ⟨oc, od, doc, pm, an, cda, ct, cc, osl, kV, ho, hcd, ⟨ccl, cdd, vs, ccs, file, tf, hcode, hvs, hfile⟩, ⟨cl, cld, csl, hcell⟩⟩ := F.fn
  obtain ⟨nm, q, N, bs, bm, sn, sub, ab, col, dd, k0, k1, k2, k3, k5, hC, hbm⟩ := T.cls
  have X := M.kin
  have hxC : x ≠ C := fun z => by
    rw [z, X _ _ hC] at hx
    cases hx
  have lsc : List.lookup f1 (scope1 f1).names = some .local := by simp [scope1, List.lookup, nf.a]
  have lsp : List.lookup ("super" : Str) (scope1 f1).names = some .globalImplicit := by
    have e1 : (("super" : Str) == ("self" : Str)) = false := by decide
    have e2 : (("super" : Str) == ("__class__" : Str)) = false := by decide
    simp [scope1, List.lookup, nf.c, e1, e2]
  have lcl : List.lookup ("__class__" : Str) (scope1 f1).names = some .free := by
    have e1 : (("__class__" : Str) == ("self" : Str)) = false := by decide
    simp [scope1, List.lookup, nf.d, e1]
  have lse : List.lookup ("self" : Str) (scope1 f1).names = some .local := by simp [scope1, List.lookup]
  refine ks_codeAny_call_defAt (fd := ksFn "__init__" qual (args_ [arg_ "self" p5, arg_ f1 p6]) [supCall (txt1 y1 c1 f1 j1 a0 a1 a2 a3) p0 p1 p2 p3 p4, setSelf f1 q1 q2 q3 q4] (scope1 f1) .none kV doc pm an (.ref cda) ct cc)
    (body := [supCall (txt1 y1 c1 f1 j1 a0 a1 a2 a3) p0 p1 p2 p3 p4, setSelf f1 q1 q2 q3 q4]) (binds := [("self", .ref x), (f1, v)]) hroom (X _ _ ho) rfl M.lim (codeRec_of X hcd) rfl
    (BindsTo.of_eq (hbd _ _ _ _ _ _ _ _ _)) ?_ ?_ (fun h₁ hns k₁ => ?_) rfl rfl rfl
  · intro y hy'
    simp [scope1] at hy'
    rcases hy' with rfl | rfl | rfl | rfl <;> (intro z; cases z)
  · intro y hy'
    simp at hy'
    rcases hy' with rfl | rfl
    · exact lse
    · exact lsc
  have M₁ : ModS K mg h₁ := M.keeps k₁
  have m1 : (fun y => List.lookup y [(f1, v), (("self" : Str), Value.ref x)]) "self" = some (.ref x) := by simp [List.lookup, nf.b]
  have m2 : (fun y => List.lookup y [(f1, v), (("self" : Str), Value.ref x)]) f1 = some v := by simp [List.lookup]
  have hx₁ := k₁ _ _ hx
  show _root_.PySem.wpAt _ _ _ (execs _ (ksEnv qual (scope1 f1) s.heap.objs.size fI (.ref cda) cc)) _ _ _
  have hns' : h₁.Ns s.heap.objs.size (fun y => List.lookup y [(f1, v), (("self" : Str), Value.ref x)]) := hns
  refine ks_wpAt_execs_cons (sup_init (mg := mg) (ar := arg_ "self" p5) (C := C) (x := x) (t0 := t0) (m := fun y => List.lookup y [(f1, v), (("self" : Str), Value.ref x)]) T M₁.kin M₁.glob M.sup M₁.blt hns' m1 hx₁ hxC ho rfl hcode hvs hfile hcell rfl lsp lcl lse
    (fun h' tk k => joined1 (env := ksEnv qual (scope1 f1) s.heap.objs.size fI (.ref cda) cc) (m := fun y => List.lookup y [(f1, v), (("self" : Str), Value.ref x)]) fm hy m2 rfl lsc nf.e (hns'.at fun o q => k _ _ q)) rfl (hev_of hpos rfl) (by first | rfl | with_unfolding_all rfl) (fun h₂ tk₂ t₂ k₂ hx₂ => ?_))
  have L1 : s.heap.objs.size ≠ x := Nat.ne_of_gt (Heap.lt_size hx)
  have kx : ∀ b o, K.lookup b = some o → b ≠ x := fun b o z e => by rw [e, hnx] at z; cases z
  have X₂ : K.In h₂ := fun b o z => k₂ b o (kx b o z) (M₁.kin b o z)
  have hns₂ : h₂.Ns s.heap.objs.size (fun y => List.lookup y [(f1, v), (("self" : Str), Value.ref x)]) := hns'.at fun o q => k₂ _ _ L1 q
  show _root_.PySem.wpAt _ _ _ (execs _ (ksEnv qual (scope1 f1) s.heap.objs.size fI (.ref cda) cc)) _ _ _
  refine wpAt_of_wpAny (wpAny_execs_cons (set_first (C := C) (x := x) (t1 := t₂) (m := fun y => List.lookup y [(f1, v), (("self" : Str), Value.ref x)]) T S.sa (S.no f1 (by simp)) X₂ hns₂ m1 m2 hx₂ rfl lse lsc nf.e rfl (fun h₃ tk₃ dx k₃ dn dne hx₃ hn₃ => ?_)))
  refine wpAny_execs_nil (hq h₃ tk₃ dx ⟨fun b o hb e => k₃ b o hb (k₂ b o hb (k₁ b o e)), ⟨_, hx₃⟩, fun dx' e => ?_⟩)
  cases e
  have z1 : s.heap.objs.size < h₁.objs.size := hns'.lt
  have z2 : s.heap.objs.size < h₂.objs.size := hns₂.lt
  exact ⟨Nat.le_of_lt (Nat.lt_of_lt_of_le z2 dn), dne, hn₃⟩
theorem init2 {qual y1 f1 y2 f2 : Str} {c1 c2 : Int} {j1 j2 : Nat} {a0 a1 a2 b0 b1 b2 a3 p0 p1 p2 p3 p4 p5 p6 p7 q1 q2 q3 q4 r1 r2 r3 r4 : Pos} {x t0 : Addr} {v u : Value} (T : ErrC prog K C)
    (F : ErrF prog K C fI qual (args_ [arg_ "self" p5, arg_ f1 p6, arg_ f2 p7]) [supCall (txt2 y1 c1 f1 y2 c2 f2 j1 j2 a0 a1 a2 b0 b1 b2 a3) p0 p1 p2 p3 p4, setSelf f1 q1 q2 q3 q4, setSelf f2 r1 r2 r3 r4] (scope2 f1 f2)) (S : ErrS K C [f1, f2]) (nf : NmOk f1) (nf2 : NmOk f2) (ne : (f1 == f2) = false) (ne2 : (f2 == f1) = false)
    (M : ModS K mg s.heap) (hx : s.heap.get? x = some (excO C t0)) (hnx : K.lookup x = none) (hroom : A.depth < recursionLimit) (hpos : (p2.endLine == p3.line) = true) (fm : FmV c1 v) (fm2 : FmV c2 u) (hy : y1.length ≤ 1000) (hy2 : y2.length ≤ 1000)
    (hbd : ∀ (kV doc pm : Value) (an : Option Addr) (cda : Addr) (ct : Value) (cc : Addr) (x v u : Value), bindArgs (ksFn "__init__" qual (args_ [arg_ "self" p5, arg_ f1 p6, arg_ f2 p7]) [supCall (txt2 y1 c1 f1 y2 c2 f2 j1 j2 a0 a1 a2 b0 b1 b2 a3) p0 p1 p2 p3 p4, setSelf f1 q1 q2 q3 q4, setSelf f2 r1 r2 r3 r4] (scope2 f1 f2) .none kV doc pm an (.ref cda) ct cc) ⟨[x, v, u], []⟩ = pure [(("self" : Str), x), (f1, v), (f2, u)])
    (hq : ∀ h' tk d, InitEnd s.heap h' x C (some d) [(f2, u), (f1, v)] → R (.ok (.ret .none)) { s with heap := h', toks := tk }) :
    codeAny (model prog w) A (.call (.ref fI) ⟨[.ref x, v, u], []⟩) R s := by
  obtain ⟨oc, od, doc, pm, an, cda, ct, cc, osl, kV, ho, hcd, ⟨ccl, cdd, vs, ccs, file, tf, hcode, hvs, hfile⟩, ⟨cl, cld, csl, hcell⟩⟩ := F.fn
  obtain ⟨nm, q, N, bs, bm, sn, sub, ab, col, dd, k0, k1, k2, k3, k5, hC, hbm⟩ := T.cls
  have X := M.kin
  have hxC : x ≠ C := fun z => by
    rw [z, X _ _ hC] at hx
    cases hx
  have lsc : List.lookup f1 (scope2 f1 f2).names = some .local := by simp [scope2, List.lookup, nf.a]
  have lsc2 : List.lookup f2 (scope2 f1 f2).names = some .local := by simp [scope2, List.lookup, nf2.a, ne2]
  have lsp : List.lookup ("super" : Str) (scope2 f1 f2).names = some .globalImplicit := by
    have e1 : (("super" : Str) == ("self" : Str)) = false := by decide
    have e2 : (("super" : Str) == ("__class__" : Str)) = false := by decide
    simp [scope2, List.lookup, nf.c, nf2.c, e1, e2]
  have lcl : List.lookup ("__class__" : Str) (scope2 f1 f2).names = some .free := by
    have e1 : (("__class__" : Str) == ("self" : Str)) = false := by decide
    simp [scope2, List.lookup, nf.d, nf2.d, e1]
  have lse : List.lookup ("self" : Str) (scope2 f1 f2).names = some .local := by simp [scope2, List.lookup]
  refine ks_codeAny_call_defAt (fd := ksFn "__init__" qual (args_ [arg_ "self" p5, arg_ f1 p6, arg_ f2 p7]) [supCall (txt2 y1 c1 f1 y2 c2 f2 j1 j2 a0 a1 a2 b0 b1 b2 a3) p0 p1 p2 p3 p4, setSelf f1 q1 q2 q3 q4, setSelf f2 r1 r2 r3 r4] (scope2 f1 f2) .none kV doc pm an (.ref cda) ct cc)
    (body := [supCall (txt2 y1 c1 f1 y2 c2 f2 j1 j2 a0 a1 a2 b0 b1 b2 a3) p0 p1 p2 p3 p4, setSelf f1 q1 q2 q3 q4, setSelf f2 r1 r2 r3 r4]) (binds := [("self", .ref x), (f1, v), (f2, u)]) hroom (X _ _ ho) rfl M.lim (codeRec_of X hcd) rfl
    (BindsTo.of_eq (hbd _ _ _ _ _ _ _ _ _ _)) ?_ ?_ (fun h₁ hns k₁ => ?_) rfl rfl rfl
  · intro y hy'
    simp [scope2] at hy'
    rcases hy' with rfl | rfl | rfl | rfl | rfl <;> (intro z; cases z)
  · intro y hy'
    simp at hy'
    rcases hy' with rfl | rfl | rfl
    · exact lse
    · exact lsc
    · exact lsc2
  have M₁ : ModS K mg h₁ := M.keeps k₁
  have m1 : (fun y => List.lookup y [(f2, u), (f1, v), (("self" : Str), Value.ref x)]) "self" = some (.ref x) := by simp [List.lookup, nf.b, nf2.b]
  have m2 : (fun y => List.lookup y [(f2, u), (f1, v), (("self" : Str), Value.ref x)]) f1 = some v := by simp [List.lookup, ne]
  have m3 : (fun y => List.lookup y [(f2, u), (f1, v), (("self" : Str), Value.ref x)]) f2 = some u := by simp [List.lookup]
  have hx₁ := k₁ _ _ hx
  show _root_.PySem.wpAt _ _ _ (execs _ (ksEnv qual (scope2 f1 f2) s.heap.objs.size fI (.ref cda) cc)) _ _ _
  have hns' : h₁.Ns s.heap.objs.size (fun y => List.lookup y [(f2, u), (f1, v), (("self" : Str), Value.ref x)]) := hns
  refine ks_wpAt_execs_cons (sup_init (mg := mg) (ar := arg_ "self" p5) (C := C) (x := x) (t0 := t0) (m := fun y => List.lookup y [(f2, u), (f1, v), (("self" : Str), Value.ref x)]) T M₁.kin M₁.glob M.sup M₁.blt hns' m1 hx₁ hxC ho rfl hcode hvs hfile hcell rfl lsp lcl lse
    (fun h' tk k => joined2 (env := ksEnv qual (scope2 f1 f2) s.heap.objs.size fI (.ref cda) cc) (m := fun y => List.lookup y [(f2, u), (f1, v), (("self" : Str), Value.ref x)]) fm fm2 hy hy2 m2 m3 rfl lsc lsc2 nf.e nf2.e (hns'.at fun o q => k _ _ q)) rfl (hev_of hpos rfl) (by first | rfl | with_unfolding_all rfl) (fun h₂ tk₂ t₂ k₂ hx₂ => ?_))
  have L1 : s.heap.objs.size ≠ x := Nat.ne_of_gt (Heap.lt_size hx)
  have kx : ∀ b o, K.lookup b = some o → b ≠ x := fun b o z e => by rw [e, hnx] at z; cases z
  have X₂ : K.In h₂ := fun b o z => k₂ b o (kx b o z) (M₁.kin b o z)
  have hns₂ : h₂.Ns s.heap.objs.size (fun y => List.lookup y [(f2, u), (f1, v), (("self" : Str), Value.ref x)]) := hns'.at fun o q => k₂ _ _ L1 q
  show _root_.PySem.wpAt _ _ _ (execs _ (ksEnv qual (scope2 f1 f2) s.heap.objs.size fI (.ref cda) cc)) _ _ _
  refine wpAt_of_wpAny (wpAny_execs_cons (set_first (C := C) (x := x) (t1 := t₂) (m := fun y => List.lookup y [(f2, u), (f1, v), (("self" : Str), Value.ref x)]) T S.sa (S.no f1 (by simp)) X₂ hns₂ m1 m2 hx₂ rfl lse lsc nf.e rfl (fun h₃ tk₃ dx k₃ dn dne hx₃ hn₃ => ?_)))
  have X₃ : K.In h₃ := fun b o z => k₃ b o (kx b o z) (X₂ b o z)
  have hns₃ : h₃.Ns s.heap.objs.size (fun y => List.lookup y [(f2, u), (f1, v), (("self" : Str), Value.ref x)]) := hns₂.at fun o q => k₃ _ _ L1 q
  have z1 : s.heap.objs.size < h₁.objs.size := hns'.lt
  have z2 : s.heap.objs.size < h₂.objs.size := hns₂.lt
  have z3 : s.heap.objs.size < dx := Nat.lt_of_lt_of_le z2 dn
  show wpAny _ _ (execs _ (ksEnv qual (scope2 f1 f2) s.heap.objs.size fI (.ref cda) cc)) _ _ _
  refine wpAny_execs_cons (set_more (C := C) (x := x) (t1 := t₂) (dx := dx) (m := fun y => List.lookup y [(f2, u), (f1, v), (("self" : Str), Value.ref x)]) T S.sa (S.no f2 (by simp)) X₃ hns₃ m1 m3 hx₃ hn₃ rfl lse lsc2 nf2.e rfl (fun h₄ tk₄ k₄ hn₄ => ?_))
  refine wpAny_execs_nil (hq h₄ tk₄ dx ⟨fun b o hb e => k₄ b o (fun z => ?_) (k₃ b o hb (k₂ b o hb (k₁ b o e))), ⟨_, k₄ _ _ (Ne.symm dne) hx₃⟩, fun dx' e => ?_⟩)
  · exact absurd (Heap.lt_size e) (by rw [z]; exact Nat.not_lt.mpr (Nat.le_of_lt z3))
  cases e
  exact ⟨Nat.le_of_lt z3, dne, hn₄⟩
theorem init0 {qual y1 : Str} {j1 : Nat} {a0 p0 p1 p2 p3 p4 p5 : Pos} {x t0 : Addr} (T : ErrC prog K C)
    (F : ErrF prog K C fI qual (args_ [arg_ "self" p5]) [supCall (.Constant (.str y1) j1 a0) p0 p1 p2 p3 p4] scope0)
    (M : ModS K mg s.heap) (hx : s.heap.get? x = some (excO C t0)) (hnx : K.lookup x = none) (hroom : A.depth < recursionLimit) (hpos : (p2.endLine == p3.line) = true)
    (hbd : ∀ (kV doc pm : Value) (an : Option Addr) (cda : Addr) (ct : Value) (cc : Addr) (x : Value), bindArgs (ksFn "__init__" qual (args_ [arg_ "self" p5]) [supCall (.Constant (.str y1) j1 a0) p0 p1 p2 p3 p4] scope0 .none kV doc pm an (.ref cda) ct cc) ⟨[x], []⟩ = pure [(("self" : Str), x)])
    (hq : ∀ h' tk, InitEnd s.heap h' x C none [] → R (.ok (.ret .none)) { s with heap := h', toks := tk }) :
    codeAny (model prog w) A (.call (.ref fI) ⟨[.ref x], []⟩) R s := by
  obtain ⟨oc, od, doc, pm, an, cda, ct, cc, osl, kV, ho, hcd, ⟨ccl, cdd, vs, ccs, file, tf, hcode, hvs, hfile⟩, ⟨cl, cld, csl, hcell⟩⟩ := F.fn
  obtain ⟨nm, q, N, bs, bm, sn, sub, ab, col, dd, k0, k1, k2, k3, k5, hC, hbm⟩ := T.cls
  have X := M.kin
  have hxC : x ≠ C := fun z => by
    rw [z, X _ _ hC] at hx
    cases hx
  refine ks_codeAny_call_defAt (fd := ksFn "__init__" qual (args_ [arg_ "self" p5]) [supCall (.Constant (.str y1) j1 a0) p0 p1 p2 p3 p4] scope0 .none kV doc pm an (.ref cda) ct cc)
    (body := [supCall (.Constant (.str y1) j1 a0) p0 p1 p2 p3 p4]) (binds := [("self", .ref x)]) hroom (X _ _ ho) rfl M.lim (codeRec_of X hcd) rfl
    (BindsTo.of_eq (hbd _ _ _ _ _ _ _ _)) (by show ∀ x ∈ scope0.names, x.2 ≠ .cell; decide) ?_ (fun h₁ hns k₁ => ?_) rfl rfl rfl
  · intro y hy'
    simp at hy'
    subst hy'
    rfl
  have M₁ : ModS K mg h₁ := M.keeps k₁
  have m1 : (fun y => List.lookup y [(("self" : Str), Value.ref x)]) "self" = some (.ref x) := by simp [List.lookup]
  have hx₁ := k₁ _ _ hx
  show _root_.PySem.wpAt _ _ _ (execs _ (ksEnv qual scope0 s.heap.objs.size fI (.ref cda) cc)) _ _ _
  have hns' : h₁.Ns s.heap.objs.size (fun y => List.lookup y [(("self" : Str), Value.ref x)]) := hns
  refine ks_wpAt_execs_cons (sup_init (mg := mg) (ar := arg_ "self" p5) (C := C) (x := x) (t0 := t0) (m := fun y => List.lookup y [(("self" : Str), Value.ref x)]) T M₁.kin M₁.glob M.sup M₁.blt hns' m1 hx₁ hxC ho rfl hcode hvs hfile hcell rfl rfl rfl rfl
    (fun h' tk k => Calls.Constant_str ⟨_, rfl⟩) rfl (hev_of hpos rfl) (by first | rfl | with_unfolding_all rfl) (fun h₂ tk₂ t₂ k₂ hx₂ => ?_))
  refine wpAt_of_wpAny (wpAny_execs_nil (hq h₂ tk₂ ⟨fun b o hb e => k₂ b o hb (k₁ b o e), ⟨_, hx₂⟩, fun dx' e => ?_⟩))
  cases e

/-- a made error -/
structure OwnMade (h h' : Heap) (e C : Addr) (d : Option Addr) (fs : List (Str × Value)) : Prop where
  keep : ∀ b o, h.get? b = some o → h'.get? b = some o
  new : h.objs.size ≤ e
  obj : ∃ oe vs, h'.get? e = some oe ∧ oe.cls = .ref C ∧ oe.dict = d ∧ oe.data = .fields vs ∧ vs[1]? = some .none ∧ vs[2]? = some .none
  own : ∀ dx, d = some dx → h.objs.size ≤ dx ∧ dx ≠ e ∧ h'.Ns1 dx (fun y => fs.lookup y)
/-- __init__ of the class at C, called with rest, leaves the fields fs -/
def InitOk (prog : Program) (w : World) (K : Frag) (mg : Str → Option Value) (C fI : Addr) (rest : List Value) (fs : List (Str × Value)) (own : Bool) : Prop :=
  ∀ (A : Around) (R : Result → Shared → Prop) (s : Shared) (x t0 : Addr), ModS K mg s.heap → s.heap.get? x = some (excO C t0) → K.lookup x = none → A.depth < recursionLimit →
    (∀ h' tk d, InitEnd s.heap h' x C d fs → d.isSome = own → R (.ok (.ret .none)) { s with heap := h', toks := tk }) → codeAny (model prog w) A (.call (.ref fI) ⟨.ref x :: rest, []⟩) R s
theorem made {rest : List Value} {fs : List (Str × Value)} {own : Bool} (T : ErrC prog K C) (iC : findIn K (.ref C) "__init__" = some (some (.ref fI))) (tI : typeIn K (.ref fI) = some (.type "function")) (I : InitOk prog w K mg C fI rest fs own)
    (M : ModS K mg s.heap) (hroom : A.depth + 1 < recursionLimit) (hz : rest.length ≤ sizeLine)
    (hq : ∀ h' tk e d, OwnMade s.heap h' e C d fs → d.isSome = own → R (.ok (.ret (.ref e))) { s with heap := h', toks := tk }) :
    codeAny (model prog w) A (.call (.ref C) ⟨rest, []⟩) R s := by
  obtain ⟨nm, q, N, bs, bm, sn, sub, ab, col, dd, k0, k1, k2, k3, k5, hC, hbm⟩ := T.cls
  obtain ⟨hp, g, dr, tk, os⟩ := s
  have X := M.kin
  have k : ∀ b o, hp.get? b = some o → ((hp.push (kdv_tup rest)).push (excO C hp.objs.size)).get? b = some o := fun b o e => Heap.get?_push_of_some _ (Heap.get?_push_of_some _ e)
  have hget : ((hp.push (kdv_tup rest)).push (excO C hp.objs.size)).get? (hp.objs.size + 1) = some (excO C hp.objs.size) := by heap_get
  have hnx : K.lookup (hp.objs.size + 1) = none := by
    cases e : K.lookup (hp.objs.size + 1) with
    | none => rfl
    | some o =>
      have z : hp.get? (hp.objs.size + 1) = some o := X _ _ e
      exact absurd (Nat.lt_of_succ_lt (Heap.lt_size z)) (Nat.lt_irrefl _)
  refine call_own F.excBase_ValueError (fun Y => refsVE_contains Y bm hbm) (X _ _ hC) (looks_findIn X iC) (fun self => bind_fn X self tI) hz ?_
  refine I _ _ ⟨(hp.push (kdv_tup rest)).push (excO C hp.objs.size), g, dr, tk, os⟩ (hp.objs.size + 1) hp.objs.size (M.keeps k) hget hnx ?_ fun h' tk' d ⟨k', ⟨t1, hx⟩, hd⟩ ho => ?_
  · show A.depth + 1 < recursionLimit
    exact hroom
  · have old : ∀ b o, hp.get? b = some o → h'.get? b = some o := fun b o e => k' b o (Nat.ne_of_lt (Nat.lt_succ_of_lt (Heap.lt_size e))) (k b o e)
    refine ⟨rfl, hq h' tk' (hp.objs.size + 1) d ⟨old, Nat.le_succ _, ⟨_, _, hx, rfl, rfl, rfl, rfl, rfl⟩, fun dx e => ?_⟩ ho⟩
    obtain ⟨dn, dne, hns⟩ := hd dx e
    have z : hp.objs.size + 1 + 1 ≤ dx := by
      first
        | (simpa only [Heap.size_push] using dn)
        | exact dn
        | (have q := dn; rw [Heap.size_push, Heap.size_push] at q; exact q)
    exact ⟨Nat.le_trans (Nat.le_trans (Nat.le_succ _) (Nat.le_succ _)) z, dne, hns⟩
end
end OwnX
end PySem
namespace L2
open PySem PySem.Spec PyProof.Rows
/-- a class of errors of the program, called x, at C, its __init__ at fI -/
structure ErrK (P : Program) (K : PySem.W.Frag) (mg : Str → Option Value) (x : Str) (C fI : Addr) : Prop where
  gC : mg x = some (.ref C)
  T : PySem.OwnX.ErrC P K C
  kC : PySem.W.keepIn K (.ref C) = true
  exC : PySem.W.subIn K (.ref C) (.type "BaseException") = some true
  tyC : PySem.W.typeIn K (.ref C) = some (.type "type")
  iC : PySem.W.findIn K (.ref C) "__init__" = some (some (.ref fI))
  tI : PySem.W.typeIn K (.ref fI) = some (.type "function")
  sup : mg "super" = none
theorem relO_list : ∀ {fs : List (Str × V)} {us : List (Str × Value)}, KV fs us → ∀ f, RelO (fs.lookup f) (us.lookup f)
  | _, _, .nil, f => trivial
  | (a, v) :: fs, (b, u) :: us, .cons ⟨e, r⟩ t, f => by
    have e' : a = b := e
    subst e'
    by_cases h : f = a
    · subst h
      simp only [List.lookup, beq_self_eq_true]
      exact r
    · have z : (f == a) = false := by simpa using h
      simp only [List.lookup, z]
      exact relO_list t f
section
variable {X : Cx} {C fI : Addr} {x : Str}
theorem Inv.modS {pins : List (Addr × Obj)} {σ : St} {H : Hp} {s : Shared} (I : Inv X pins σ H s) (h : X.mg "super" = none) : PySem.OwnX.ModS X.K X.mg s.heap := by
  obtain ⟨mb, b1, b2⟩ := I.ok.mod.blt
  exact ⟨I.kIn, I.nolimit, I.ok.mod.glob.at fun o q => I.bk _ _ q, ⟨mb, b1.at fun o q => I.bk _ _ q, b2⟩, h⟩
/-- x(e, ..): fs tells the fields off the arguments; ok what is asked of them -/
def tMkE (C : Addr) (ok : List V → Prop) (fs : List V → List (Str × V)) (ta : TA) : St → Hp → XK → Prop := fun σ H Q => ta σ H fun vs H1 => ok vs ∧ ∀ d, H1 d = none → Q (.ref C) (some d) (upd H1 d (.xd (fs vs)))
theorem pmk_err {a : Expr} {as : List Expr} {ta : TA} {p pos : Pos} {k : Nat} {ok : List V → Prop} {fs : List V → List (Str × V)} (T : ErrK X.prog X.K X.mg x C fI)
    (hi : ∀ vs us, Vals vs us → ok vs → us.length ≤ sizeLine ∧ ∃ ufs, KV (fs vs) ufs ∧ PySem.OwnX.InitOk X.prog X.w X.K X.mg C fI us ufs true)
    (hr : Room k X.A) (ha : PA X (a :: as) ta) (hg : Gl X x) (hdb : (x == ("__debug__" : Str)) = false := by decide)
    (he : starEach (a :: as) X.env = (false, eval a X.env) :: starEach as X.env := by rfl) (hpl : (backTo pos (starEach as X.env)).any (·.1) = false := by rfl) :
    L2N.PMk X (.Call (.Name x p) (a :: as) [] pos) (tMkE C ok fs ta) := by
  intro pins s σ H Q I h
  refine wpAny_Call_Name_kw (ld_glob I hg T.gC ?_ hdb)
  refine PySem.W.callWith_K (h₀ := X.base) I.ok.mod.kin T.kC (thn (ha.run pos pins s σ H _ I h) fun us s1 hh => ?_) he hpl
  obtain ⟨vs, H1, I1, r1, hok, q1⟩ := hh
  obtain ⟨hz, ufs, kv, hin⟩ := hi vs us r1 hok
  refine ⟨I1.kIn, ?_⟩
  show wpAny _ _ (call (.ref C) us) _ _ _
  have M0 := I1.modS T.sup
  obtain ⟨hp, g, dr, tk, os⟩ := s1
  refine wpAny_call (PySem.OwnX.made T.T T.iC T.tI hin M0 (by have := hr.dp; omega) hz fun h' tk' e d M ho => ?_)
  show L2N.MkP X pins σ Q (.ref e) ⟨h', g, dr, tk', os⟩
  obtain ⟨oe, fv, hoe, hc, hd, hdat, h1, h2⟩ := M.obj
  cases d with
  | none => cases ho
  | some d =>
    obtain ⟨dbig, dne, hns⟩ := M.own d rfl
    obtain ⟨G', g1, g2⟩ := restrict h' fun b => decide (b ≠ e)
    have gk : ∀ b, b ≠ e → G'.get? b = h'.get? b := fun b hb => g1 b (decide_eq_true hb)
    have ge : G'.get? e = none := g2 e (by simp)
    have old : ∀ b o, hp.get? b = some o → G'.get? b = some o := fun b o q => (gk b (Nat.ne_of_lt (Nat.lt_of_lt_of_le (Heap.lt_size q) M.new))).trans (M.keep b o q)
    have ob : ObjOk X.prog X.w (upd H1 d (.xd (fs vs))) G' d (.xd (fs vs)) :=
      ⟨_, hns.at (fun o q => (gk d dne).trans q), fun f => relO_list kv f⟩
    have J : Inv X pins σ (upd H1 d (.xd (fs vs))) ⟨G', g, dr, tk', os⟩ := I1.laid (t' := tk') old dbig ob
    refine ⟨e, oe, fv, ⟨G', g, dr, tk', os⟩, _, .ref C, some d, rfl, J, fun b o q => ?_, ge, hoe, ⟨hc, hd, fun z hz => by rw [hdat] at hz; cases hz; exact h2⟩, hdat, h1, ?_, rfl, I1.bare, raises_own T.exC T.tyC, q1 d (I1.hok.fresh dbig)⟩
    · by_cases hb : b = e
      · have q' : G'.get? b = some o := q
        rw [hb, ge] at q'; cases q'
      · exact (gk b hb).symm.trans q
    · rw [upd_ne (Ne.symm dne)]
      exact I1.hok.fresh M.new
end
end L2

/-! the classes of errors of the program, as a def of the text meets them -/
namespace PySem
namespace OwnX
open PySem.W PySem.Calls PyProof.Rows PySem.HandSPX
/-- what is asked of the text -/
structure ShapeOk (p2 p3 : Pos) (y : Str) : Prop where
  pos : (p2.endLine == p3.line) = true
  len : y.length ≤ 1000
structure Bd1 (qual : Str) (ar : Arguments) (body : List Stmt) (sc : Scope) (f1 : Str) : Prop where
  b : ∀ (kV doc pm : Value) (an : Option Addr) (cda : Addr) (ct : Value) (cc : Addr) (x v : Value), bindArgs (ksFn "__init__" qual ar body sc .none kV doc pm an (.ref cda) ct cc) ⟨[x, v], []⟩ = pure [(("self" : Str), x), (f1, v)]
structure Bd2 (qual : Str) (ar : Arguments) (body : List Stmt) (sc : Scope) (f1 f2 : Str) : Prop where
  b : ∀ (kV doc pm : Value) (an : Option Addr) (cda : Addr) (ct : Value) (cc : Addr) (x v u : Value), bindArgs (ksFn "__init__" qual ar body sc .none kV doc pm an (.ref cda) ct cc) ⟨[x, v, u], []⟩ = pure [(("self" : Str), x), (f1, v), (f2, u)]
structure Bd0 (qual : Str) (ar : Arguments) (body : List Stmt) (sc : Scope) : Prop where
  b : ∀ (kV doc pm : Value) (an : Option Addr) (cda : Addr) (ct : Value) (cc : Addr) (x : Value), bindArgs (ksFn "__init__" qual ar body sc .none kV doc pm an (.ref cda) ct cc) ⟨[x], []⟩ = pure [(("self" : Str), x)]
/-- __init__ with one field: its text -/
def Sh1 (st : Stmt) (f1 : Str) (c1 : Int) (qual : Str) : Prop := ∃ (y1 : Str) (j1 : Nat) (a0 a1 a2 a3 p0 p1 p2 p3 p4 p5 p6 q1 q2 q3 q4 : Pos),
  L2.defArgs st = args_ [arg_ "self" p5, arg_ f1 p6] ∧ L2.defBody st = [supCall (txt1 y1 c1 f1 j1 a0 a1 a2 a3) p0 p1 p2 p3 p4, setSelf f1 q1 q2 q3 q4] ∧ L2.defScope st = scope1 f1 ∧ ShapeOk p2 p3 y1 ∧ Bd1 qual (L2.defArgs st) (L2.defBody st) (L2.defScope st) f1
def Sh2 (st : Stmt) (f1 : Str) (c1 : Int) (f2 : Str) (c2 : Int) (qual : Str) : Prop := ∃ (y1 y2 : Str) (j1 j2 : Nat) (a0 a1 a2 b0 b1 b2 a3 p0 p1 p2 p3 p4 p5 p6 p7 q1 q2 q3 q4 r1 r2 r3 r4 : Pos),
  L2.defArgs st = args_ [arg_ "self" p5, arg_ f1 p6, arg_ f2 p7] ∧ L2.defBody st = [supCall (txt2 y1 c1 f1 y2 c2 f2 j1 j2 a0 a1 a2 b0 b1 b2 a3) p0 p1 p2 p3 p4, setSelf f1 q1 q2 q3 q4, setSelf f2 r1 r2 r3 r4] ∧ L2.defScope st = scope2 f1 f2 ∧ ShapeOk p2 p3 y1 ∧ y2.length ≤ 1000 ∧ Bd2 qual (L2.defArgs st) (L2.defBody st) (L2.defScope st) f1 f2
def Sh0 (st : Stmt) (qual : Str) : Prop := ∃ (y1 : Str) (j1 : Nat) (a0 p0 p1 p2 p3 p4 p5 : Pos),
  L2.defArgs st = args_ [arg_ "self" p5] ∧ L2.defBody st = [supCall (.Constant (.str y1) j1 a0) p0 p1 p2 p3 p4] ∧ L2.defScope st = scope0 ∧ (p2.endLine == p3.line) = true ∧ Bd0 qual (L2.defArgs st) (L2.defBody st) (L2.defScope st)
section
variable {prog : Program} {w : World} {K : Frag} {mg : Str → Option Value} {C fI : Addr} {st : Stmt} {qual f1 f2 : Str} {c1 c2 : Int}
theorem initOk1 (T : ErrC prog K C) (F : ErrF prog K C fI qual (L2.defArgs st) (L2.defBody st) (L2.defScope st)) (S : ErrS K C [f1]) (sh : Sh1 st f1 c1 qual) (nf : NmOk f1) {v : Value} (fm : FmV c1 v) : InitOk prog w K mg C fI [v] [(f1, v)] true := by
  obtain ⟨y1, j1, a0, a1, a2, a3, p0, p1, p2, p3, p4, p5, p6, q1, q2, q3, q4, ea, eb, es, so, bd⟩ := sh
  rw [ea, eb, es] at F bd
  exact fun A R s x t0 M hx hnx hr hq => init1 T F S nf M hx hnx hr so.pos fm so.len bd.b fun h' tk d e => hq h' tk (some d) e rfl
theorem initOk2 (T : ErrC prog K C) (F : ErrF prog K C fI qual (L2.defArgs st) (L2.defBody st) (L2.defScope st)) (S : ErrS K C [f1, f2]) (sh : Sh2 st f1 c1 f2 c2 qual) (nf : NmOk f1) (nf2 : NmOk f2) (ne : (f1 == f2) = false) (ne2 : (f2 == f1) = false) {v u : Value} (fm : FmV c1 v) (fm2 : FmV c2 u) :
    InitOk prog w K mg C fI [v, u] [(f2, u), (f1, v)] true := by
  obtain ⟨y1, y2, j1, j2, a0, a1, a2, b0, b1, b2, a3, p0, p1, p2, p3, p4, p5, p6, p7, q1, q2, q3, q4, r1, r2, r3, r4, ea, eb, es, so, so2, bd⟩ := sh
  rw [ea, eb, es] at F bd
  exact fun A R s x t0 M hx hnx hr hq => init2 T F S nf nf2 ne ne2 M hx hnx hr so.pos fm fm2 so.len so2 bd.b fun h' tk d e => hq h' tk (some d) e rfl
theorem initOk0 (T : ErrC prog K C) (F : ErrF prog K C fI qual (L2.defArgs st) (L2.defBody st) (L2.defScope st)) (sh : Sh0 st qual) : InitOk prog w K mg C fI [] [] false := by
  obtain ⟨y1, j1, a0, p0, p1, p2, p3, p4, p5, ea, eb, es, so, bd⟩ := sh
  rw [ea, eb, es] at F bd
  exact fun A R s x t0 M hx hnx hr hq => init0 T F M hx hnx hr so bd.b fun h' tk e => hq h' tk none e rfl
end
end OwnX
end PySem
namespace L2
open PySem PySem.Spec PyProof.Rows PySem.OwnX
/-- what an f-string may hold of a value -/
def FmX (c : Int) : V → Prop
  | .str z => (c = 114 ∧ (reprText z).length ≤ 7000000) ∨ (c = -1 ∧ z.length ≤ 7000000)
  | .int i => c = -1 ∧ i.natAbs.log2 < 1920
  | _ => False
theorem FmX.v {c : Int} {v : V} {u : Value} (h : FmX c v) (r : RelV v u) : FmV c u := by
  cases v with
  | str z =>
    obtain ⟨t, rfl⟩ := r
    exact h
  | int i =>
    obtain ⟨t, rfl⟩ := r
    exact h
  | _ => exact h.elim
/-- all that is told of a class of errors: C, ForkError-like bases within bm -/
structure ErrA (P : Program) (K : PySem.W.Frag) (mg : Str → Option Value) (x : Str) (C fI : Addr) (fs : List Str) : Prop where
  k : ErrK P K mg x C fI
  s : ErrS K C fs
  x : XfC K C
  i : ExcC K C
structure Err1 (P : Program) (K : PySem.W.Frag) (mg : Str → Option Value) (x : Str) (C : Addr) (f1 : Str) (c1 : Int) : Prop where
  ex : ∃ (fI : Addr) (qual : Str) (st : Stmt), ErrA P K mg x C fI [f1] ∧ ErrF P K C fI qual (defArgs st) (defBody st) (defScope st) ∧ Sh1 st f1 c1 qual
  nf : NmOk f1
structure Err2 (P : Program) (K : PySem.W.Frag) (mg : Str → Option Value) (x : Str) (C : Addr) (f1 : Str) (c1 : Int) (f2 : Str) (c2 : Int) : Prop where
  ex : ∃ (fI : Addr) (qual : Str) (st : Stmt), ErrA P K mg x C fI [f1, f2] ∧ ErrF P K C fI qual (defArgs st) (defBody st) (defScope st) ∧ Sh2 st f1 c1 f2 c2 qual
  nf : NmOk f1 ∧ NmOk f2 ∧ (f1 == f2) = false ∧ (f2 == f1) = false
structure Err0 (P : Program) (K : PySem.W.Frag) (mg : Str → Option Value) (x : Str) (C : Addr) : Prop where
  ex : ∃ (fI : Addr) (qual : Str) (st : Stmt), ErrA P K mg x C fI [] ∧ ErrF P K C fI qual (defArgs st) (defBody st) (defScope st) ∧ Sh0 st qual
section
variable {X : Cx} {C : Addr} {x f1 f2 : Str} {c1 c2 : Int}
def ok1 (c : Int) (vs : List V) : Prop := ∃ v, vs = [v] ∧ FmX c v
def fs1 (f : Str) : List V → List (Str × V)
  | [v] => [(f, v)]
  | _ => []
def ok2 (c d : Int) (vs : List V) : Prop := ∃ v u, vs = [v, u] ∧ FmX c v ∧ FmX d u
def fs2 (f g : Str) : List V → List (Str × V)
  | [v, u] => [(g, u), (f, v)]
  | _ => []
theorem pmk_err1 {a : Expr} {as : List Expr} {ta : TA} {p pos : Pos} {k : Nat} (T : Err1 X.prog X.K X.mg x C f1 c1) (hr : Room k X.A) (ha : PA X (a :: as) ta) (hg : Gl X x := by rfl) (hdb : (x == ("__debug__" : Str)) = false := by decide)
    (he : starEach (a :: as) X.env = (false, eval a X.env) :: starEach as X.env := by rfl) (hpl : (backTo pos (starEach as X.env)).any (·.1) = false := by rfl) : L2N.PMk X (.Call (.Name x p) (a :: as) [] pos) (tMkE C (ok1 c1) (fs1 f1) ta) := by
  obtain ⟨fI, qual, st, EA, F, sh⟩ := T.ex
  refine pmk_err EA.k (fun vs us r hok => ?_) hr ha hg hdb he hpl
  obtain ⟨v, rfl, fm⟩ := hok
  cases r with
  | cons r1 r2 =>
    cases r2
    exact ⟨one_size _, _, .cons ⟨rfl, r1⟩ .nil, initOk1 EA.k.T F EA.s sh T.nf (fm.v r1)⟩
theorem pmk_err2 {a : Expr} {as : List Expr} {ta : TA} {p pos : Pos} {k : Nat} (T : Err2 X.prog X.K X.mg x C f1 c1 f2 c2) (hr : Room k X.A) (ha : PA X (a :: as) ta) (hg : Gl X x := by rfl) (hdb : (x == ("__debug__" : Str)) = false := by decide)
    (he : starEach (a :: as) X.env = (false, eval a X.env) :: starEach as X.env := by rfl) (hpl : (backTo pos (starEach as X.env)).any (·.1) = false := by rfl) : L2N.PMk X (.Call (.Name x p) (a :: as) [] pos) (tMkE C (ok2 c1 c2) (fs2 f1 f2) ta) := by
  obtain ⟨fI, qual, st, EA, F, sh⟩ := T.ex
  refine pmk_err EA.k (fun vs us r hok => ?_) hr ha hg hdb he hpl
  obtain ⟨v, u, rfl, fm, fm2⟩ := hok
  cases r with
  | cons r1 r2 =>
    cases r2 with
    | cons r2 r3 =>
      cases r3
      exact ⟨by rw [sizeLine_eq]; show 2 ≤ 16777216; decide, _, .cons ⟨rfl, r2⟩ (.cons ⟨rfl, r1⟩ .nil), initOk2 EA.k.T F EA.s sh T.nf.1 T.nf.2.1 T.nf.2.2.1 T.nf.2.2.2 (fm.v r1) (fm2.v r2)⟩
/-- x() -/
theorem pmk_err0 {p pos : Pos} {k : Nat} (T : Err0 X.prog X.K X.mg x C) (hr : Room k X.A) (hg : Gl X x := by rfl) (hdb : (x == ("__debug__" : Str)) = false := by decide) : L2N.PMk X (.Call (.Name x p) [] [] pos) (fun _ H Q => Q (.ref C) none H) := by
  obtain ⟨fI, qual, st, EA, F, sh⟩ := T.ex
  intro pins s σ H Q I h
  refine wpAny_Call_Name_kw (ld_glob I hg EA.k.gC ?_ hdb)
  have M0 := I.modS EA.k.sup
  have hin := initOk0 (w := X.w) (mg := X.mg) EA.k.T F sh
  refine PySem.W.callWith_K0 I.kIn EA.k.kC ?_
  obtain ⟨hp, g, dr, tk, os⟩ := s
  refine wpAny_call (PySem.OwnX.made EA.k.T EA.k.iC EA.k.tI hin M0 (by have := hr.dp; omega) (Nat.zero_le _) fun h' tk' e d M ho => ?_)
  show L2N.MkP X pins σ Q (.ref e) ⟨h', g, dr, tk', os⟩
  obtain ⟨oe, fv, hoe, hc, hd, hdat, h1, h2⟩ := M.obj
  cases d with
  | some d => cases ho
  | none =>
    obtain ⟨G', g1, g2⟩ := restrict h' fun b => decide (b ≠ e)
    have gk : ∀ b, b ≠ e → G'.get? b = h'.get? b := fun b hb => g1 b (decide_eq_true hb)
    have ge : G'.get? e = none := g2 e (by simp)
    have old : ∀ b o, hp.get? b = some o → G'.get? b = some o := fun b o q => (gk b (Nat.ne_of_lt (Nat.lt_of_lt_of_le (Heap.lt_size q) M.new))).trans (M.keep b o q)
    have J : Inv X pins σ H ⟨G', g, dr, tk', os⟩ := I.kept (t' := tk') old
    refine ⟨e, oe, fv, ⟨G', g, dr, tk', os⟩, _, .ref C, none, rfl, J, fun b o q => ?_, ge, hoe, ⟨hc, hd, fun z hz => by rw [hdat] at hz; cases hz; exact h2⟩, hdat, h1, I.hok.fresh M.new, rfl, I.bare, raises_own EA.k.exC EA.k.tyC, h⟩
    by_cases hb : b = e
    · have q' : G'.get? b = some o := q
      rw [hb, ge] at q'; cases q'
    · exact (gk b hb).symm.trans q
end
/-- isinstance(e, c), e the exception that the suite holds, with a dict of its own -/
def rIsED (K : PySem.W.Frag) (D a : Addr) (d : Option Addr) : List V → Hp → VK → Prop := fun xs H Q => ∃ (c : V) (cv : Value) (b : Bool), xs = [.ref a, c] ∧ (∀ u, RelV c u → u = cv) ∧ PySem.W.kitOne K (.ref D) cv = some b ∧ (∀ dd, d = some dd → ∃ fs, H dd = some (.xd fs)) ∧ Q (.bl b) H
theorem call_isED {X : Cx} {a D : Addr} {oe : Obj} {d : Option Addr} {pn : List (Addr × Obj)} (C : ExcC X.K D) (hz : Zc (.ref D) d oe) (hf : ∃ vs, oe.data = .fields vs) : CallR (X.suite a ((a, oe) :: pn)) (.builtin "isinstance") (rIsED X.K D a d) := by
  intro pins s σ H xs us Q I r h
  obtain ⟨c, cv, b, rfl, hcv, e, hd, q⟩ := h
  cases r with
  | cons rx rr =>
    cases rr with
    | cons rt rr =>
      cases rr
      cases rx
      have ec := hcv _ rt
      subst ec
      obtain ⟨hget, _⟩ := I.pin (a, oe) (List.mem_append.mpr (.inl List.mem_cons_self))
      obtain ⟨vs, hv⟩ := hf
      have hcl : (PySem.W.clsIn X.K D).isSome = true := by
        obtain ⟨cd, hc, _⟩ := PySem.W.any_some C.hd
        rw [hc]
        rfl
      obtain ⟨od, J⟩ : ∃ od, PySem.W.InstAt s.heap a oe D od := by
        obtain ⟨oc, od, oda, osl⟩ := oe
        obtain ⟨h1, h2⟩ := hz
        dsimp only at h1 h2 hv
        subst h1 h2 hv
        cases od with
        | none => exact ⟨none, hget, rfl, rfl, trivial⟩
        | some dd =>
          obtain ⟨fs, hdd⟩ := hd dd rfl
          obtain ⟨mA, ⟨o, es, ep, ho, _⟩, _⟩ := I.hok dd _ hdd
          exact ⟨some o, hget, rfl, rfl, ho⟩
      exact PySem.W.kia_one (PySem.W.kitx_exc hcl C.hg C.hk C.hs C.ha C.hn C.ht C.hm) I.kIn J e (fun z => nomatch z) fun tk => ⟨.bl b, H, I.kept (t' := tk) fun _ _ z => z, rfl, q⟩
/-- .. whatever its class: the reading tells it -/
def rIsEA (K : PySem.W.Frag) (cls : Value) (a : Addr) (d : Option Addr) : List V → Hp → VK → Prop := fun xs H Q => ∃ D, cls = .ref D ∧ ExcC K D ∧ rIsED K D a d xs H Q
theorem call_isEA {X : Cx} {a : Addr} {oe : Obj} {cls : Value} {d : Option Addr} {pn : List (Addr × Obj)} (hz : L2N.Zn cls d oe) (hf : ∃ vs, oe.data = .fields vs) : CallR (X.suite a ((a, oe) :: pn)) (.builtin "isinstance") (rIsEA X.K cls a d) := by
  intro pins s σ H xs us Q I r h
  obtain ⟨D, rfl, c, q⟩ := h
  exact call_isED c hz.zc hf pins s σ H xs us Q I r q
/-- e.n, whatever its class -/
def tXfA (K : PySem.W.Frag) (a : Addr) (cls : Value) (d : Option Addr) (n : Str) (te : TE) : TE := fun σ H Q => ∃ C, cls = .ref C ∧ XfC K C ∧ PySem.W.findIn K (.ref C) n = some none ∧ tXf a cls d C n te σ H Q
theorem pe_xfA {X : Cx} {a : Addr} {oe : Obj} {cls : Value} {d : Option Addr} {pn : List (Addr × Obj)} {e : Expr} {te : TE} {pos : Pos} {n : Str} (hz : L2N.Zn cls d oe) (hf : ∃ vs, oe.data = .fields vs) (he : PE (X.suite a ((a, oe) :: pn)) e te) (hb : attributeBase e n X.env (eval e X.env) = eval e X.env := by rfl) :
    PE (X.suite a ((a, oe) :: pn)) (.Attribute e n pos) (tXfA X.K a cls d n te) := by
  refine ⟨fun pins s σ H Q I h => ?_⟩
  obtain ⟨C, rfl, T, no, q⟩ := h
  exact (pe_xf T no hz.zc hf he hb).run pins s σ H Q I q
/-- a def that may raise, as a constant of the module -/
structure CalX (P : Program) (w : World) (K : PySem.W.Frag) (mg : Str → Option Value) (base : Heap) (k : Nat) (x : Str) (sp : Sp) : Prop where
  ex : ∃ (f : Addr) (fd : FuncData) (ps : List Str), FnOk P w K mg base (L2N.CX P w) k f fd ps sp ∧ mg x = some (.ref f) ∧ PySem.W.keepIn K (.ref f) = true ∧ Binds K fd ps []
theorem pe_cX {X : Cx} {j k : Nat} {x : Str} {sp : Sp} {W : WX} {e : Expr} {es : List Expr} {t : TA} {p pos : Pos} (c : CalX X.prog X.w X.K X.mg X.base k x sp) (hr : Room j X.A) (hk : k ≤ j) (hg : Gl X x) (tk : L2N.Takes X W) (ha : PA X (e :: es) t)
    (hdb : (x == ("__debug__" : Str)) = false := by decide) (he : starEach (e :: es) X.env = (false, eval e X.env) :: starEach es X.env := by rfl) (hpl : (backTo pos (starEach es X.env)).any (·.1) = false := by rfl) : PE X (.Call (.Name x p) (e :: es) [] pos) (tCallS sp (WE W) t) := by
  obtain ⟨f, fd, ps, F, hm, kp, b⟩ := c.ex
  exact pe_callS F (hr.mono hk) hg hm kp b (fun σ => L2N.passAt tk σ) ha hdb he hpl
/-- of a class in an except clause or as a value -/
theorem Err1.g {P : Program} {K : PySem.W.Frag} {mg : Str → Option Value} {x f : Str} {C : Addr} {c : Int} (T : Err1 P K mg x C f c) : mg x = some (.ref C) := by
  obtain ⟨fI, q, st, EA, _⟩ := T.ex
  exact EA.k.gC
theorem Err2.g {P : Program} {K : PySem.W.Frag} {mg : Str → Option Value} {x f g : Str} {C : Addr} {c d : Int} (T : Err2 P K mg x C f c g d) : mg x = some (.ref C) := by
  obtain ⟨fI, q, st, EA, _⟩ := T.ex
  exact EA.k.gC
theorem Err0.g {P : Program} {K : PySem.W.Frag} {mg : Str → Option Value} {x : Str} {C : Addr} (T : Err0 P K mg x C) : mg x = some (.ref C) := by
  obtain ⟨fI, q, st, EA, _⟩ := T.ex
  exact EA.k.gC
theorem Err1.a {P : Program} {K : PySem.W.Frag} {mg : Str → Option Value} {x f : Str} {C : Addr} {c : Int} (T : Err1 P K mg x C f c) : XfC K C ∧ ExcC K C ∧ PySem.W.findIn K (.ref C) f = some none := by
  obtain ⟨fI, q, st, EA, _⟩ := T.ex
  exact ⟨EA.x, EA.i, EA.s.no f (by simp)⟩
theorem Err2.a {P : Program} {K : PySem.W.Frag} {mg : Str → Option Value} {x f g : Str} {C : Addr} {c d : Int} (T : Err2 P K mg x C f c g d) : XfC K C ∧ ExcC K C ∧ PySem.W.findIn K (.ref C) f = some none ∧ PySem.W.findIn K (.ref C) g = some none := by
  obtain ⟨fI, q, st, EA, _⟩ := T.ex
  exact ⟨EA.x, EA.i, EA.s.no f (by simp), EA.s.no g (by simp)⟩
theorem Err0.a {P : Program} {K : PySem.W.Frag} {mg : Str → Option Value} {x : Str} {C : Addr} (T : Err0 P K mg x C) : XfC K C ∧ ExcC K C := by
  obtain ⟨fI, q, st, EA, _⟩ := T.ex
  exact ⟨EA.x, EA.i⟩
/-- the promise of a def that may raise, by its body -/
theorem Fun.okN {P : Program} {w : World} {K : PySem.W.Frag} {mg : Str → Option Value} {base : Heap} {x qual : Str} {st : Stmt} {f : Addr} {fd : FuncData} {N ps : List Str} {k : Nat} {sp : Sp} (F : Fun K x qual st f fd) (sc : FnScope N ps (defScope st)) (hl : ∀ vs H Q E, sp vs H Q E → vs.length = ps.length)
    (body : ∀ (cdv : Value) (A : Around) (outer : List Env) (s : Shared) (H : Hp) (vs : List V) (Q : VK) (E : XK), Room k (A.deeper (envOfC qual (defScope st) s.heap.objs.size f cdv)) → sp vs H Q E →
      ∃ t, PSs (cxOf (L2N.CX P w) P w K mg base N qual (defScope st) f cdv A outer s H E) (defBody st) t ∧ t { nx := fun _ H' => Q .non H', rt := Q } (start N vs) H) :
    FnOk P w K mg base (L2N.CX P w) (k + 1) f fd ps sp := by
  obtain ⟨_, _, _, _, _, _, cdv, _, _, rfl, look, code⟩ := F.ex
  exact fn_of look code sc hl (body cdv)
end L2

/-! several except clauses, each with a name or without -/
namespace Fx
open PySem PySem.Spec PyProof.Rows L2
/-- a clause: the class it names, the slot of its name, what its suite asks -/
structure Cl where
  c : Value
  slot : Option Nat
  ts : Addr → Value → Option Addr → TS
def Cl.put (q : Cl) (σ : L2.St) (a : Addr) : L2.St := match q.slot with
  | none => σ
  | some i => σ.set i (some (.ref a))
def Cl.gone (q : Cl) (σ : L2.St) : L2.St := match q.slot with
  | none => σ
  | some i => σ.set i none
def Cl.ends (q : Cl) (D : Ends) : Ends := { nx := fun σ H => D.nx (q.gone σ) H, rt := D.rt, bk := fun σ H => D.bk (q.gone σ) H, ct := fun σ H => D.ct (q.gone σ) H }
/-- what is wished of an exception of the body, clause by clause -/
def wish (K : PySem.W.Frag) (W0 : WX) (D : Ends) : List Cl → WX
  | [] => W0
  | q :: r => fun cls d σ H => ∃ b, PySem.W.exmOne K cls q.c = some b ∧ (b = true → ∀ a, H a = none → q.ts a cls d (q.ends D) (q.put σ a) H) ∧ (b = false → wish K W0 D r cls d σ H)
def SuiteOk (X : Cx) (q : Cl) (suite : List Stmt) : Prop := ∀ (a : Addr) (oe : Obj) (cls : Value) (d : Option Addr) (pn : List (Addr × Obj)), L2N.Zn cls d oe → (∃ vs, oe.data = .fields vs) → ∃ t, PSs (X.suite a ((a, oe) :: pn)) suite t ∧ t = q.ts a cls d
inductive ClsOk (X : Cx) : List ExceptHandler → List Cl → Prop
  | nil : ClsOk X [] []
  | bare {x : Str} {c : Value} {ts : Addr → Value → Option Addr → TS} {b0 : Stmt} {suite : List Stmt} {np pos' : Pos} {hs : List ExceptHandler} {l : List Cl} (hc : Names X x c) (hsu : SuiteOk X ⟨c, none, ts⟩ (b0 :: suite)) (r : ClsOk X hs l) :
      ClsOk X (.ExceptHandler (some (.Name x np)) none (b0 :: suite) pos' :: hs) (⟨c, none, ts⟩ :: l)
  | named {x n : Str} {c : Value} {i : Nat} {ts : Addr → Value → Option Addr → TS} {b0 : Stmt} {suite : List Stmt} {np pos' : Pos} {hs : List ExceptHandler} {l : List Cl} (hN : X.N.Nodup) (hi : X.N[i]? = some n) (hl : X.env.kindOf n = some .local) (hc : Names X x c) (hsu : SuiteOk X ⟨c, some i, ts⟩ (b0 :: suite)) (r : ClsOk X hs l) :
      ClsOk X (.ExceptHandler (some (.Name x np)) (some n) (b0 :: suite) pos' :: hs) (⟨c, some i, ts⟩ :: l)
section
variable {X : Cx} {pins : List (Addr × Obj)} {D : Ends} {W0 : WX}
/-- the exception at a, of the class cls, its dict at d, caught by this frame: in flight over the ground B -/
structure Held (X : Cx) (pins : List (Addr × Obj)) (a : Addr) (B : Heap) (cls : Value) (d : Option Addr) (σ : L2.St) (H : Hp) (sI s : Shared) : Prop where
  st : X.stack = X.env :: X.outer
  fr : X.env.frame = some X.env.locals
  inv : Inv X pins σ H sI
  nb : ∀ b o, sI.heap.get? b = some o → b ∉ frs X.stack → B.get? b = some o
  up : sI.heap.UpToSlots s.heap
  fly : HandSPX.FlyingZ B (X.env :: X.outer) a (L2N.Zn cls d) s.heap
  na : H a = none
  os : s.os = sI.os
  ag : AllBare s.gens
variable {a : Addr} {B : Heap} {cls : Value} {d : Option Addr} {σ : L2.St} {H : Hp} {sI s : Shared}
theorem Held.moved {h4 : Heap} (h : Held X pins a B cls d σ H sI s) (f : HandSPX.FlyingZ B (X.env :: X.outer) a (L2N.Zn cls d) h4) (u : s.heap.UpToSlots h4) : Held X pins a B cls d σ H sI { s with heap := h4 } :=
  ⟨h.st, h.fr, h.inv, h.nb, h.up.trans u, f, h.na, h.os, h.ag⟩
/-- what the suite's context asks -/
theorem Held.look (h : Held X pins a B cls d σ H sI s) : ∃ oe vs, s.heap.get? a = some oe ∧ L2N.Zn cls d oe ∧ oe.data = .fields vs ∧ Inv X pins σ H s ∧ Inv (X.suite a ((a, oe) :: (X.pn ++ pins))) [] σ H s := by
  obtain ⟨oe, vs, he, hz, hd⟩ := h.fly.there
  have J := h.inv.landed h.nb h.fly.1 h.up h.os h.ag
  have out : ∀ b ∈ frs (X.env :: X.outer), b ≠ a := fun b hb e => by
    subst e
    obtain ⟨_, o, ho, hn⟩ := h.fly.2.2.1.mem hb
    rw [he] at ho
    cases ho
    exact hn _ hd
  have n1 : a ≠ X.env.locals := fun e => out X.env.locals (List.mem_filterMap.mpr ⟨X.env, List.mem_cons_self, h.fr⟩) e.symm
  have n2 : a ∉ X.fs := fun hm => by
    obtain ⟨e, h1, h2⟩ := List.mem_filterMap.mp hm
    exact out a (List.mem_filterMap.mpr ⟨e, List.mem_cons_of_mem _ h1, h2⟩) rfl
  exact ⟨oe, vs, he, hz, hd, J, J.suite he hd h.na n1 n2⟩
/-- no clause takes it: it flies on -/
theorem Held.on (h : Held X pins a B cls d σ H sI s) (tk : L2N.Takes X W0) (w : W0 cls d σ H) : wpAny (model X.prog X.w) X.A (handleBy (.ref a) X.env []) (SP X pins D) X.xe s := by
  refine wpAny_handleBy_nil ?_
  obtain ⟨oe, vs, T, oT, ts, he, hz, hd, h1, hr⟩ := h.fly.2.2.2
  unfold PySem.passOn
  refine wpAny_bind (wpAny_field he hd h1 ?_)
  rw [if_neg (show ¬ ((Value.ref T == Value.none) = true) by simp)]
  have last : wpAny (model X.prog X.w) X.A (setFlight (.ref a) X.env.frame) (fun _ s4 => wpAny (model X.prog X.w) X.A (throw (.ref a) : Sem Flow) (SP X pins D) X.xe s4) X.xe s := by
    rw [h.fr]
    refine HandSPX.setFlight_upZ h.fly fun h4 k4 u4 => wpAny_throw (tk _ _ ⟨a, B, sI, pins, σ, H, cls, d, rfl, h.inv, h.nb, h.up.trans u4, ?_, h.na, h.os, h.ag, w⟩)
    rw [h.st]
    exact .inr (.inr k4)
  first
    | exact wpAny_bind (wpAny_pure (wpAny_bind last))
    | exact wpAny_bind last
/-- the clause's class is asked -/
theorem Held.test {x : Str} {c : Value} {np : Pos} {b : Bool} {Q : Bool → Shared → Prop} {E : Value → Shared → Prop} (h : Held X pins a B cls d σ H sI s) (hc : Names X x c) : ∃ oe, Inv (X.suite a ((a, oe) :: (X.pn ++ pins))) [] σ H s ∧
    ∀ {Q : Value → Shared → Prop} {E : Value → Shared → Prop}, Q c s → wpAny (model X.prog X.w) (X.A.mark (some (.ref a))) (eval (.Name x np) X.env) Q E s := by
  obtain ⟨oe, vs, he, hz, hd, J, S⟩ := h.look
  refine ⟨oe, S, fun {Q E} q => ?_⟩
  obtain ⟨g, db, m | ⟨m, v, n⟩⟩ := hc
  · exact ld_glob (X := X.suite a ((a, oe) :: (X.pn ++ pins))) S g m q db
  · exact ld_blt (X := X.suite a ((a, oe) :: (X.pn ++ pins))) S g m v q n db
theorem Held.handled {hs : List ExceptHandler} {l : List Cl} (tk : L2N.Takes X W0) (ok : ClsOk X hs l) : ∀ {s : Shared}, Held X pins a B cls d σ H sI s → wish X.K W0 D l cls d σ H → wpAny (model X.prog X.w) X.A (handleBy (.ref a) X.env hs) (SP X pins D) X.xe s := by
  induction ok with
  | nil => exact fun {s} h w => h.on tk w
  | @bare x c ts b0 suite np pos' hs l hc hsu r ih =>
    intro s h w
    obtain ⟨b, hb, yes, no⟩ := w
    obtain ⟨oe, vs, he, hz, hd, J, S⟩ := h.look
    obtain ⟨_, _, test⟩ := Held.test (np := np) (b := b) (Q := fun _ _ => True) (E := fun _ _ => True) h hc
    have LT : PySem.W.Looks (model X.prog X.w) s.heap (typeOf (.ref a)) cls := fun A Q E s' k q => wpAny_typeOf_ref (k _ _ he) (by rw [hz.1]; exact q)
    have LM := PySem.W.exm_one (M := model X.prog X.w) J.kIn LT hb
    refine wpAny_handleBy_cons (codeAny_handlers_test (test (LM.here ?_))) (by intro q; cases q)
    cases b with
    | false => exact ih h (no rfl)
    | true =>
      refine codeAny_handlers_suite (HandSPX.lands_againZ h.fly fun h4 f4 u4 => ?_)
      have h' := h.moved f4 u4
      obtain ⟨oe4, vs4, he4, hz4, hd4, J4, S4⟩ := h'.look
      obtain ⟨t4, ht4, et4⟩ := hsu a oe4 cls d (X.pn ++ pins) hz4 ⟨_, hd4⟩
      rw [et4] at ht4
      refine wpAny_mono (ht4.run [] _ _ H _ S4 (yes rfl a h.na)) (fun f s6 q => ?_) (fun _ _ z => z.elim)
      have ok := h.inv.ok
      cases f with
      | ret u =>
        obtain ⟨v, σ6, H6, S6, r6, q6⟩ := q
        exact ⟨v, σ6, H6, S6.unsuite ok, r6, q6⟩
      | next | brk | cont =>
        obtain ⟨σ6, H6, S6, q6⟩ := q
        exact ⟨σ6, H6, S6.unsuite ok, q6⟩
  | @named x n c i ts b0 suite np pos' hs l hN hi hl hc hsu r ih =>
    intro s h w
    obtain ⟨b, hb, yes, no⟩ := w
    obtain ⟨oe, vs, he, hz, hd, J, S⟩ := h.look
    obtain ⟨_, _, test⟩ := Held.test (np := np) (b := b) (Q := fun _ _ => True) (E := fun _ _ => True) h hc
    have LT : PySem.W.Looks (model X.prog X.w) s.heap (typeOf (.ref a)) cls := fun A Q E s' k q => wpAny_typeOf_ref (k _ _ he) (by rw [hz.1]; exact q)
    have LM := PySem.W.exm_one (M := model X.prog X.w) J.kIn LT hb
    refine wpAny_handleBy_cons (codeAny_handlers_test (test (LM.here ?_))) (by intro q; cases q)
    cases b with
    | false => exact ih h (no rfl)
    | true =>
      refine codeAny_handlers_suite_as (HandSPX.lands_againZ h.fly fun h4 f4 u4 => ?_)
      have h' := h.moved f4 u4
      obtain ⟨oe4, vs4, he4, hz4, hd4, J4, S4⟩ := h'.look
      have ok := h.inv.ok
      refine store_ok (X := X.suite a ((a, oe4) :: (X.pn ++ pins))) (v := .ref a) S4 hN hi (.inl hl) rfl (fun s5 S5 => ?_) (.inr hl)
      obtain ⟨t4, ht4, et4⟩ := hsu a oe4 cls d (X.pn ++ pins) hz4 ⟨_, hd4⟩
      rw [et4] at ht4
      refine wpAny_mono (ht4.run [] s5 _ H _ S5 (yes rfl a h.na)) (fun f s6 q => ?_) (fun _ _ z => z.elim)
      cases f with
      | ret u =>
        obtain ⟨v, σ6, H6, S6, r6, q6⟩ := q
        exact gone_ok (S6.unsuite ok) hN hi hl fun s7 J7 => ⟨_, _, _, J7, r6, q6⟩
      | next | brk | cont =>
        obtain ⟨σ6, H6, S6, q6⟩ := q
        exact gone_ok (S6.unsuite ok) hN hi hl fun s7 J7 => ⟨_, _, J7, q6⟩
/-- try: body, several clauses -/
theorem ps_try_cl {body : List Stmt} {h0 : ExceptHandler} {hs : List ExceptHandler} {l : List Cl} {pos : Pos} {tb : WX → TS} (st : X.stack = X.env :: X.outer) (hf : X.env.frame = some X.env.locals) (tk : L2N.Takes X W0)
    (hb : ∀ (W : WX) (pn : List (Addr × Obj)) (xe : Value → Shared → Prop), L2N.Takes (X.tr pn xe) W → PassesOwn (model X.prog X.w) X.A X.env xe → PSs (X.tr pn xe) body (tb W))
    (hh : ClsOk X (h0 :: hs) l) : PS X (.Try body (h0 :: hs) [] [] pos) (fun D σ H => tb (wish X.K W0 D l) D σ H) := by
  refine ⟨fun pins s σ H D I h => ?_⟩
  have ok := I.ok
  refine wpAny_Try_except (wpAny_mono ((hb (wish X.K W0 D l) (X.pn ++ pins) (fun e s1 => wpAny (model X.prog X.w) X.A (noteFrame e X.env) (fun _ s2 => wpAny (model X.prog X.w) X.A (setFlight e none) (fun _ s3 =>
    wpAny (model X.prog X.w) X.A (handleBy e X.env (h0 :: hs)) (SP X pins D) X.xe s3) X.xe s2) X.xe s1) (fun u s' x => ?_) PassesOwn.looking).run [] s σ H D (I.toTry _) h) (fun f s1 q => ?_) fun e s1 z => z)
  · obtain ⟨a, B, sI, pins', σ', H', cls, d, rfl, J', nb, up, sky, na, os, ag, w⟩ := x
    have sky' : Sky B (X.env :: X.outer) a (L2N.Zn cls d) X.env.locals s'.heap := by
      rw [← st]
      exact sky
    have hfr : X.A.frames = some (X.env :: X.outer) := by rw [ok.frames, st]
    refine L2N.Sky.land L2N.Zn.steady hfr hf sky' fun h3 f3 u3 => ?_
    exact Held.handled tk hh ⟨st, hf, J'.ofTry ok, nb, up.trans u3, f3, na, os, ag⟩ w
  · cases f with
    | next =>
      obtain ⟨σ', H', J', r⟩ := q
      exact wpAny_execs_nil ⟨σ', H', J'.ofTry ok, r⟩
    | ret u =>
      obtain ⟨v, σ', H', J', r⟩ := q
      exact ⟨v, σ', H', J'.ofTry ok, r⟩
    | brk | cont =>
      obtain ⟨σ', H', J', r⟩ := q
      exact ⟨σ', H', J'.ofTry ok, r⟩
end
end Fx

/-! a list comprehension over range within an except suite -/
namespace Fx
open PySem PySem.Spec PyProof.Rows L2 L2H
/-- nothing may be let out -/
theorem none0 {X : Cx} : L2N.Takes X (fun _ _ _ _ => False) := by
  rintro u s' ⟨_, _, _, _, _, _, _, _, _, _, _, _, _, _, _, _, no⟩
  exact no.elim
/-- a suite stands where an exception is handled -/
theorem hot_suite {X : Cx} {a : Addr} {oe : Obj} {cls : Value} {d : Option Addr} {pn : List (Addr × Obj)} (hz : L2N.Zn cls d oe) (hf : ∃ vs, oe.data = .fields vs) : HotC (X.suite a ((a, oe) :: pn)) := by
  obtain ⟨vs, e⟩ := hf
  exact ⟨(a, oe), ⟨rfl, vs, e, hz.2.2 vs e⟩, List.mem_cons_self⟩
/-- a block's context that keeps p, the exception that is handled, in sight -/
abbrev hblk (X : Cx) (p : Addr × Obj) (s : Shared) (H : Hp) (scope : Scope) (ce : Env) (fp : List Addr) : Cx := { X.blk s H scope ce fp with pn := [p] }
theorem hblk_in {X : Cx} {p : Addr × Obj} {s s' : Shared} {H H' : Hp} {scope : Scope} {ce : Env} {fp : List Addr} {σ : L2.St} (I : Inv (X.blk s H scope ce fp) [] σ H' s') (g : s'.heap.get? p.1 = some p.2) (n : H' p.1 = none) (l : p.1 ≠ ce.locals)
    (f : p.1 ∉ frs X.stack) (c : ∀ v, p.2.data ≠ .cell v) : Inv (hblk X p s H scope ce fp) [] σ H' s' := by
  have o := I.ok
  refine ⟨⟨o.mod, o.kind, o.glob, o.blt, o.above, o.inj, o.has, o.cab, o.hd, o.frames, o.stk, o.exf, o.bs, o.bsz, o.noex, o.exfs, o.funs, o.frf⟩, I.os, I.bare, I.base, I.loc, I.cell, I.free, I.freeC, ?_, I.hok, I.len⟩
  intro q hq
  obtain rfl : q = p := by simpa using (show q ∈ [p] ++ [] from hq)
  exact ⟨g, n, l, f, c⟩
/-- what the iterator's objects are to a context, whatever is tracked -/
def Apart (B : Cx) (b : Addr) : Prop := ∀ H : Hp, H b = none → FpOk B [] H b
/-- what one turn asks, the n-th of m -/
def Turn1 (J : It) (g : TG) (tt : TT) (te : TE) (vs : List Nat) (τ : L2.St) (D : Addr) (Q : VK) (W : Nat → Nat → Hp → Prop) : Prop :=
  ∀ i m H, W i m H → (J.stop i H ∧ Q (.ref D) H) ∨ (J.go i H ∧ ∃ Nx : Hp → Prop, (∀ H', Nx H' → ∃ m', m' < m ∧ W (i + 1) m' H') ∧ ∀ x H', J.yld i H x H' → g x τ H' fun σ2 H2 => wipe σ2 vs = τ ∧ tt σ2 H2 fun b H3 =>
    if b = true then te σ2 H3 fun y H4 => ∃ acc, H4 D = some (.lst acc) ∧ acc.length < sizeLine ∧ Nx (upd H4 D (.lst (acc ++ [y]))) else Nx H3)
theorem loopH {B : Cx} {J : It} {it D : Addr} {fp : List Addr} {tn : Nat → Heap → Prop} {tg iter elt : Expr} {ifs : List Expr} {scope : Scope} {pos : Pos} {g : TG} {tt : TT} {te : TE} {vs : List Nat} {τ : L2.St} {Q : VK} {W : Nat → Nat → Hp → Prop} {R : Result → Shared → Prop}
    (hx : B.xe = fun _ _ => False) (hot : HotC B) (T : TurnH B.prog B.w B.K tg J fp it tn) (ap : ∀ b ∈ fp, Apart B b) (pg : PG B tg g) (pt : PTs B ifs tt) (pe : PE B elt te) (turns : Turn1 J g tt te vs τ D Q W)
    (fin : ∀ s H, Inv B [] τ H s → Q (.ref D) H → R (.ok .next) s) {m0 : Nat} {s0 : Shared} {H0 : Hp} (I0 : Inv B [] τ H0 s0) (t0 : tn 0 s0.heap) (n0 : ∀ b ∈ fp, H0 b = none) (w0 : W 0 m0 H0) :
    codeAny (model B.prog B.w) B.A (.compLoop (.ListComp elt [⟨tg, iter, ifs, 0⟩] scope pos) 0 (.ref it) (.ref D) B.env) R s0 := by
  refine compLoop_any (fun m s => ∃ i H, Inv B [] τ H s ∧ tn i s.heap ∧ (∀ b ∈ fp, H b = none) ∧ W i m H) (fun m s h => ?_) m0 ⟨0, H0, I0, t0, n0, w0⟩
  obtain ⟨i, H, I, t, nn, w⟩ := h
  have okAll : ∀ {H : Hp}, (∀ b ∈ fp, H b = none) → ∀ b ∈ fp, FpOk B [] H b := fun z b hb => ap b hb _ (z b hb)
  rcases turns i m H w with ⟨hs, q⟩ | ⟨hg, Nx, less, step⟩
  · -- the end
    refine thnF (T.done B rfl rfl rfl hot i [] s τ H (fun _ _ => False) I (okAll nn) t hs) ?_
    rintro _ s1 ⟨rfl, I1⟩
    exact fin s1 H I1 q
  · refine thnF (T.item B rfl rfl rfl hot i [] s τ H (fun _ _ => False) I (okAll nn) t hg) ?_
    rintro _ s1 ⟨u, rfl, h1⟩
    refine thnF h1 ?_
    rintro _ s2 ⟨x, H2, I2, rx, y2, t2, n2⟩
    have Ip := I2.pinned (okAll n2) (T.obj _ _ t2)
    have rg := pg.run _ s2 τ H2 x u _ Ip rx (step x H2 y2)
    rw [hx] at rg
    refine thnF rg ?_
    rintro _ s3 ⟨σ3, H3, I3, e3, q3⟩
    have rt := pt.run _ s3 σ3 H3 _ I3 q3
    rw [hx] at rt
    refine thnF rt ?_
    rintro b s4 ⟨H4, I4, q4⟩
    -- where the turn ends
    have turned : ∀ {s' : Shared} {H' : Hp}, Inv B ([] ++ pinsAt fp s2.heap) σ3 H' s' → Nx H' → ∃ m', m' < m ∧ ∃ i H, Inv B [] τ H s' ∧ tn i s'.heap ∧ (∀ b ∈ fp, H b = none) ∧ W i m' H := by
      intro s' H' I' nx
      obtain ⟨m', lt, w'⟩ := less H' nx
      have see : ∀ b ∈ fp, ∀ o, s2.heap.get? b = some o → s'.heap.get? b = some o ∧ H' b = none := fun b hb o e => by
        have z := I'.pin (b, o) (List.mem_append_right _ (List.mem_append_right _ (mem_pinsAt hb e)))
        exact ⟨z.1, z.2.1⟩
      have len : τ.length = σ3.length := by
        rw [← e3]
        exact wipe_length ..
      refine ⟨m', lt, i + 1, H', ?_, T.keep _ _ _ t2 (fun b hb o e => (see b hb o e).1), (fun b hb => ?_), w'⟩
      · refine (Inv.unpinned (pins := []) I').weak len fun j v e => ?_
        rw [← e3] at e
        exact (wipe_some e).1
      · obtain ⟨o, e, _⟩ := T.obj _ _ t2 b hb
        exact (see b hb o e).2
    cases b with
    | false =>
      exact turned I4 (by simpa using q4)
    | true =>
      have re := pe.run _ s4 σ3 H4 _ I4 (by simpa using q4)
      rw [hx] at re
      refine thnF re ?_
      rintro v s5 ⟨y, H5, I5, ry, acc, hD, small, nx⟩
      exact app_ok (X := B) I5 hD small ry fun s6 I6 => turned I6 nx
/-- [elt for target in range(..) if ..], where an exception is handled -/
theorem pe_lcH {X : Cx} {elt tg iter : Expr} {ifs : List Expr} {scope : Scope} {own : List (Str × Nat)} {pos : Pos} {wi : TI} {g : TG} {tt : TT} {te : TE} (hot : HotC X) (hN : X.N.Nodup) (hi : PIH X tg iter wi) (ok : BlkOk X.N X.env.scope scope own)
    (hg : ∀ (p : Addr × Obj) (s : Shared) (H : Hp) (C : Addr) (cl : List (Str × Addr)) (fp : List Addr), PG (hblk X p s H scope (compEnvC scope cl C X.env) fp) tg g)
    (ht : ∀ (p : Addr × Obj) (s : Shared) (H : Hp) (C : Addr) (cl : List (Str × Addr)) (fp : List Addr), PTs (hblk X p s H scope (compEnvC scope cl C X.env) fp) ifs tt)
    (he : ∀ (p : Addr × Obj) (s : Shared) (H : Hp) (C : Addr) (cl : List (Str × Addr)) (fp : List Addr), PE (hblk X p s H scope (compEnvC scope cl C X.env) fp) elt te) (hs : ∀ x, foldedSetIterable iter X.env x = pure x := by intro _; rfl) :
    PE X (.ListComp elt [⟨tg, iter, ifs, 0⟩] scope pos) (tLc wi g tt te (own.map (·.2))) := by
  refine ⟨fun pins s σ H Q I h => ?_⟩
  rw [eval_ListComp]
  have closed : ∀ z ∈ scope.names, z.2 = .free → ∃ c, X.env.cells.lookup z.1 = some c := fun z hz e => I.ok.has _ (ok.free z hz e)
  refine wpAny_comprehension_free (use := none) rfl hs (closure_ok closed) ok.kind (fun z hz e => by rw [ok.uniq z hz, e]) (thn (hi.run pins s σ H _ I h) fun xv s1 h1 => thn h1 fun itv s2 h2 => ?_)
  obtain ⟨it, fp, tn, J, H2, rfl, I2, T, t2, f2, q⟩ := h2
  obtain ⟨p, hp1, hp2⟩ := hot
  have see := I2.pin p (List.mem_append_left _ hp2)
  refine wpAny_newObj_type (newEnv_comp ?_) (by show 0 ≤ sizeLine; decide)
  obtain ⟨W, ⟨m0, w0⟩, turns⟩ := q s2.heap.objs.size (I2.hok.fresh (Nat.le_refl _))
  -- the list that is filled
  have ID : Inv X pins σ (upd H2 s2.heap.objs.size (.lst [])) { s2 with heap := s2.heap.push { cls := .type "list", data := .seq ([] : List Value).toArray } } :=
    I2.laid (t' := s2.toks) (fun b o e => Heap.get?_push_of_some _ e) (Nat.le_refl _) ⟨Nat.zero_le _, [], 0, .nil, Heap.get?_push_size _ rfl⟩
  have old : ∀ b o, s2.heap.get? b = some o → b ≠ s2.heap.objs.size := fun b o e => Nat.ne_of_lt (Heap.lt_size e)
  have fD : ∀ b ∈ fp, FpOk X pins (upd H2 s2.heap.objs.size (.lst [])) b ∧ b < (s2.heap.push { cls := .type "list", data := .seq ([] : List Value).toArray }).objs.size := by
    intro b hb
    obtain ⟨o, e, _⟩ := T.obj _ _ t2 b hb
    refine ⟨⟨(upd_ne (old b o e)).trans (f2 b hb).1, (f2 b hb).2⟩, ?_⟩
    rw [Heap.size_push]
    exact Nat.lt_succ_of_lt (Heap.lt_size e)
  generalize hsD : ({ s2 with heap := s2.heap.push { cls := .type "list", data := .seq ([] : List Value).toArray } } : Shared) = sD at ID
  have heD : s2.heap.push { cls := .type "list", data := .seq ([] : List Value).toArray } = sD.heap := by rw [← hsD]
  rw [heD] at fD
  have kD : ∀ b o, s2.heap.get? b = some o → sD.heap.get? b = some o := fun b o e => by
    rw [← heD]
    exact Heap.get?_push_of_some _ e
  have nC : (upd H2 s2.heap.objs.size (HO.lst [])) p.1 = none := (upd_ne (old _ _ see.1)).trans see.2.1
  generalize hHD : upd H2 s2.heap.objs.size (HO.lst []) = HD at ID fD w0 nC
  have kB : ∀ b o, sD.heap.get? b = some o → (pushCells (sD.heap.push { cls := .type "dict", data := .dict #[] }) scope.names).get? b = some o := fun b o e => pushCells_keeps _ _ _ _ (Heap.get?_push_of_some _ e)
  have offStack : p.1 ∉ frs X.stack := fun z => (List.mem_cons.mp (ID.stkSub p.1 z)).elim see.2.2.1 see.2.2.2.1
  have IB := hblk_in (p := p) (block_start ID ok hN fD) (kB _ _ (kD _ _ see.1)) nC (Nat.ne_of_lt (Heap.lt_size (kD _ _ see.1))) offStack see.2.2.2.2
  have pg := hg p sD HD sD.heap.objs.size (cellsFrom (sD.heap.objs.size + 1) scope.names (cloFrom X.env.cells scope.names [])) fp
  have pt := ht p sD HD sD.heap.objs.size (cellsFrom (sD.heap.objs.size + 1) scope.names (cloFrom X.env.cells scope.names [])) fp
  have pe := he p sD HD sD.heap.objs.size (cellsFrom (sD.heap.objs.size + 1) scope.names (cloFrom X.env.cells scope.names [])) fp
  have tB : tn 0 (pushCells (sD.heap.push { cls := .type "dict", data := .dict #[] }) scope.names) := T.keep _ _ _ t2 fun b _ o e => kB b o (kD b o e)
  have ap : ∀ b ∈ fp, Apart (hblk X p sD HD scope (compEnvC scope (cellsFrom (sD.heap.objs.size + 1) scope.names (cloFrom X.env.cells scope.names [])) sD.heap.objs.size X.env) fp) b := by
    intro b hb H' n
    refine ⟨n, (IB.ok.exf b hb).1, IB.ok.exfs b hb, .inl hb, (IB.ok.exf b hb).2, fun r hr => ?_⟩
    obtain rfl : r = p := by simpa using (show r ∈ [p] ++ [] from hr)
    exact (f2 b hb).2.2.2.2.2 r (List.mem_append_left _ hp2)
  have go : codeAny (model X.prog X.w) X.A (.compLoop (.ListComp elt [⟨tg, iter, ifs, 0⟩] scope pos) 0 (.ref it) (.ref s2.heap.objs.size) (compEnvC scope (cellsFrom (sD.heap.objs.size + 1) scope.names (cloFrom X.env.cells scope.names [])) sD.heap.objs.size X.env))
      (compPost (model X.prog X.w) X.A X.xe none (EP X pins σ Q) (.ref s2.heap.objs.size) sD.heap.objs.size) { sD with heap := pushCells (sD.heap.push { cls := .type "dict", data := .dict #[] }) scope.names } := by
    refine loopH (B := hblk X p sD HD scope (compEnvC scope (cellsFrom (sD.heap.objs.size + 1) scope.names (cloFrom X.env.cells scope.names [])) sD.heap.objs.size X.env) fp)
      rfl ⟨p, hp1, List.mem_cons_self⟩ T ap pg pt pe (D := s2.heap.objs.size) (vs := own.map Prod.snd) (τ := wipe σ (own.map Prod.snd)) (Q := Q) (W := W) turns (fun s6 H6 I6 q6 => ?_) IB tB (fun b hb => (fD b hb).1.1) w0
    -- back in the def
    have IE : Inv X pins σ H6 s6 := ID.call' (ch := fp) I6.os I6.base I6.hok I6.bare fun b hb => ⟨(fD b hb).1.2.2.2.1, (fD b hb).1.2.1, (fD b hb).1.2.2.2.2.1, (fD b hb).1.2.2.2.2.2⟩
    obtain ⟨m, hn, _⟩ := I6.loc
    refine ⟨m, hn, fun h'' sb => ?_⟩
    obtain ⟨f0, f1, f2, f3, f4, f5⟩ := ID.fpOk (b := sD.heap.objs.size) (Nat.le_refl _) (show H6 sD.heap.objs.size = none from I6.free)
    exact ⟨.ref s2.heap.objs.size, H6, IE.turned (t' := s6.toks) (fun b o hb e => (sb.2 b hb).trans e) f0 f1 f3 f4 f5, rfl, q6⟩
  exact codeAny_compStart_list go (T.self X.A 0 _ _ _ tB go)
end Fx

--#ty _law_bag _law_script=l _law_cells=l
--#ty _law_take _law_bag_here=l _law_bag_here[4]=l
--#wide _law_take op_fdivW | _law_bag_here[1] // _law_many
namespace Fk
open PySem L2
/-! short words: rdc closes a side condition, r1 one step of a reading, rd as many as there are -/
local macro_rules | `(tactic| walk_at "rdc") => `(tactic| (first | exact Or.inl ⟨by decide, by decide⟩ | exact Or.inr ⟨by decide, by decide⟩ | exact ⟨by decide, by decide⟩ | exact Or.inl ⟨by omega, by omega⟩ | exact Or.inr ⟨by omega, by omega⟩ | ((show (0 : Int) < _); (first | decide | omega)) | exact ⟨by decide, by decide, by decide⟩ | exact ⟨by omega, by assumption⟩))
local macro_rules | `(tactic| walk_at "hp") => `(tactic| (first | exact upd_same | assumption | ((rw [upd_ne (by assumption)]); (first | exact upd_same | assumption | ((rw [upd_ne (by assumption)]); (first | exact upd_same | assumption | ((rw [upd_ne (by assumption)]); (first | exact upd_same | assumption))))))))
local macro_rules | `(tactic| walk_at "r1") => `(tactic| (first | refine ⟨_, rfl, ?_⟩ | refine ⟨_, _, rfl, rfl, ?_⟩ | refine ⟨_, _, rfl, ?_⟩ | refine Or.inl ⟨_, rfl, ?_⟩ | refine ⟨rfl, ?_⟩ | refine ⟨(by walk_at "rdc"), ?_⟩ | refine ⟨_, _, _, _, rfl, rfl, SqL.of (by walk_at "hp"), rfl, ?_⟩ | refine ⟨_, _, _, _, rfl, rfl, (by walk_at "hp"), rfl, ?_⟩ | refine ⟨_, _, _, _, rfl, rfl, SqL.of (by walk_at "hp"), by assumption, ?_⟩))
local macro_rules | `(tactic| walk_at "rd") => `(tactic| (repeat walk_at "r1"))
def top (i : Nat) : Stmt := PySem.Challenge.pw_forkbeats_k93_error_classes.main.body.getD i (.Pass ⟨0, 0, 0, 0⟩)
/-- all that was tracked stands, but for b -/
def Keep (H H' : Hp) (b : Addr) : Prop := ∀ a o, H a = some o → a ≠ b → H' a = some o
theorem Keep.refl (H : Hp) (b : Addr) : Keep H H b := fun _ _ h _ => h
theorem Keep.trans {H H1 H2 : Hp} {b : Addr} (x : Keep H H1 b) (y : Keep H1 H2 b) : Keep H H2 b := fun a o h n => y a o (x a o h n) n
theorem Keep.upd {H H1 : Hp} {b : Addr} {o : HO} (x : Keep H H1 b) : Keep H (upd H1 b o) b := fun a u h n => by
  rw [upd_ne n]
  exact x a u h n
theorem Keep.new {H H1 : Hp} {b p : Addr} {o : HO} (x : Keep H H1 b) (hp : H1 p = none) : Keep H (L2.upd H1 p o) b := fun a u h n => by
  have q := x a u h n
  rw [upd_ne (ne_of_none q hp)]
  exact q
/-- a bag of draws at b -/
def BagIs (H : Hp) (b : Addr) (n acc pos base : Int) (c : Addr) (cells : List Int) : Prop :=
  H b = some (.lst [.int n, .int acc, .int pos, .int base, .ref c]) ∧ H c = some (.lst (cells.map V.int)) ∧ b ≠ c ∧ 0 ≤ acc ∧ 0 ≤ pos ∧ 0 ≤ base ∧ base < 2147483647 ∧ (∀ x ∈ cells, 0 ≤ x) ∧ cells.length ≤ 63
def Bag (H : Hp) (b : Addr) : Prop := ∃ n acc pos base c cells, BagIs H b n acc pos base c cells
theorem Bag.keep {H H' : Hp} {b d : Addr} (h : Bag H b) (k : Keep H H' d) (hd : ∀ n acc pos base c cells, BagIs H b n acc pos base c cells → b ≠ d ∧ c ≠ d) : Bag H' b := by
  obtain ⟨n, acc, pos, base, c, cells, h1, h2, r⟩ := h
  obtain ⟨e1, e2⟩ := hd n acc pos base c cells ⟨h1, h2, r⟩
  exact ⟨n, acc, pos, base, c, cells, k _ _ h1 e1, k _ _ h2 e2, r⟩
/-- the built-ins by their names -/
structure Bn (mg : Str → Option Value) : Prop where
  b_len : mg "len" = none
  b_abs : mg "abs" = none
  b_max : mg "max" = none
  b_int : mg "int" = none
  b_range : mg "range" = none
/-! ### texts -/
theorem fold_list (a : Array Nat) : ∀ (m : Nat) (acc : Array Nat), ((List.replicate m a).foldl (· ++ ·) acc).toList = acc.toList ++ (List.replicate m a.toList).flatten
  | 0, acc => by simp
  | m + 1, acc => by
    rw [List.replicate_succ, List.foldl_cons, fold_list a m]
    simp [List.replicate_succ]
/-- a text times a number -/
def rRepS : R2 := fun x y H Q => ∃ z n, x = .str z ∧ y = .int n ∧ 2 ≤ n ∧ n ≤ 1000 ∧ 0 < z.length ∧ z.length ≤ 1000 ∧ Q (.str ⟨((List.replicate n.toNat z.cps.toList).flatten).toArray⟩) H
theorem op_rep_str {X : Cx} : OpR X (binaryOp .Mult) rRepS := by
  intro pins s σ H x y v u Q I rx ry h
  obtain ⟨z, n, rfl, rfl, h1, h2, h3, h4, q⟩ := h
  obtain ⟨t, rfl⟩ := rx
  obtain ⟨t2, rfl⟩ := ry
  have hn1 : ¬ n < 1 := by omega
  have e1 : (n == 1 || z.length == 0) = false := by
    rw [Bool.or_eq_false_iff]
    exact ⟨by simp; omega, by simp; omega⟩
  have hmul : z.length * n.toNat ≤ 1000 * 1000 := Nat.mul_le_mul h4 (by omega)
  have el : (⟨(List.replicate n.toNat z.cps).foldl (· ++ ·) #[]⟩ : Str) = ⟨((List.replicate n.toNat z.cps.toList).flatten).toArray⟩ := by
    have e := fold_list z.cps n.toNat #[]
    simp only [List.nil_append] at e
    rw [← e]
  refine PySem.P.mul_str ?_ (fun _ _ => ?_) (fun _ _ => ?_) ?_
  · rw [Bool.or_eq_false_iff]
    exact ⟨decide_eq_false (by omega), decide_eq_false (by omega)⟩
  · have : (z.length : Int) ≤ 1000 := by omega
    have h5 : (1000 : Int) ≤ (2 ^ 63 - 1) / n := by
      refine (Int.le_ediv_iff_mul_le (by omega)).mpr ?_
      omega
    omega
  · exact decide_eq_false (by rw [sizeLine_eq]; omega)
  · rw [if_neg hn1, e1, if_neg Bool.false_ne_true, el]
    refine ⟨?_, .str _, H, I.tok _, ⟨_, rfl⟩, q⟩
    show (((List.replicate n.toNat z.cps.toList).flatten).toArray).size ≤ sizeLine
    have hz : z.cps.toList.length = z.length := Array.length_toList
    rw [List.size_toArray, List.length_flatten, List.map_replicate, List.sum_replicate_nat, hz, sizeLine_eq]
    rw [Nat.mul_comm] at hmul
    omega
/-! ### lists and texts, no program -/
theorem pigeon {α : Type} [DecidableEq α] : ∀ (l m : List α), l.Nodup → (∀ x ∈ l, x ∈ m) → l.length ≤ m.length
  | [], _, _, _ => Nat.zero_le _
  | a :: l, m, hn, hs => by
    have ha : a ∈ m := hs a (List.mem_cons_self ..)
    have hn' := List.nodup_cons.mp hn
    have h := pigeon l (m.erase a) hn'.2 fun x hx => (List.mem_erase_of_ne (fun (e : x = a) => hn'.1 (e ▸ hx))).mpr (hs x (List.mem_cons_of_mem _ hx))
    have e := List.length_erase_of_mem ha
    have p : 0 < m.length := List.length_pos_of_mem ha
    rw [List.length_cons]
    omega
theorem fresh_of {α : Type} [DecidableEq α] {l m : List α} (hn : l.Nodup) (hl : m.length < l.length) : ∃ x ∈ l, x ∉ m := by
  by_cases h : ∃ x ∈ l, x ∉ m
  · exact h
  · have h' : ∀ x ∈ l, x ∈ m := fun x hx => by
      by_cases hm : x ∈ m
      · exact hm
      · exact absurd ⟨x, hx, hm⟩ h
    exact absurd (pigeon l m hn h') (by omega)
abbrev S (l : List Nat) : Str := ⟨l.toArray⟩
theorem S_len (l : List Nat) : (S l).length = l.length := by simp [S, Str.length]
theorem S_cat (a b : List Nat) : S a ++ S b = S (a ++ b) := SX.S_cat a b
theorem S_inj {a b : List Nat} (h : S a = S b) : a = b := SX.S_inj h
theorem S_cps (l : List Nat) : (S l).cps.toList = l := rfl
/-- small letters -/
def Lows (l : List Nat) : Prop := ∀ c ∈ l, 97 ≤ c ∧ c ≤ 122
/-- a name -/
def Nm (l : List Nat) : Prop := 1 ≤ l.length ∧ l.length ≤ 12 ∧ Lows l
/-- a text that is a name -/
def Low (z : Str) : Prop := ∃ l, z = S l ∧ Nm l
theorem joinL_one (a b c : Nat) : TL.joinL [] [[a]] = [a] ∧ TL.joinL [] [[a], [b]] = [a, b] ∧ TL.joinL [] [[a], [b], [c]] = [a, b, c] := ⟨rfl, rfl, rfl⟩
theorem join_row {l : List Nat} {a b c : Nat} (h : l = [a] ∨ l = [a, b] ∨ l = [a, b, c]) : Txt.join (S []) (l.map fun c => S [c]) = S l := by
  have e : (l.map fun c => S [c]) = (l.map fun c => [c]).map S := by rw [List.map_map]; rfl
  rw [e, SX.join_S]
  rcases h with rfl | rfl | rfl <;> rfl
theorem cut_row (x y z : V) (k : Int) (h1 : 1 ≤ k) (h2 : k ≤ 4) : cutV [x, y, z] none (some k) = [x] ∨ cutV [x, y, z] none (some k) = [x, y] ∨ cutV [x, y, z] none (some k) = [x, y, z] := by
  have : k = 1 ∨ k = 2 ∨ k = 3 ∨ k = 4 := by omega
  rcases this with rfl | rfl | rfl | rfl
  · exact .inl rfl
  · exact .inr (.inl rfl)
  · exact .inr (.inr rfl)
  · exact .inr (.inr rfl)
theorem row_cut (a b c : Nat) (k : Int) (h1 : 1 ≤ k) (h2 : k ≤ 4) : ∃ l : List Nat, (l = [a] ∨ l = [a, b] ∨ l = [a, b, c]) ∧ cutV [.str (S [a]), .str (S [b]), .str (S [c])] none (some k) = (l.map fun c => S [c]).map V.str := by
  rcases cut_row (.str (S [a])) (.str (S [b])) (.str (S [c])) k h1 h2 with e | e | e
  · exact ⟨[a], .inl rfl, e⟩
  · exact ⟨[a, b], .inr (.inl rfl), e⟩
  · exact ⟨[a, b, c], .inr (.inr rfl), e⟩
theorem cutS_to (l : List Nat) (k : Nat) : cutS (S l) none (some (k : Int)) = S (l.take k) := by
  unfold cutS
  rw [S_cps, S_len, HT.sIx_none, HT.sIx_nat]
  show (⟨((l.drop 0).take (min k l.length - 0)).toArray⟩ : Str) = ⟨(l.take k).toArray⟩
  rw [List.drop_zero, Nat.sub_zero]
  congr 2
  by_cases h : k ≤ l.length
  · rw [Nat.min_eq_left h]
  · rw [Nat.min_eq_right (by omega), List.take_of_length_le (by omega), List.take_of_length_le (by omega)]
/-- the name, then its beginning with each of twelve letters -/
def poolOf (l : List Nat) : List Str := S l :: ([97, 98, 99, 100, 101, 102, 103, 104, 105, 106, 107, 108].map fun c => S (l.take 3 ++ [c]))
theorem pool_low {l : List Nat} (h : Nm l) : ∀ z ∈ poolOf l, Low z := by
  intro z hz
  rcases List.mem_cons.mp hz with rfl | hz
  · exact ⟨l, rfl, h⟩
  · obtain ⟨c, hc, rfl⟩ := List.mem_map.mp hz
    refine ⟨_, rfl, ?_, ?_, ?_⟩
    · rw [List.length_append]
      exact Nat.le_add_left _ _
    · rw [List.length_append, List.length_take]
      show min 3 l.length + 1 ≤ 12
      omega
    · intro d hd
      rcases List.mem_append.mp hd with hd | hd
      · exact h.2.2 d (List.mem_of_mem_take hd)
      · have e : d = c := by simpa using hd
        subst e
        simp only [List.mem_cons, List.not_mem_nil, or_false] at hc
        omega
theorem pool_fresh (l : List Nat) {zs : List Str} (h : zs.length ≤ 11) : ∃ z ∈ poolOf l, z ∉ zs := by
  have hn : ([97, 98, 99, 100, 101, 102, 103, 104, 105, 106, 107, 108].map fun c => S (l.take 3 ++ [c])).Nodup := by
    refine List.Pairwise.map (R := fun a b : Nat => a ≠ b) _ (fun a b hab e => hab ?_) (by decide)
    have e2 := S_inj e
    have e3 := List.append_cancel_left e2
    exact (List.cons.inj e3).1
  obtain ⟨z, hz, hm⟩ := fresh_of (m := zs) hn (by rw [List.length_map]; show zs.length < 12; omega)
  exact ⟨z, List.mem_cons_of_mem _ hz, hm⟩
theorem pool_len (l : List Nat) : (poolOf l).length = 13 := rfl
theorem lows_rep {a b c : Nat} (h : Lows [a, b, c]) : Nm (((List.replicate 4 [a, b, c]).flatten).take 12) := by
  refine ⟨by show 1 ≤ 12; decide, by show 12 ≤ 12; decide, ?_⟩
  intro d hd
  refine h d ?_
  have := List.mem_of_mem_take hd
  obtain ⟨x, hx, hd⟩ := List.mem_flatten.mp this
  rw [(List.mem_replicate.mp hx).2] at hd
  exact hd
theorem sum_ones : ∀ l : List Nat, ((l.map fun c => S [c]).map (·.length)).sum = l.length
  | [] => rfl
  | c :: l => by
    have ih := sum_ones l
    rw [List.map_cons, List.map_cons, List.sum_cons, ih, List.length_cons]
    show 1 + l.length = l.length + 1
    omega
theorem join_size (l : List Nat) (h : l.length ≤ 1000) : ((l.map fun c => S [c]).map (·.length)).sum + (l.map fun c => S [c]).length * (Str.ofString "").length ≤ 16777216 := by
  have e0 : (Str.ofString "").length = 0 := by decide
  rw [sum_ones, e0, Nat.mul_zero]
  omega
theorem nm_size {l : List Nat} (h : Nm l) : (S l).length ≤ sizeLine := by
  rw [S_len]
  exact Nat.le_trans h.2.1 (by decide)
theorem cut_ints (ns : List Int) (lo hi : Option Int) : ∃ ms : List Int, cutV (ns.map V.int) lo hi = ms.map V.int ∧ ms.length ≤ ns.length := by
  refine ⟨(ns.drop (HT.sIx ns.length 0 lo)).take (HT.sIx ns.length ns.length hi - HT.sIx ns.length 0 lo), ?_, ?_⟩
  · unfold cutV
    rw [List.length_map, List.map_take, List.map_drop]
  · rw [List.length_take, List.length_drop]
    omega
theorem ints_at {ns : List Int} {i : Nat} {y : V} (h : (ns.map V.int)[i]? = some y) : ∃ z, ns[i]? = some z ∧ y = V.int z := by
  rw [List.getElem?_map] at h
  cases e : ns[i]? with
  | none =>
    rw [e] at h
    cases h
  | some z =>
    rw [e] at h
    exact ⟨z, rfl, (Option.some.inj h).symm⟩
theorem map_snoc (l : List Int) (z : Int) : l.map V.int ++ [V.int z] = (l ++ [z]).map V.int := by
  rw [List.map_append]
  rfl
theorem Same.new {H H1 : Hp} {p : Addr} {o : HO} (x : Same H H1) (hp : H1 p = none) : Same H (upd H1 p o) := fun a u h => by
  have q := x a u h
  rw [upd_ne (ne_of_none q hp)]
  exact q
theorem Same.set {H H1 : Hp} {D : Addr} {o : HO} (x : Same H H1) (hD : H D = none) : Same H (upd H1 D o) := fun a u h => by
  rw [upd_ne (ne_of_none h hD)]
  exact x a u h
theorem Bag.same {H H' : Hp} {b : Addr} (h : Bag H b) (k : Same H H') : Bag H' b := by
  obtain ⟨n, acc, pos, bs, c, cells, h1, h2, r⟩ := h
  exact ⟨n, acc, pos, bs, c, cells, k _ _ h1, k _ _ h2, r⟩
theorem Keep.same {H H1 H2 : Hp} {b : Addr} (x : Keep H H1 b) (k : Same H1 H2) : Keep H H2 b := fun a o h n => k a o (x a o h n)
section
variable {P : Program} {w : World} {K : PySem.W.Frag} {mg : Str → Option Value} {base : Heap}
/-! ### _law_bag -/
abbrev s__law_bag : Stmt := top 22
theorem sc__law_bag : FnScope ["_law_script", "_law_cell", "_law_cells", "_law_base"] ["_law_script"] (defScope s__law_bag) := ⟨rfl, rfl, rfl, by decide +kernel, rfl, by decide +kernel, by decide +kernel⟩
def spBag (K : PySem.W.Frag) : Sp := fun vs H Q _ => ∃ (a : Addr) (ns : List Int), vs = [.ref a] ∧ SqL K H a (ns.map V.int) ∧ ns.length ≤ 63 ∧
  ∀ H' b, Same H H' → Bag H' b → Q (.ref b) H'
theorem ok_bag {f : Addr} {fd : FuncData} (F : Fun K "_law_bag" "_law_bag" s__law_bag f fd) (T : Bn mg) : FnOk P w K mg base CX0 1 f fd ["_law_script"] (spBag K) := by
  refine F.ok sc__law_bag (fun vs H Q E h => ?_) (fun cdv A outer s H vs Q E hr h => ?_)
  · obtain ⟨a, ns, rfl, _⟩ := h
    rfl
  · obtain ⟨a, ns, rfl, hS, hl, k⟩ := h
    refine ⟨_, (pss_cons (ps_setLc (i := 2) (own := [("_law_cell", 1)]) (g := gName 1) (tt := tYes) rfl sc__law_bag.nd rfl rfl (sw_true rfl rfl rfl (by decide +kernel)) (pi_list (pe_slice sl_list (pv 0) po_none (po_some pe_int))) (blkOk_by (own := [("_law_cell", 1)]) (N := ["_law_script", "_law_cell", "_law_cells", "_law_base"]) (sc := defScope s__law_bag) (by decide +kernel)) (fun _ _ _ _ _ => pg_name (i := 1) sc__law_bag.nd rfl (by first | exact Or.inl rfl | exact Or.inr rfl)) (fun _ _ _ _ _ => pts_nil) (fun _ _ _ _ _ => (pe_callB call_abs (by rfl) T.b_abs (by decide +kernel) (pa_cons (pe_callTy call_int1 (by rfl) T.b_int (by decide +kernel) (pa_cons (pv 1) pa_nil)) pa_nil))))
      (pss_cons (ps_set (i := 3) sc__law_bag.nd rfl (by first | exact Or.inl rfl | exact Or.inr rfl) pe_int)
      (pss_cons (ps_for PassesOwn.never rfl (pi_list (pv 2)) (pg_name (i := 1) sc__law_bag.nd rfl (by first | exact Or.inl rfl | exact Or.inr rfl)) (pss_one (ps_set (i := 3) sc__law_bag.nd rfl (by first | exact Or.inl rfl | exact Or.inr rfl) (pe_op op_mod (pe_callTy call_int1 (by rfl) T.b_int (by decide +kernel) (pa_cons (pe_op op_add (pe_op op_mul (pv 3) pe_int) (pv 1)) pa_nil)) pe_int))))
      (pss_one (ps_ret (pe_lst (pa_cons pe_int (pa_cons pe_int (pa_cons pe_int (pa_cons (pv 3) (pa_cons (pv 2) pa_nil))))))))))), ?_⟩
    walk_at "rd"
    refine ⟨a, _, rfl, hS, fun p np => ?_⟩
    refine ⟨_, rfl, ⟨_, SqL.of upd_same⟩, fun D nD => ?_⟩
    obtain ⟨ms, em, hml⟩ := cut_ints ns none (some 63)
    rw [em] at nD ⊢
    have npD : p ≠ D := fun z => by
      rw [← z, upd_same] at nD
      cases nD
    have nD0 : H D = none := by
      rw [upd_ne npD.symm] at nD
      exact nD
    refine lc_list (K := K) (a := p) (xs := ms.map V.int) (fun i H' => ∃ acc : List Int, H' D = some (.lst (acc.map V.int)) ∧ acc.length = i ∧ (∀ x ∈ acc, 0 ≤ x) ∧ H' p = some (.lst (ms.map V.int)) ∧ Same H H' ∧ ∀ b, H' b = none → H b = none) ?_ ?_ ?_ ?_
    · refine ⟨[], upd_same, rfl, (fun _ z => nomatch z), ?_, ?_, ?_⟩
      · rw [upd_ne npD]
        exact upd_same
      · exact Same.new (Same.new (Same.refl H) np) nD
      · intro b hb
        exact (Same.new (Same.new (Same.refl H) np) nD).free hb
    · rintro i H' _ ⟨acc, _, _, _, h, _⟩
      exact SqL.of h
    · rintro i x H' hi ⟨acc, hD, hl', hpos, hp', hs, hf⟩
      obtain ⟨z, hz, rfl⟩ := ints_at hi
      have hi63 : i < ms.length := (List.getElem?_eq_some_iff.mp hz).1
      refine ⟨rfl, ?_⟩
      walk_at "rd"
      have hDp : p ≠ D := npD
      refine ⟨_, hD, ?_, acc ++ [if z < 0 then -z else z], ?_, ?_, ?_, ?_, ?_, ?_⟩
      · rw [List.length_map, hl']
        exact small1000 (by omega)
      · rw [upd_same, map_snoc]
      · rw [List.length_append, hl']
        rfl
      · intro x hx
        rcases List.mem_append.mp hx with h | h
        · exact hpos x h
        · have e : x = (if z < 0 then -z else z) := by simpa using h
          rw [e]
          split <;> omega
      · rw [upd_ne npD]
        exact hp'
      · intro b o e
        rw [upd_ne (fun z => by rw [z, nD0] at e; cases e)]
        exact hs b o e
      · intro b hb
        by_cases hbD : b = D
        · rw [hbD]
          exact nD0
        · rw [upd_ne hbD] at hb
          exact hf b hb
    · rintro H' ⟨acc, hD, hl', hpos, hp', hs, hf⟩
      rw [List.length_map] at hl'
      walk_at "rd"
      refine ⟨⟨_, SqL.of hD⟩, ?_⟩
      refine for_list (K := K) (a := D) (xs := acc.map V.int) (fun i σ H2 => H2 = H' ∧ ∃ (v : Option V) (bs : Int), σ = [some (.ref a), v, some (.ref D), some (.int bs)] ∧ 0 ≤ bs ∧ bs < 2147483647)
        ⟨rfl, none, 0, rfl, by decide, by decide⟩ (fun i σ H2 _ e => by rw [e.1]; exact SqL.of hD) ?_ ?_
      · rintro i y σ H2 hi ⟨rfl, v, bs, rfl, h0, h1⟩
        obtain ⟨z, hz, rfl⟩ := ints_at hi
        walk_at "rd"
        exact ⟨Int.emod_nonneg _ (by decide), Int.emod_lt_of_pos _ (by decide)⟩
      · rintro σ H2 ⟨rfl, v, bs, rfl, h0, h1⟩
        walk_at "rd"
        refine ⟨by show 5 ≤ sizeLine; decide, fun q hq => ?_⟩
        refine k _ q (Same.new hs hq) ⟨0, 0, 0, bs, D, acc, upd_same, ?_, ?_, by decide, by decide, h0, h1, hpos, by omega⟩
        · rw [upd_ne (ne_of_none hD hq)]
          exact hD
        · exact (ne_of_none hD hq).symm
/-! ### _law_mixed -/
abbrev s__law_mixed : Stmt := top 23
theorem sc__law_mixed : FnScope ["_law_cell", "_law_turn", "_law_number"] ["_law_cell", "_law_turn"] (defScope s__law_mixed) := ⟨rfl, rfl, rfl, by decide +kernel, rfl, by decide +kernel, by decide +kernel⟩
def spMixed : Sp := fun vs H Q _ => ∃ x t : Int, vs = [.int x, .int t] ∧ 0 ≤ x ∧ x < 2 ^ 64 ∧ ∀ r : Int, 0 ≤ r → Q (.int r) H
theorem ok_mixed {f : Addr} {fd : FuncData} (F : Fun K "_law_mixed" "_law_mixed" s__law_mixed f fd) (T : Bn mg) : FnOk P w K mg base CX0 1 f fd ["_law_cell", "_law_turn"] spMixed := by
  refine F.ok sc__law_mixed (fun vs H Q E h => ?_) (fun cdv A outer s H vs Q E hr h => ?_)
  · obtain ⟨x, t, rfl, _⟩ := h
    rfl
  · obtain ⟨x, t, rfl, h0, h1, k⟩ := h
    refine ⟨_, (pss_cons (ps_set (i := 2) sc__law_mixed.nd rfl (by first | exact Or.inl rfl | exact Or.inr rfl) (pe_op op_mod (pe_callTy call_int1 (by rfl) T.b_int (by decide +kernel) (pa_cons (pe_op op_mul (pv 0) (pe_op op_add (pe_op op_mul pe_int (pv 1)) pe_int)) pa_nil)) pe_int))
      (pss_cons (ps_set (i := 2) sc__law_mixed.nd rfl (by first | exact Or.inl rfl | exact Or.inr rfl) (pe_op op_mod (pe_callTy call_int1 (by rfl) T.b_int (by decide +kernel) (pa_cons (pe_op op_add (pe_op op_mul (pv 2) pe_int) (pe_op op_fdiv (pv 2) pe_int)) pa_nil)) pe_int))
      (pss_one (ps_ret (pe_op op_fdiv (pv 2) pe_int))))), ?_⟩
    walk_at "rd"
    exact k _ (Int.ediv_nonneg (Int.emod_nonneg _ (by decide)) (by decide))
/-! ### _law_take -/
abbrev s__law_take : Stmt := top 24
theorem sc__law_take : FnScope ["_law_bag_here", "_law_many", "_law_cell", "_law_digit"] ["_law_bag_here", "_law_many"] (defScope s__law_take) := ⟨rfl, rfl, rfl, by decide +kernel, rfl, by decide +kernel, by decide +kernel⟩
def spTake : Sp := fun vs H Q _ => ∃ (b : Addr) (m : Int), vs = [.ref b, .int m] ∧ Bag H b ∧ m < 2 ^ 200 ∧
  ∀ (r : Int) H', Bag H' b → Keep H H' b → 0 ≤ r → r < max 1 m → Q (.int r) H'
theorem ok_take {f : Addr} {fd : FuncData} (F : Fun K "_law_take" "_law_take" s__law_take f fd) (T : Bn mg) (c__law_mixed : C8.Cal P w K mg base 1 "_law_mixed" spMixed []) : FnOk P w K mg base CX0 2 f fd ["_law_bag_here", "_law_many"] spTake := by
  refine F.ok sc__law_take (fun vs H Q E h => ?_) (fun cdv A outer s H vs Q E hr h => ?_)
  · obtain ⟨b, m, rfl, _⟩ := h
    rfl
  · obtain ⟨b, m, rfl, hb, hm, k⟩ := h
    refine ⟨_, (pss_cons (ps_set (i := 1) sc__law_take.nd rfl (by first | exact Or.inl rfl | exact Or.inr rfl) (pe_callB (call_max2 rfl) (by rfl) T.b_max (by decide +kernel) (pa_cons pe_int (pa_cons (pv 1) pa_nil))))
      (pss_cons (ps_asg (pe_op op_add (pe_ix ix_list (pv 0) pe_int (fun _ _ => rfl)) pe_int) (pg_sub (pv 0) pe_int set_list))
      (pss_cons (ps_if (PW.pt (pw_and (pt_cmpR op_lt (pe_ix ix_list (pv 0) pe_int (fun _ _ => rfl)) (pv 1) (nomark _)) (pw_and1 (pt_cmpR op_lt (pe_ix ix_list (pv 0) pe_int (fun _ _ => rfl)) (pe_callB call_len (by rfl) T.b_len PySem.boot_len (pa_cons (pe_ix ix_list (pv 0) pe_int (fun _ _ => rfl)) pa_nil)) (nomark _))))) (pss_cons (ps_set (i := 2) sc__law_take.nd rfl (by first | exact Or.inl rfl | exact Or.inr rfl) (pe_ix ix_list (pe_ix ix_list (pv 0) pe_int (fun _ _ => rfl)) (pe_ix ix_list (pv 0) pe_int (fun _ _ => rfl)) (fun _ _ => rfl)))
      (pss_cons (ps_asg (pe_op op_add (pe_ix ix_list (pv 0) pe_int (fun _ _ => rfl)) pe_int) (pg_sub (pv 0) pe_int set_list))
      (pss_cons (ps_if (pt_cmpR op_lt (pv 2) (pe_op op_pow pe_int pe_int) (nomark _)) (pss_one (ps_ret (pe_op op_mod (pe_callTy call_int1 (by rfl) T.b_int (by decide +kernel) (pa_cons (C8.pe_c c__law_mixed hr (by decide) rfl (pa_cons (pv 2) (pa_cons (pe_ix ix_list (pv 0) pe_int (fun _ _ => rfl)) pa_nil))) pa_nil)) (pv 1)))) pss_nil)
      (pss_one (ps_asg (pv 2) (pg_sub (pv 0) pe_int set_list)))))) pss_nil)
      (pss_cons (ps_if (pt_cmpR op_ge (pe_ix ix_list (pv 0) pe_int (fun _ _ => rfl)) (pv 1) (nomark _)) (pss_cons (ps_set (i := 3) sc__law_take.nd rfl (by first | exact Or.inl rfl | exact Or.inr rfl) (pe_op op_mod (pe_callTy call_int1 (by rfl) T.b_int (by decide +kernel) (pa_cons (pe_ix ix_list (pv 0) pe_int (fun _ _ => rfl)) pa_nil)) (pv 1)))
      (pss_cons (ps_asg (pe_op op_fdivW (pe_ix ix_list (pv 0) pe_int (fun _ _ => rfl)) (pv 1)) (pg_sub (pv 0) pe_int set_list))
      (pss_one (ps_ret (pv 3))))) pss_nil)
      (pss_one (ps_ret (pe_op op_mod (pe_callTy call_int1 (by rfl) T.b_int (by decide +kernel) (pa_cons (C8.pe_c c__law_mixed hr (by decide) rfl (pa_cons (pe_ix ix_list (pv 0) pe_int (fun _ _ => rfl)) (pa_cons (pe_ix ix_list (pv 0) pe_int (fun _ _ => rfl)) pa_nil))) pa_nil)) (pv 1)))))))), ?_⟩
    obtain ⟨n, acc, pos, bs, c, cells, h1, h2, hbc, ha, hp, hbs, hbs2, hcs, hl⟩ := hb
    have hcb : c ≠ b := hbc.symm
    have kk : ∀ (r n' acc' pos' : Int) (H' : Hp), H' b = some (.lst [.int n', .int acc', .int pos', .int bs, .ref c]) → Keep H H' b → 0 ≤ acc' → 0 ≤ pos' → 0 ≤ r → r < max 1 m → Q (.int r) H' :=
      fun r n' acc' pos' H' e kp e1 e2 e3 e4 => k r H' ⟨n', acc', pos', bs, c, cells, e, kp _ _ h2 hcb, hbc, e1, e2, hbs, hbs2, hcs, hl⟩ kp e3 e4
    walk_at "rd"
    have hM1 : (if m > 1 then m else 1) = max 1 m := by omega
    rw [hM1]
    have hMa : 1 ≤ max 1 m := by omega
    have hMb : (max 1 m).natAbs.log2 < 9000 := Nat.lt_of_lt_of_le (PySem.Flt.log2_lt_of (show 0 < 200 by decide) (show (max 1 m).natAbs < 2 ^ 200 by omega)) (show 200 ≤ 9000 by decide)
    generalize max 1 m = M at *
    have kp0 : ∀ l : List V, Keep H (upd H b (.lst l)) b := fun l => (Keep.refl H b).upd
    have tail1 : ∀ (r n' acc' pos' : Int) (H' : Hp), H' b = some (.lst [.int n', .int acc', .int pos', .int bs, .ref c]) → Keep H H' b → 0 ≤ acc' → 0 ≤ pos' → 0 ≤ r → Q (.int (r % M)) H' :=
      fun r n' acc' pos' H' e kp e1 e2 e3 => kk _ n' acc' pos' H' e kp e1 e2 (Int.emod_nonneg _ (by omega)) (Int.emod_lt_of_pos _ (by omega))
    refine ite2 (fun c1 => ?_) (fun c1 => ?_)
    · walk_at "rd"
      refine ⟨_, _, rfl, .inl ⟨_, SqL.of (by walk_at "hp"), rfl⟩, ?_⟩
      walk_at "rd"
      refine ite2 (fun c2 => ?_) (fun c2 => ?_)
      · have c2' := of_decide_eq_true c2
        rw [List.length_map] at c2'
        obtain ⟨x, hx⟩ : ∃ x, cells[pos.toNat]? = some x := ⟨_, List.getElem?_eq_getElem (by omega)⟩
        have hx0 : 0 ≤ x := hcs x (List.mem_of_getElem? hx)
        have hat : atI (cells.map V.int) pos = some (V.int x) := at_of (j := pos.toNat) (by omega) (by rw [List.getElem?_map, hx]; rfl)
        walk_at "rd"
        refine ite2 (fun c3 => ?_) (fun c3 => ?_)
        · have c3' : x < 10 ^ (18 : Int).toNat := of_decide_eq_true c3
          have c3'' : x < 1000000000000000000 := c3'
          walk_at "rd"
          refine ⟨hx0, by omega, fun r hr0 => ?_⟩
          walk_at "rd"
          exact tail1 r _ _ _ _ upd_same (Keep.refl H b).upd.upd ha (by omega) hr0
        · walk_at "rd"
          refine ite2 (fun c4 => ?_) (fun c4 => ?_)
          · walk_at "rd"
            exact tail1 x _ _ _ _ upd_same (Keep.refl H b).upd.upd.upd.upd (Int.ediv_nonneg hx0 (by omega)) (by omega) hx0
          · walk_at "rd"
            refine ⟨hbs, by omega, fun r hr0 => ?_⟩
            walk_at "rd"
            exact tail1 r _ _ _ _ (by walk_at "hp") (Keep.refl H b).upd.upd.upd hx0 (by omega) hr0
      · walk_at "rd"
        refine ite2 (fun c4 => ?_) (fun c4 => ?_)
        · walk_at "rd"
          exact tail1 acc _ _ _ _ upd_same (Keep.refl H b).upd.upd (Int.ediv_nonneg ha (by omega)) hp ha
        · walk_at "rd"
          refine ⟨hbs, by omega, fun r hr0 => ?_⟩
          walk_at "rd"
          exact tail1 r _ _ _ _ (by walk_at "hp") (Keep.refl H b).upd ha hp hr0
    · walk_at "rd"
      refine ite2 (fun c4 => ?_) (fun c4 => ?_)
      · walk_at "rd"
        exact tail1 acc _ _ _ _ upd_same (Keep.refl H b).upd.upd (Int.ediv_nonneg ha (by omega)) hp ha
      · walk_at "rd"
        refine ⟨hbs, by omega, fun r hr0 => ?_⟩
        walk_at "rd"
        exact tail1 r _ _ _ _ (by walk_at "hp") (Keep.refl H b).upd ha hp hr0
--#ty _law_name _law_letters=s _law_row=l _law_names=l _law_name_here=s _law_pool=l _law_letter=s _law_one=s
--#ty _law_name _law_row_here=l _law_names_here=l
--#ret _law_take i
--#ret _law_name s
--#cut _law_name 4
/-! ### _law_name -/
theorem letters_at : ∀ n : Nat, n < 26 → atI (("qwertyuiopasdfghjklzxcvbnm" : Str).cps.toList) (n : Int) = some (("qwertyuiopasdfghjklzxcvbnm" : Str).cps.toList.getD n 0) ∧ 97 ≤ ("qwertyuiopasdfghjklzxcvbnm" : Str).cps.toList.getD n 0 ∧ ("qwertyuiopasdfghjklzxcvbnm" : Str).cps.toList.getD n 0 ≤ 122 := by decide +kernel
theorem letter_at (i : Int) (h0 : 0 ≤ i) (h1 : i < 26) : ∃ c, atI (("qwertyuiopasdfghjklzxcvbnm" : Str).cps.toList) i = some c ∧ 97 ≤ c ∧ c ≤ 122 := by
  obtain ⟨n, rfl⟩ := Int.eq_ofNat_of_zero_le h0
  exact ⟨_, letters_at n (by omega)⟩
theorem strs_ne_bag {zs : List Str} {n acc pos bs : Int} {c : Addr} : HO.lst (zs.map V.str) ≠ HO.lst [.int n, .int acc, .int pos, .int bs, .ref c] := by
  intro e
  have e := HO.lst.inj e
  cases zs with
  | nil => cases e
  | cons z zs =>
    have := (List.cons.inj e).1
    cases this
theorem Bag.new {H : Hp} {b p : Addr} {o : HO} (h : Bag H b) (hp : H p = none) : Bag (upd H p o) b := by
  obtain ⟨n, acc, pos, bs, c, cells, h1, h2, r⟩ := h
  exact ⟨n, acc, pos, bs, c, cells, (upd_ne (ne_of_none h1 hp)).trans h1, (upd_ne (ne_of_none h2 hp)).trans h2, r⟩
theorem inV_strs (z : Str) : ∀ zs : List Str, inV (.str z) (zs.map V.str) = decide (z ∈ zs)
  | [] => rfl
  | y :: zs => by
    have ih := inV_strs z zs
    unfold inV at ih ⊢
    rw [List.map_cons, List.any_cons, ih]
    show ((y == z) || decide (z ∈ zs)) = decide (z ∈ y :: zs)
    by_cases h : y = z
    · subst h
      simp
    · have h2 : (y == z) = false := by simpa using h
      have h3 : ¬ z = y := fun e => h e.symm
      simp [h2, h3]
theorem strs_flat (zs : List Str) : (zs.map V.str).all flatV = true := by
  rw [List.all_map, List.all_eq_true]
  intro _ _
  rfl
theorem take_snoc {α : Type} {l : List α} {i : Nat} {x : α} (h : l[i]? = some x) : l.take (i + 1) = l.take i ++ [x] := by
  rw [List.take_add_one, h]
  rfl
theorem strs_at {zs : List Str} {i : Nat} {y : V} (h : (zs.map V.str)[i]? = some y) : ∃ z, zs[i]? = some z ∧ y = V.str z := by
  rw [List.getElem?_map] at h
  cases e : zs[i]? with
  | none =>
    rw [e] at h
    cases h
  | some z =>
    rw [e] at h
    exact ⟨z, rfl, (Option.some.inj h).symm⟩
abbrev s__law_name : Stmt := top 25
theorem sc__law_name : FnScope ["_law_bag_here", "_law_names", "_law_letters", "_law_number", "_law_row", "_law_name_here", "_law_pool", "_law_letter", "_law_one"] ["_law_bag_here", "_law_names"] (defScope s__law_name) := ⟨rfl, rfl, rfl, by decide +kernel, rfl, by decide +kernel, by decide +kernel⟩
def spName : Sp := fun vs H Q _ => ∃ (b q : Addr) (zs : List Str), vs = [.ref b, .ref q] ∧ Bag H b ∧ H q = some (.lst (zs.map V.str)) ∧ zs.length ≤ 11 ∧
  ∀ (z : Str) H', Bag H' b → Keep H H' b → Low z → z ∉ zs → Q (.str z) H'
theorem ok_name {f : Addr} {fd : FuncData} (F : Fun K "_law_name" "_law_name" s__law_name f fd) (T : Bn mg) (c__law_take : C8.Cal P w K mg base 2 "_law_take" spTake []) : FnOk P w K mg base CX0 3 f fd ["_law_bag_here", "_law_names"] spName := by
  refine F.ok sc__law_name (fun vs H Q E h => ?_) (fun cdv A outer s H vs Q E hr h => ?_)
  · obtain ⟨b, q, zs, rfl, _⟩ := h
    rfl
  · obtain ⟨b, q, zs, rfl, hb, hq, hz, k⟩ := h
    have hqb : q ≠ b := by
      obtain ⟨n, acc, pos, bs, c, cells, h1, _⟩ := hb
      exact ne_of hq h1 strs_ne_bag
    refine ⟨_, (pss_cons (ps_set (i := 2) sc__law_name.nd rfl (by first | exact Or.inl rfl | exact Or.inr rfl) pe_str)
      (pss_cons (ps_set (i := 3) sc__law_name.nd rfl (by first | exact Or.inl rfl | exact Or.inr rfl) (C8.pe_c c__law_take hr (by decide) rfl (pa_cons (pv 0) (pa_cons (pe_op op_mul (pe_op op_mul (pe_op op_mul pe_int pe_int) pe_int) pe_int) pa_nil))))
      (pss_cons (ps_set (i := 4) sc__law_name.nd rfl (by first | exact Or.inl rfl | exact Or.inr rfl) (pe_lst (pa_cons (pe_ix ix_str (pv 2) (pe_op op_mod (pe_callTy call_int1 (by rfl) T.b_int (by decide +kernel) (pa_cons (pe_op op_fdiv (pv 3) pe_int) pa_nil)) pe_int) (fun _ _ => rfl)) (pa_cons (pe_ix ix_str (pv 2) (pe_op op_mod (pe_callTy call_int1 (by rfl) T.b_int (by decide +kernel) (pa_cons (pe_op op_fdiv (pv 3) pe_int) pa_nil)) pe_int) (fun _ _ => rfl)) (pa_cons (pe_ix ix_str (pv 2) (pe_op op_mod (pe_callTy call_int1 (by rfl) T.b_int (by decide +kernel) (pa_cons (pe_op op_fdiv (pv 3) pe_int) pa_nil)) pe_int) (fun _ _ => rfl)) pa_nil)))))
      (pss_cons (ps_set (i := 5) sc__law_name.nd rfl (by first | exact Or.inl rfl | exact Or.inr rfl) (pe_join pe_str (pe_slice sl_list (pv 4) po_none (po_some (pe_op op_add pe_int (pe_op op_mod (pe_callTy call_int1 (by rfl) T.b_int (by decide +kernel) (pa_cons (pv 3) pa_nil)) pe_int))))))
      (C8.pss_cut (ps_if (pt_cmpR op_eq (pe_op op_mod (pe_callTy call_int1 (by rfl) T.b_int (by decide +kernel) (pa_cons (pv 3) pa_nil)) pe_int) pe_int (nomark _)) (pss_one (ps_set (i := 5) sc__law_name.nd rfl (by first | exact Or.inl rfl | exact Or.inr rfl) (pe_slice sl_str (pe_op op_rep_str (pe_join pe_str (pv 4)) pe_int) po_none (po_some pe_int)))) pss_nil)
      (pss_cons (ps_set (i := 6) sc__law_name.nd rfl (by first | exact Or.inl rfl | exact Or.inr rfl) (pe_op op_cat (pe_lst (pa_cons (pv 5) pa_nil)) (pe_lc (own := [("_law_letter", 7)]) (g := gName 7) (tt := tYes) rfl sc__law_name.nd (pi_str pe_str) (blkOk_by (own := [("_law_letter", 7)]) (N := ["_law_bag_here", "_law_names", "_law_letters", "_law_number", "_law_row", "_law_name_here", "_law_pool", "_law_letter", "_law_one"]) (sc := defScope s__law_name) (by decide +kernel)) (fun _ _ _ _ _ => pg_name (i := 7) sc__law_name.nd rfl (by first | exact Or.inl rfl | exact Or.inr rfl)) (fun _ _ _ _ _ => pts_nil) (fun _ _ _ _ _ => (pe_op op_add_str (pe_slice sl_str (pv 5) po_none (po_some pe_int)) (pv 7))))))
      (pss_one (ps_ret (pe_ix ix_list (pe_lc (own := [("_law_one", 8)]) (g := gName 8) rfl sc__law_name.nd (pi_list (pv 6)) (blkOk_by (own := [("_law_one", 8)]) (N := ["_law_bag_here", "_law_names", "_law_letters", "_law_number", "_law_row", "_law_name_here", "_law_pool", "_law_letter", "_law_one"]) (sc := defScope s__law_name) (by decide +kernel)) (fun _ _ _ _ _ => pg_name (i := 8) sc__law_name.nd rfl (by first | exact Or.inl rfl | exact Or.inr rfl)) (fun _ _ _ _ _ => pts_one (pt_cmpR (show OpR _ (compareOp .NotIn) (rIn K true) from op_notIn_seq) (pv 8) (pv 1) (by rfl))) (fun _ _ _ _ _ => (pv 8))) pe_int (fun _ _ => rfl)))))))))), ?_⟩
    walk_at "rd"
    refine ⟨hb, by decide, fun r H1 hb1 hk1 h0 h1 => ?_⟩
    walk_at "rd"
    obtain ⟨c1, e1, l1, u1⟩ := letter_at ((r / 8) % 26) (by omega) (by omega)
    obtain ⟨c2, e2, l2, u2⟩ := letter_at ((r / 208) % 26) (by omega) (by omega)
    obtain ⟨c3, e3, l3, u3⟩ := letter_at ((r / 5408) % 26) (by omega) (by omega)
    have hlow : Lows [c1, c2, c3] := by
      intro d hd
      simp only [List.mem_cons, List.not_mem_nil, or_false] at hd
      rcases hd with rfl | rfl | rfl
      · exact ⟨l1, u1⟩
      · exact ⟨l2, u2⟩
      · exact ⟨l3, u3⟩
    refine ⟨_, _, c1, rfl, rfl, by decide, e1, ?_⟩
    walk_at "rd"
    refine ⟨_, _, c2, rfl, rfl, by decide, e2, ?_⟩
    walk_at "rd"
    refine ⟨_, _, c3, rfl, rfl, by decide, e3, ?_⟩
    refine ⟨by show 3 ≤ sizeLine; decide, fun p np => ?_⟩
    walk_at "rd"
    have hpb : b ≠ p := by
      obtain ⟨n, acc, pos, bs, c, cells, h1, _⟩ := hb1
      exact ne_of_none h1 np
    refine ⟨⟨_, rfl⟩, ?_⟩
    walk_at "rd"
    obtain ⟨l, hl3, el⟩ := row_cut c1 c2 c3 (1 + r % 4) (by omega) (by omega)
    refine ⟨_, _, rfl, SqL.of upd_same, fun p2 np2 => ?_⟩
    have es : SqL K (upd (upd H1 p (.lst [.str (S [c1]), .str (S [c2]), .str (S [c3])])) p2 (.lst (cutV [.str (S [c1]), .str (S [c2]), .str (S [c3])] none (some (1 + r % 4))))) p2 ((l.map fun c => S [c]).map V.str) := by
      rw [← el]
      exact SqL.of upd_same
    have hsz : ((l.map fun c => S [c]).map (·.length)).sum + (l.map fun c => S [c]).length * (Str.ofString "").length ≤ 16777216 := by
      refine join_size l ?_
      rcases hl3 with rfl | rfl | rfl <;> simp
    refine ⟨_, p2, l.map fun c => S [c], rfl, rfl, .inl es, hsz, ?_⟩
    rw [show Txt.join (Str.ofString "") (l.map fun c => S [c]) = S l from join_row hl3]
    have hnm : Nm l := by
      rcases hl3 with rfl | rfl | rfl
      · exact ⟨by simp, by simp, fun d hd => hlow d (by simp at hd; simp [hd])⟩
      · exact ⟨by simp, by simp, fun d hd => hlow d (by simp at hd; rcases hd with rfl | rfl <;> simp)⟩
      · exact ⟨by simp, by simp, hlow⟩
    have hk3 := fun o => (hk1.new np).new (o := o) np2
    have hb3 := fun o => (hb1.new np).new (o := o) np2
    refine ⟨fun σ' H' => ∃ l : List Nat, Nm l ∧ σ' = [some (.ref b), some (.ref q), some (.str "qwertyuiopasdfghjklzxcvbnm"), some (.int r), some (.ref p), some (.str (S l)), none, none, none] ∧ Bag H' b ∧ Keep H H' b, ?_, ?_⟩
    · walk_at "rd"
      refine ite2 (fun c => ?_) (fun c => ?_)
      · walk_at "rd"
        refine ⟨⟨_, rfl⟩, ?_⟩
        walk_at "rd"
        refine ⟨_, p, [S [c1], S [c2], S [c3]], rfl, rfl, .inl (SqL.of ?_), join_size [c1, c2, c3] (by simp), ?_⟩
        · rw [upd_ne (fun z => by rw [z] at np2; rw [← z, upd_same] at np2; cases np2)]
          exact upd_same
        rw [show Txt.join (Str.ofString "") [S [c1], S [c2], S [c3]] = S [c1, c2, c3] from join_row (a := c1) (b := c2) (c := c3) (.inr (.inr rfl))]
        walk_at "rd"
        refine ⟨by decide, by decide, by show (0 : Nat) < 3; decide, by show (3 : Nat) ≤ 1000; decide, ?_⟩
        walk_at "rd"
        refine ⟨by show (12 : Nat) ≤ sizeLine; decide, ?_⟩
        refine ⟨_, lows_rep hlow, ?_, hb3 _, hk3 _⟩
        rw [← show cutS (S ((List.replicate 4 [c1, c2, c3]).flatten)) none (some ((12 : Nat) : Int)) = S (((List.replicate 4 [c1, c2, c3]).flatten).take 12) from cutS_to _ 12]
        rfl
      · exact ⟨l, hnm, rfl, hb3 _, hk3 _⟩
    · rintro σ' H2 ⟨l, hl, rfl, hb2, hk2⟩
      walk_at "rd"
      refine ⟨by show 1 ≤ sizeLine; decide, fun p1 np1 => ?_⟩
      refine ⟨_, rfl, fun D nD => ?_⟩
      have hp1D : p1 ≠ D := ne_of_none (o := .lst [.str (S l)]) upd_same nD
      have hab : ("abcdefghijkl" : Str) = S [97, 98, 99, 100, 101, 102, 103, 104, 105, 106, 107, 108] := by decide +kernel
      rw [hab]
      let H3 := upd H2 p1 (.lst [.str (S l)])
      have nD3 : H3 D = none := nD
      refine lc_it walk_str (fun i H' => H' D = some (.lst ((([97, 98, 99, 100, 101, 102, 103, 104, 105, 106, 107, 108].take i).map fun c => S (l.take 3 ++ [c])).map V.str)) ∧ Same H3 H') ?_ (fun _ _ _ _ => trivial) ?_ ?_
      · exact ⟨upd_same, Same.set (Same.refl H3) nD3⟩
      · rintro i x H' H'' hi ⟨hD, hs⟩ ⟨rfl, c, hc, rfl⟩
        walk_at "rd"
        refine ⟨nm_size hl, ?_⟩
        walk_at "rd"
        rw [show cutS (S l) none (some (3 : Int)) = S (l.take 3) from cutS_to l 3]
        have hi12 : i < 12 := hi
        have hc' : ([97, 98, 99, 100, 101, 102, 103, 104, 105, 106, 107, 108] : List Nat)[i]? = some c := by
          rw [← Array.getElem?_toList] at hc
          exact hc
        refine ⟨?_, _, hD, ?_, ?_, Same.set hs nD3⟩
        · have e1 : (S (l.take 3)).length ≤ 3 := by
            rw [S_len, List.length_take]
            omega
          have e2 : (⟨#[c]⟩ : Str).length = 1 := rfl
          rw [e2, sizeLine_eq]
          omega
        · rw [List.length_map, List.length_map, List.length_take]
          exact small1000 (by omega)
        · rw [upd_same, take_snoc hc', List.map_append, List.map_append]
          show some (HO.lst (_ ++ [V.str (S (l.take 3) ++ S [c])])) = some (HO.lst (_ ++ [V.str (S (l.take 3 ++ [c]))]))
          rw [S_cat]
      · rintro H' ⟨hD, hs⟩
        have hp1 : H' p1 = some (.lst [.str (S l)]) := hs _ _ upd_same
        refine ⟨_, _, _, _, rfl, rfl, hp1, hD, by show 1 + 12 ≤ sizeLine; decide, fun p3 np3 => ?_⟩
        have hb' : Bag H' b := (hb2.new np1).same hs
        have hk' : Keep H H' b := (hk2.new np1).same hs
        walk_at "rd"
        refine ⟨⟨_, SqL.of upd_same⟩, fun D2 nD2 => ?_⟩
        let H4 := upd H' p3 (.lst ((poolOf l).map V.str))
        have hq4 : H4 q = some (.lst (zs.map V.str)) := by
          have e : H' q = some (.lst (zs.map V.str)) := hk' q _ hq hqb
          exact (upd_ne (ne_of_none e np3)).trans e
        have hb4 : Bag H4 b := hb'.new np3
        have hk4 : Keep H H4 b := hk'.new np3
        have nD4 : H4 D2 = none := nD2
        have hp4 : H4 p3 = some (.lst ((poolOf l).map V.str)) := upd_same
        refine lc_list (K := K) (a := p3) (xs := (poolOf l).map V.str) (fun i H5 => H5 D2 = some (.lst ((((poolOf l).take i).filter fun z => !decide (z ∈ zs)).map V.str)) ∧ Same H4 H5) ?_ ?_ ?_ ?_
        · exact ⟨upd_same, Same.set (Same.refl H4) nD4⟩
        · rintro i H5 _ ⟨_, hs5⟩
          exact SqL.of (hs5 _ _ hp4)
        · rintro i x H5 hi ⟨hD5, hs5⟩
          obtain ⟨z, hz', rfl⟩ := strs_at hi
          refine ⟨rfl, ?_⟩
          walk_at "rd"
          refine ⟨_, _, rfl, .inl (SqL.of (hs5 _ _ hq4)), rfl, strs_flat zs, ?_⟩
          rw [inV_strs]
          walk_at "rd"
          have hlen : (((poolOf l).take i).filter fun z => !decide (z ∈ zs)).length ≤ 13 := by
            refine Nat.le_trans (List.length_filter_le _ _) ?_
            rw [List.length_take, pool_len]
            omega
          refine ite2 (fun c => ?_) (fun c => ?_)
          · walk_at "rd"
            refine ⟨_, hD5, ?_, ?_, Same.set hs5 nD4⟩
            · rw [List.length_map]
              exact small1000 (by omega)
            · rw [upd_same, take_snoc hz', List.filter_append, List.map_append]
              have c' : (!decide (z ∈ zs)) = true := c
              rw [show List.filter (fun z => !decide (z ∈ zs)) [z] = [z] by simp [List.filter, c']]
              rfl
          · refine ⟨?_, hs5⟩
            have c' : (!decide (z ∈ zs)) = false := by simpa using c
            rw [take_snoc hz', List.filter_append, show List.filter (fun z => !decide (z ∈ zs)) [z] = [] by simp [List.filter, c'], List.append_nil]
            exact hD5
        · rintro H5 ⟨hD5, hs5⟩
          rw [List.length_map, List.take_length] at hD5
          obtain ⟨z0, hz0, hn0⟩ := pool_fresh l hz
          have hm0 : z0 ∈ (poolOf l).filter fun z => !decide (z ∈ zs) := List.mem_filter.mpr ⟨hz0, by simp [hn0]⟩
          obtain ⟨y, ys, ey⟩ := List.exists_cons_of_ne_nil (List.ne_nil_of_mem hm0)
          have hy : y ∈ (poolOf l).filter fun z => !decide (z ∈ zs) := by
            rw [ey]
            exact List.mem_cons_self ..
          obtain ⟨hy1, hy2⟩ := List.mem_filter.mp hy
          rw [ey] at hD5
          walk_at "rd"
          refine ⟨_, _, _, _, rfl, rfl, SqL.of hD5, at_of (j := 0) rfl (v := .str y) rfl, ?_⟩
          exact k y H5 (hb4.same hs5) (hk4.same hs5) (pool_low hl y hy1) (by simpa using hy2)
end
end Fk

namespace Fk
open PySem L2
local macro_rules | `(tactic| walk_at "rdc") => `(tactic| (first | exact Or.inl ⟨by decide, by decide⟩ | exact Or.inr ⟨by decide, by decide⟩ | exact ⟨by decide, by decide⟩ | exact Or.inl ⟨by omega, by omega⟩ | exact Or.inr ⟨by omega, by omega⟩ | ((show (0 : Int) < _); (first | decide | omega)) | exact ⟨by decide, by decide, by decide⟩ | exact ⟨by omega, by assumption⟩))
local macro_rules | `(tactic| walk_at "hp") => `(tactic| (first | exact upd_same | assumption | ((rw [upd_ne (by assumption)]); (first | exact upd_same | assumption | ((rw [upd_ne (by assumption)]); (first | exact upd_same | assumption | ((rw [upd_ne (by assumption)]); (first | exact upd_same | assumption))))))))
local macro_rules | `(tactic| walk_at "r1") => `(tactic| (first | refine ⟨_, rfl, ?_⟩ | refine ⟨_, _, rfl, rfl, ?_⟩ | refine ⟨_, _, rfl, ?_⟩ | refine Or.inl ⟨_, rfl, ?_⟩ | refine ⟨rfl, ?_⟩ | refine ⟨(by walk_at "rdc"), ?_⟩ | refine ⟨_, _, _, _, rfl, rfl, SqL.of (by walk_at "hp"), rfl, ?_⟩ | refine ⟨_, _, _, _, rfl, rfl, (by walk_at "hp"), rfl, ?_⟩ | refine ⟨_, _, _, _, rfl, rfl, SqL.of (by walk_at "hp"), by assumption, ?_⟩))
local macro_rules | `(tactic| walk_at "rd") => `(tactic| (repeat walk_at "r1"))
section
variable {P : Program} {w : World} {K : PySem.W.Frag} {mg : Str → Option Value} {base : Heap}
--#ty _law_kinds _law_found=l _law_found[]=b
--#raising _law_early _law_late _law_raise
--#okX _law_early _law_late _law_raise
/-! ### the nineteen classes -/
/-- the fields that an error of the i-th class bears: of a name z, another o, a number n -/
def eF (i : Nat) (z o : Str) (n : Int) : Option (List (Str × V)) := match i with
  | 0 | 1 | 2 | 11 => some [("name", .str z)]
  | 3 => some [("count", .int n)]
  | 4 => some [("value", .int n)]
  | 5 => some [("word", .str z)]
  | 6 => some [("text", .str z)]
  | 7 => some [("step", .int n)]
  | 8 => some [("size", .int n)]
  | 9 => some [("depth", .int n)]
  | 10 => some [("most", .int n), ("what", .str z)]
  | 12 => some [("second", .str o), ("first", .str z)]
  | 13 | 14 => some [("index", .int n)]
  | 18 => some [("line", .str z), ("index", .int n)]
  | _ => none
/-- the classes, at C 0 .. C 18; ForkError at F -/
structure Er (P : Program) (K : PySem.W.Frag) (mg : Str → Option Value) (C : Nat → Addr) (F : Addr) : Prop where
  e_BadName : Err1 P K mg "BadName" (C 0) "name" 114
  e_UnknownFork : Err1 P K mg "UnknownFork" (C 1) "name" 114
  e_RepeatedFork : Err1 P K mg "RepeatedFork" (C 2) "name" 114
  e_BadCount : Err1 P K mg "BadCount" (C 3) "count" (-1)
  e_BadLimit : Err1 P K mg "BadLimit" (C 4) "value" (-1)
  e_BadWord : Err1 P K mg "BadWord" (C 5) "word" 114
  e_BadText : Err1 P K mg "BadText" (C 6) "text" 114
  e_BadStep : Err1 P K mg "BadStep" (C 7) "step" (-1)
  e_BadLot : Err1 P K mg "BadLot" (C 8) "size" (-1)
  e_TooDeep : Err1 P K mg "TooDeep" (C 9) "depth" (-1)
  e_TooMany : Err2 P K mg "TooMany" (C 10) "what" (-1) "most" (-1)
  e_Clash : Err1 P K mg "Clash" (C 11) "name" 114
  e_Apart : Err2 P K mg "Apart" (C 12) "first" 114 "second" 114
  e_NoStrike : Err1 P K mg "NoStrike" (C 13) "index" (-1)
  e_NoBlock : Err1 P K mg "NoBlock" (C 14) "index" (-1)
  e_NoFitting : Err0 P K mg "NoFitting" (C 15)
  e_NothingToUndo : Err0 P K mg "NothingToUndo" (C 16)
  e_NothingToRedo : Err0 P K mg "NothingToRedo" (C 17)
  e_LineError : Err2 P K mg "LineError" (C 18) "index" (-1) "line" 114
  g_ForkError : mg "ForkError" = some (.ref F)
  kit : ∀ i < 19, ∀ j < 19, PySem.W.kitOne K (.ref (C i)) (.ref (C j)) = some (decide (i = j))
  kitV : ∀ i < 19, PySem.W.kitOne K (.ref (C i)) (.type "ValueError") = some true
  exm : ∀ i < 19, ∀ j < 19, PySem.W.exmOne K (.ref (C i)) (.ref (C j)) = some (decide (i = j))
  exmF : ∀ i < 19, PySem.W.exmOne K (.ref (C i)) (.ref F) = some true
  b_isinstance : mg "isinstance" = none
  b_ValueError : mg "ValueError" = none
  b_range : mg "range" = none
/-- what the names and the number must be -/
structure In (z o : Str) (n : Int) : Prop where
  z1 : FmX 114 (.str z)
  z2 : FmX (-1) (.str z)
  o1 : FmX 114 (.str o)
  n1 : FmX (-1) (.int n)
/-- the error of the i-th way is wished -/
def Wished (C : Nat → Addr) (i : Nat) (z o : Str) (n : Int) (H : Hp) (E : XK) : Prop :=
  (∀ fs, eF i z o n = some fs → ∀ d, H d = none → E (.ref (C i)) (some d) (upd H d (.xd fs))) ∧ (eF i z o n = none → E (.ref (C i)) none H)
def spWay (C : Nat → Addr) (lo hi : Nat) : Sp := fun vs H _ E => ∃ (i : Nat) (z o : Str) (n : Int), vs = [.int (i : Int), .str z, .str o, .int n] ∧ lo ≤ i ∧ i < hi ∧ In z o n ∧ Wished C i z o n H E
abbrev s__law_early : Stmt := top 27
theorem sc__law_early : FnScope ["_law_way", "_law_name_here", "_law_other", "_law_number"] ["_law_way", "_law_name_here", "_law_other", "_law_number"] (defScope s__law_early) := ⟨rfl, rfl, rfl, by decide +kernel, rfl, by decide +kernel, by decide +kernel⟩
theorem ok_early {f F0 : Addr} {fd : FuncData} {C : Nat → Addr} (F : Fun K "_law_early" "_law_early" s__law_early f fd) (T : Er P K mg C F0) : FnOk P w K mg base (L2N.CX P w) 3 f fd ["_law_way", "_law_name_here", "_law_other", "_law_number"] (spWay C 0 10) := by
  refine F.okN sc__law_early (fun vs H Q E h => ?_) (fun cdv A outer s H vs Q E hr h => ?_)
  · obtain ⟨i, z, o, n, rfl, _⟩ := h
    rfl
  · obtain ⟨i, z, o, n, rfl, _, hi, I, k1, k0⟩ := h
    obtain ⟨z1, z2, o1, n1⟩ := I
    refine ⟨_, (pss_one (ps_if (pt_cmpR op_eq (pv 0) pe_int (nomark _)) (pss_one (L2N.ps_raise rfl (L2N.takes_of rfl rfl rfl rfl) (by exact (pmk_err1 T.e_BadName hr (pa_cons (pv 1) pa_nil))))) (pss_one (ps_if (pt_cmpR op_eq (pv 0) pe_int (nomark _)) (pss_one (L2N.ps_raise rfl (L2N.takes_of rfl rfl rfl rfl) (by exact (pmk_err1 T.e_UnknownFork hr (pa_cons (pv 1) pa_nil))))) (pss_one (ps_if (pt_cmpR op_eq (pv 0) pe_int (nomark _)) (pss_one (L2N.ps_raise rfl (L2N.takes_of rfl rfl rfl rfl) (by exact (pmk_err1 T.e_RepeatedFork hr (pa_cons (pv 1) pa_nil))))) (pss_one (ps_if (pt_cmpR op_eq (pv 0) pe_int (nomark _)) (pss_one (L2N.ps_raise rfl (L2N.takes_of rfl rfl rfl rfl) (by exact (pmk_err1 T.e_BadCount hr (pa_cons (pv 3) pa_nil))))) (pss_one (ps_if (pt_cmpR op_eq (pv 0) pe_int (nomark _)) (pss_one (L2N.ps_raise rfl (L2N.takes_of rfl rfl rfl rfl) (by exact (pmk_err1 T.e_BadLimit hr (pa_cons (pv 3) pa_nil))))) (pss_one (ps_if (pt_cmpR op_eq (pv 0) pe_int (nomark _)) (pss_one (L2N.ps_raise rfl (L2N.takes_of rfl rfl rfl rfl) (by exact (pmk_err1 T.e_BadWord hr (pa_cons (pv 1) pa_nil))))) (pss_one (ps_if (pt_cmpR op_eq (pv 0) pe_int (nomark _)) (pss_one (L2N.ps_raise rfl (L2N.takes_of rfl rfl rfl rfl) (by exact (pmk_err1 T.e_BadText hr (pa_cons (pv 1) pa_nil))))) (pss_one (ps_if (pt_cmpR op_eq (pv 0) pe_int (nomark _)) (pss_one (L2N.ps_raise rfl (L2N.takes_of rfl rfl rfl rfl) (by exact (pmk_err1 T.e_BadStep hr (pa_cons (pv 3) pa_nil))))) (pss_one (ps_if (pt_cmpR op_eq (pv 0) pe_int (nomark _)) (pss_one (L2N.ps_raise rfl (L2N.takes_of rfl rfl rfl rfl) (by exact (pmk_err1 T.e_BadLot hr (pa_cons (pv 3) pa_nil))))) (pss_one (L2N.ps_raise rfl (L2N.takes_of rfl rfl rfl rfl) (by exact (pmk_err1 T.e_TooDeep hr (pa_cons (pv 3) pa_nil))))))))))))))))))))))), ?_⟩
    have : i = 0 ∨ i = 1 ∨ i = 2 ∨ i = 3 ∨ i = 4 ∨ i = 5 ∨ i = 6 ∨ i = 7 ∨ i = 8 ∨ i = 9 := by omega
    rcases this with rfl | rfl | rfl | rfl | rfl | rfl | rfl | rfl | rfl | rfl
    all_goals walk_at "rd"
    all_goals exact ⟨⟨_, rfl, by assumption⟩, fun d hd => k1 _ rfl d hd⟩
abbrev s__law_late : Stmt := top 28
theorem sc__law_late : FnScope ["_law_way", "_law_name_here", "_law_other", "_law_number"] ["_law_way", "_law_name_here", "_law_other", "_law_number"] (defScope s__law_late) := ⟨rfl, rfl, rfl, by decide +kernel, rfl, by decide +kernel, by decide +kernel⟩
theorem ok_late {f F0 : Addr} {fd : FuncData} {C : Nat → Addr} (F : Fun K "_law_late" "_law_late" s__law_late f fd) (T : Er P K mg C F0) : FnOk P w K mg base (L2N.CX P w) 3 f fd ["_law_way", "_law_name_here", "_law_other", "_law_number"] (spWay C 10 19) := by
  refine F.okN sc__law_late (fun vs H Q E h => ?_) (fun cdv A outer s H vs Q E hr h => ?_)
  · obtain ⟨i, z, o, n, rfl, _⟩ := h
    rfl
  · obtain ⟨i, z, o, n, rfl, hj, hi, I, k1, k0⟩ := h
    obtain ⟨z1, z2, o1, n1⟩ := I
    refine ⟨_, (pss_one (ps_if (pt_cmpR op_eq (pv 0) pe_int (nomark _)) (pss_one (L2N.ps_raise rfl (L2N.takes_of rfl rfl rfl rfl) (by exact (pmk_err2 T.e_TooMany hr (pa_cons (pv 1) (pa_cons (pv 3) pa_nil)))))) (pss_one (ps_if (pt_cmpR op_eq (pv 0) pe_int (nomark _)) (pss_one (L2N.ps_raise rfl (L2N.takes_of rfl rfl rfl rfl) (by exact (pmk_err1 T.e_Clash hr (pa_cons (pv 1) pa_nil))))) (pss_one (ps_if (pt_cmpR op_eq (pv 0) pe_int (nomark _)) (pss_one (L2N.ps_raise rfl (L2N.takes_of rfl rfl rfl rfl) (by exact (pmk_err2 T.e_Apart hr (pa_cons (pv 1) (pa_cons (pv 2) pa_nil)))))) (pss_one (ps_if (pt_cmpR op_eq (pv 0) pe_int (nomark _)) (pss_one (L2N.ps_raise rfl (L2N.takes_of rfl rfl rfl rfl) (by exact (pmk_err1 T.e_NoStrike hr (pa_cons (pv 3) pa_nil))))) (pss_one (ps_if (pt_cmpR op_eq (pv 0) pe_int (nomark _)) (pss_one (L2N.ps_raise rfl (L2N.takes_of rfl rfl rfl rfl) (by exact (pmk_err1 T.e_NoBlock hr (pa_cons (pv 3) pa_nil))))) (pss_one (ps_if (pt_cmpR op_eq (pv 0) pe_int (nomark _)) (pss_one (L2N.ps_raise rfl (L2N.takes_of rfl rfl rfl rfl) (pmk_err0 T.e_NoFitting hr))) (pss_one (ps_if (pt_cmpR op_eq (pv 0) pe_int (nomark _)) (pss_one (L2N.ps_raise rfl (L2N.takes_of rfl rfl rfl rfl) (pmk_err0 T.e_NothingToUndo hr))) (pss_one (ps_if (pt_cmpR op_eq (pv 0) pe_int (nomark _)) (pss_one (L2N.ps_raise rfl (L2N.takes_of rfl rfl rfl rfl) (pmk_err0 T.e_NothingToRedo hr))) (pss_one (L2N.ps_raise rfl (L2N.takes_of rfl rfl rfl rfl) (by exact (pmk_err2 T.e_LineError hr (pa_cons (pv 3) (pa_cons (pv 1) pa_nil)))))))))))))))))))))), ?_⟩
    have : i = 10 ∨ i = 11 ∨ i = 12 ∨ i = 13 ∨ i = 14 ∨ i = 15 ∨ i = 16 ∨ i = 17 ∨ i = 18 := by omega
    rcases this with rfl | rfl | rfl | rfl | rfl | rfl | rfl | rfl | rfl
    all_goals walk_at "rd"
    all_goals (first | exact ⟨⟨_, rfl, by assumption⟩, fun d hd => k1 _ rfl d hd⟩ | exact ⟨⟨_, _, rfl, by assumption, by assumption⟩, fun d hd => k1 _ rfl d hd⟩ | exact k0 rfl | skip)
abbrev s__law_raise : Stmt := top 29
theorem sc__law_raise : FnScope ["_law_way", "_law_name_here", "_law_other", "_law_number"] ["_law_way", "_law_name_here", "_law_other", "_law_number"] (defScope s__law_raise) := ⟨rfl, rfl, rfl, by decide +kernel, rfl, by decide +kernel, by decide +kernel⟩
theorem ok_raise {f F0 : Addr} {fd : FuncData} {C : Nat → Addr} (F : Fun K "_law_raise" "_law_raise" s__law_raise f fd) (c__law_early : CalX P w K mg base 3 "_law_early" (spWay C 0 10)) (c__law_late : CalX P w K mg base 3 "_law_late" (spWay C 10 19)) : FnOk P w K mg base (L2N.CX P w) 4 f fd ["_law_way", "_law_name_here", "_law_other", "_law_number"] (spWay C 0 19) := by
  refine F.okN sc__law_raise (fun vs H Q E h => ?_) (fun cdv A outer s H vs Q E hr h => ?_)
  · obtain ⟨i, z, o, n, rfl, _⟩ := h
    rfl
  · obtain ⟨i, z, o, n, rfl, hj, hi, I, k⟩ := h
    refine ⟨_, (pss_one (ps_if (pt_cmpR op_lt (pv 0) pe_int (nomark _)) (pss_one (ps_expr (pe_cX c__law_early hr (by decide) rfl (L2N.takes_of rfl rfl rfl rfl) (pa_cons (pv 0) (pa_cons (pv 1) (pa_cons (pv 2) (pa_cons (pv 3) pa_nil))))))) (pss_one (ps_expr (pe_cX c__law_late hr (by decide) rfl (L2N.takes_of rfl rfl rfl rfl) (pa_cons (pv 0) (pa_cons (pv 1) (pa_cons (pv 2) (pa_cons (pv 3) pa_nil))))))))), ?_⟩
    walk_at "rd"
    refine ite2 (fun c => ?_) (fun c => ?_)
    · walk_at "rd"
      exact ⟨i, z, o, n, rfl, hj, by have := of_decide_eq_true c; omega, I, k⟩
    · walk_at "rd"
      exact ⟨i, z, o, n, rfl, by have := of_decide_eq_false (by simpa using c : decide ((i : Int) < 10) = false); omega, hi, I, k⟩
/-! ### what the clauses find -/
def fNm (i : Nat) : List Str := match i with
  | 0 | 1 | 2 | 11 => ["name"]
  | 3 => ["count"]
  | 4 => ["value"]
  | 5 => ["word"]
  | 6 => ["text"]
  | 7 => ["step"]
  | 8 => ["size"]
  | 9 => ["depth"]
  | 10 => ["what", "most"]
  | 12 => ["first", "second"]
  | 13 | 14 => ["index"]
  | 18 => ["index", "line"]
  | _ => []
theorem Er.fld {C : Nat → Addr} {F0 : Addr} (T : Er P K mg C F0) : ∀ i < 19, XfC K (C i) ∧ ExcC K (C i) ∧ ∀ f ∈ fNm i, PySem.W.findIn K (.ref (C i)) f = some none := by
  have one : ∀ {x f : Str} {D : Addr} {c : Int}, Err1 P K mg x D f c → XfC K D ∧ ExcC K D ∧ ∀ g ∈ [f], PySem.W.findIn K (.ref D) g = some none := fun {x f D c} e => ⟨e.a.1, e.a.2.1, fun g hg => by
    have q : g = f := by simpa using hg
    rw [q]
    exact e.a.2.2⟩
  have two : ∀ {x f f2 : Str} {D : Addr} {c c2 : Int}, Err2 P K mg x D f c f2 c2 → XfC K D ∧ ExcC K D ∧ ∀ g ∈ [f, f2], PySem.W.findIn K (.ref D) g = some none := fun {x f f2 D c c2} e => ⟨e.a.1, e.a.2.1, fun g hg => by
    have q : g = f ∨ g = f2 := by simpa using hg
    rcases q with rfl | rfl
    · exact e.a.2.2.1
    · exact e.a.2.2.2⟩
  have non : ∀ {x : Str} {D : Addr}, Err0 P K mg x D → XfC K D ∧ ExcC K D ∧ ∀ g ∈ ([] : List Str), PySem.W.findIn K (.ref D) g = some none := fun {x D} e => ⟨e.a.1, e.a.2, fun g hg => nomatch hg⟩
  intro i hi
  match i, hi with
  | 0, _ => exact one T.e_BadName
  | 1, _ => exact one T.e_UnknownFork
  | 2, _ => exact one T.e_RepeatedFork
  | 3, _ => exact one T.e_BadCount
  | 4, _ => exact one T.e_BadLimit
  | 5, _ => exact one T.e_BadWord
  | 6, _ => exact one T.e_BadText
  | 7, _ => exact one T.e_BadStep
  | 8, _ => exact one T.e_BadLot
  | 9, _ => exact one T.e_TooDeep
  | 10, _ => exact two T.e_TooMany
  | 11, _ => exact one T.e_Clash
  | 12, _ => exact two T.e_Apart
  | 13, _ => exact one T.e_NoStrike
  | 14, _ => exact one T.e_NoBlock
  | 15, _ => exact non T.e_NoFitting
  | 16, _ => exact non T.e_NothingToUndo
  | 17, _ => exact non T.e_NothingToRedo
  | 18, _ => exact two T.e_LineError
  | n + 19, h => exact absurd h (by omega)
/-- what is kept of the i-th -/
def due (i : Nat) (z o : Str) (n : Int) : List V := match i with
  | 0 | 1 | 2 | 5 | 6 | 11 => [.str z]
  | 3 | 4 | 7 | 8 | 9 | 13 | 14 => [.int n]
  | 10 => [.str z, .int n]
  | 12 => [.str z, .str o]
  | 18 => [.int n, .str z]
  | _ => []
def spKept (lo hi : Nat) : Sp := fun vs H Q _ => ∃ (i : Nat) (z o : Str) (n : Int), vs = [.int (i : Int), .str z, .str o, .int n] ∧ lo ≤ i ∧ i < hi ∧ In z o n ∧
  ∀ (p : Addr) H', Same H H' → H' p = some (.lst (due i z o n)) → H p = none → Q (.ref p) H'
abbrev s__law_kept_early : Stmt := top 30
theorem sc__law_kept_early : FnScope ["_law_way", "_law_name_here", "_law_other", "_law_number", "e"] ["_law_way", "_law_name_here", "_law_other", "_law_number"] (defScope s__law_kept_early) := ⟨rfl, rfl, rfl, by decide +kernel, rfl, by decide +kernel, by decide +kernel⟩
theorem ok_kept_early {f F0 : Addr} {fd : FuncData} {C : Nat → Addr} (F : Fun K "_law_kept_early" "_law_kept_early" s__law_kept_early f fd) (T : Er P K mg C F0) (c__law_early : CalX P w K mg base 3 "_law_early" (spWay C 0 10)) : FnOk P w K mg base CX0 4 f fd ["_law_way", "_law_name_here", "_law_other", "_law_number"] (spKept 0 10) := by
  refine F.ok sc__law_kept_early (fun vs H Q E h => ?_) (fun cdv A outer s H vs Q E hr h => ?_)
  · obtain ⟨i, z, o, n, rfl, _⟩ := h
    rfl
  · obtain ⟨i, z, o, n, rfl, hj, hi, I, k⟩ := h
    refine ⟨_, (pss_cons (Fx.ps_try_cl rfl rfl Fx.none0 (fun W pn xe tk _ => (pss_one (ps_expr (pe_cX c__law_early hr (by decide) rfl tk (pa_cons (pv 0) (pa_cons (pv 1) (pa_cons (pv 2) (pa_cons (pv 3) pa_nil)))))))) (.named (i := 4) sc__law_kept_early.nd rfl rfl ⟨rfl, by decide, .inl T.e_BadName.g⟩ (fun a oe cls d pn hz hf => ⟨_, (pss_one (ps_ret (pe_lst (pa_cons (pe_xfA hz hf (pv 4)) pa_nil)))), rfl⟩) (.named (i := 4) sc__law_kept_early.nd rfl rfl ⟨rfl, by decide, .inl T.e_UnknownFork.g⟩ (fun a oe cls d pn hz hf => ⟨_, (pss_one (ps_ret (pe_lst (pa_cons (pe_xfA hz hf (pv 4)) pa_nil)))), rfl⟩) (.named (i := 4) sc__law_kept_early.nd rfl rfl ⟨rfl, by decide, .inl T.e_RepeatedFork.g⟩ (fun a oe cls d pn hz hf => ⟨_, (pss_one (ps_ret (pe_lst (pa_cons (pe_xfA hz hf (pv 4)) pa_nil)))), rfl⟩) (.named (i := 4) sc__law_kept_early.nd rfl rfl ⟨rfl, by decide, .inl T.e_BadCount.g⟩ (fun a oe cls d pn hz hf => ⟨_, (pss_one (ps_ret (pe_lst (pa_cons (pe_xfA hz hf (pv 4)) pa_nil)))), rfl⟩) (.named (i := 4) sc__law_kept_early.nd rfl rfl ⟨rfl, by decide, .inl T.e_BadLimit.g⟩ (fun a oe cls d pn hz hf => ⟨_, (pss_one (ps_ret (pe_lst (pa_cons (pe_xfA hz hf (pv 4)) pa_nil)))), rfl⟩) (.named (i := 4) sc__law_kept_early.nd rfl rfl ⟨rfl, by decide, .inl T.e_BadWord.g⟩ (fun a oe cls d pn hz hf => ⟨_, (pss_one (ps_ret (pe_lst (pa_cons (pe_xfA hz hf (pv 4)) pa_nil)))), rfl⟩) (.named (i := 4) sc__law_kept_early.nd rfl rfl ⟨rfl, by decide, .inl T.e_BadText.g⟩ (fun a oe cls d pn hz hf => ⟨_, (pss_one (ps_ret (pe_lst (pa_cons (pe_xfA hz hf (pv 4)) pa_nil)))), rfl⟩) (.named (i := 4) sc__law_kept_early.nd rfl rfl ⟨rfl, by decide, .inl T.e_BadStep.g⟩ (fun a oe cls d pn hz hf => ⟨_, (pss_one (ps_ret (pe_lst (pa_cons (pe_xfA hz hf (pv 4)) pa_nil)))), rfl⟩) (.named (i := 4) sc__law_kept_early.nd rfl rfl ⟨rfl, by decide, .inl T.e_BadLot.g⟩ (fun a oe cls d pn hz hf => ⟨_, (pss_one (ps_ret (pe_lst (pa_cons (pe_xfA hz hf (pv 4)) pa_nil)))), rfl⟩) (.named (i := 4) sc__law_kept_early.nd rfl rfl ⟨rfl, by decide, .inl T.e_TooDeep.g⟩ (fun a oe cls d pn hz hf => ⟨_, (pss_one (ps_ret (pe_lst (pa_cons (pe_xfA hz hf (pv 4)) pa_nil)))), rfl⟩) .nil)))))))))))
      (pss_one (ps_ret (pe_lst (pa_cons pe_str pa_nil))))), ?_⟩
    have : i = 0 ∨ i = 1 ∨ i = 2 ∨ i = 3 ∨ i = 4 ∨ i = 5 ∨ i = 6 ∨ i = 7 ∨ i = 8 ∨ i = 9 := by omega
    rcases this with rfl | rfl | rfl | rfl | rfl | rfl | rfl | rfl | rfl | rfl
    all_goals walk_at "rd"
    all_goals refine ⟨_, z, o, n, rfl, by decide, by decide, I, fun fs hf d hd => ?_, fun e => ?_⟩
    all_goals (first | cases hf | cases e | skip)
    all_goals (repeat refine ⟨_, T.exm _ (by decide) _ (by decide), fun q => absurd q (by decide), fun _ => ?_⟩)
    all_goals refine ⟨_, T.exm _ (by decide) _ (by decide), fun _ a ha => ?_, fun q => absurd q (by decide)⟩
    all_goals walk_at "rd"
    all_goals refine ⟨(T.fld _ (by decide)).1, (T.fld _ (by decide)).2.2 _ (by simp [fNm]), ?_⟩
    all_goals walk_at "rd"
    all_goals refine ⟨d, _, _, rfl, upd_same, rfl, ?_⟩
    all_goals refine ⟨by show 1 ≤ sizeLine; decide, fun p hp => ?_⟩
    all_goals exact k p _ (Same.new (Same.new (Same.refl H) hd) hp) upd_same ((Same.new (Same.refl H) hd).free hp)
abbrev s__law_kept_late : Stmt := top 31
theorem sc__law_kept_late : FnScope ["_law_way", "_law_name_here", "_law_other", "_law_number", "e"] ["_law_way", "_law_name_here", "_law_other", "_law_number"] (defScope s__law_kept_late) := ⟨rfl, rfl, rfl, by decide +kernel, rfl, by decide +kernel, by decide +kernel⟩
theorem ok_kept_late {f F0 : Addr} {fd : FuncData} {C : Nat → Addr} (F : Fun K "_law_kept_late" "_law_kept_late" s__law_kept_late f fd) (T : Er P K mg C F0) (c__law_late : CalX P w K mg base 3 "_law_late" (spWay C 10 19)) : FnOk P w K mg base CX0 4 f fd ["_law_way", "_law_name_here", "_law_other", "_law_number"] (spKept 10 19) := by
  refine F.ok sc__law_kept_late (fun vs H Q E h => ?_) (fun cdv A outer s H vs Q E hr h => ?_)
  · obtain ⟨i, z, o, n, rfl, _⟩ := h
    rfl
  · obtain ⟨i, z, o, n, rfl, hj, hi, I, k⟩ := h
    refine ⟨_, (pss_cons (Fx.ps_try_cl rfl rfl Fx.none0 (fun W pn xe tk _ => (pss_one (ps_expr (pe_cX c__law_late hr (by decide) rfl tk (pa_cons (pv 0) (pa_cons (pv 1) (pa_cons (pv 2) (pa_cons (pv 3) pa_nil)))))))) (.named (i := 4) sc__law_kept_late.nd rfl rfl ⟨rfl, by decide, .inl T.e_TooMany.g⟩ (fun a oe cls d pn hz hf => ⟨_, (pss_one (ps_ret (pe_lst (pa_cons (pe_xfA hz hf (pv 4)) (pa_cons (pe_xfA hz hf (pv 4)) pa_nil))))), rfl⟩) (.named (i := 4) sc__law_kept_late.nd rfl rfl ⟨rfl, by decide, .inl T.e_Clash.g⟩ (fun a oe cls d pn hz hf => ⟨_, (pss_one (ps_ret (pe_lst (pa_cons (pe_xfA hz hf (pv 4)) pa_nil)))), rfl⟩) (.named (i := 4) sc__law_kept_late.nd rfl rfl ⟨rfl, by decide, .inl T.e_Apart.g⟩ (fun a oe cls d pn hz hf => ⟨_, (pss_one (ps_ret (pe_lst (pa_cons (pe_xfA hz hf (pv 4)) (pa_cons (pe_xfA hz hf (pv 4)) pa_nil))))), rfl⟩) (.named (i := 4) sc__law_kept_late.nd rfl rfl ⟨rfl, by decide, .inl T.e_NoStrike.g⟩ (fun a oe cls d pn hz hf => ⟨_, (pss_one (ps_ret (pe_lst (pa_cons (pe_xfA hz hf (pv 4)) pa_nil)))), rfl⟩) (.named (i := 4) sc__law_kept_late.nd rfl rfl ⟨rfl, by decide, .inl T.e_NoBlock.g⟩ (fun a oe cls d pn hz hf => ⟨_, (pss_one (ps_ret (pe_lst (pa_cons (pe_xfA hz hf (pv 4)) pa_nil)))), rfl⟩) (.bare ⟨rfl, by decide, .inl T.e_NoFitting.g⟩ (fun a oe cls d pn hz hf => ⟨_, (pss_one (ps_ret (pe_lst pa_nil))), rfl⟩) (.bare ⟨rfl, by decide, .inl T.e_NothingToUndo.g⟩ (fun a oe cls d pn hz hf => ⟨_, (pss_one (ps_ret (pe_lst pa_nil))), rfl⟩) (.bare ⟨rfl, by decide, .inl T.e_NothingToRedo.g⟩ (fun a oe cls d pn hz hf => ⟨_, (pss_one (ps_ret (pe_lst pa_nil))), rfl⟩) (.named (i := 4) sc__law_kept_late.nd rfl rfl ⟨rfl, by decide, .inl T.e_LineError.g⟩ (fun a oe cls d pn hz hf => ⟨_, (pss_one (ps_ret (pe_lst (pa_cons (pe_xfA hz hf (pv 4)) (pa_cons (pe_xfA hz hf (pv 4)) pa_nil))))), rfl⟩) .nil))))))))))
      (pss_one (ps_ret (pe_lst (pa_cons pe_str pa_nil))))), ?_⟩
    have : i = 15 ∨ i = 16 ∨ i = 17 ∨ i = 10 ∨ i = 11 ∨ i = 12 ∨ i = 13 ∨ i = 14 ∨ i = 18 := by omega
    rcases this with rfl | rfl | rfl | rfl | rfl | rfl | rfl | rfl | rfl
    all_goals walk_at "rd"
    all_goals refine ⟨_, z, o, n, rfl, by decide, by decide, I, fun fs hf d hd => ?_, fun e => ?_⟩
    all_goals (first | (cases hf; done) | (cases e; done) | skip)
    all_goals (first | cases hf | skip)
    all_goals (repeat refine ⟨_, T.exm _ (by decide) _ (by decide), fun q => absurd q (by decide), fun _ => ?_⟩)
    all_goals refine ⟨_, T.exm _ (by decide) _ (by decide), fun _ a ha => ?_, fun q => absurd q (by decide)⟩
    all_goals walk_at "rd"
    -- without a field
    iterate 3 (refine ⟨by show 0 ≤ sizeLine; decide, fun p hp => ?_⟩; (exact k p _ (Same.new (Same.refl H) hp) upd_same hp))
    all_goals refine ⟨(T.fld _ (by decide)).1, (T.fld _ (by decide)).2.2 _ (by simp [fNm]), ?_⟩
    all_goals walk_at "rd"
    all_goals refine ⟨d, _, _, rfl, upd_same, rfl, ?_⟩
    all_goals walk_at "rd"
    all_goals (first | (refine ⟨(T.fld _ (by decide)).1, (T.fld _ (by decide)).2.2 _ (by simp [fNm]), ?_⟩; walk_at "rd"; refine ⟨d, _, _, rfl, upd_same, rfl, ?_⟩) | skip)
    all_goals refine ⟨(by first | (show 1 ≤ sizeLine; decide) | (show 2 ≤ sizeLine; decide)), fun p hp => ?_⟩
    all_goals exact k p _ (Same.new (Same.new (Same.refl H) hd) hp) upd_same ((Same.new (Same.refl H) hd).free hp)
/-! ### what kind it is -/
def spKinds : Sp := fun vs H Q _ => ∃ (i : Nat) (z o : Str) (n : Int), vs = [.int (i : Int), .str z, .str o, .int n] ∧ i < 19 ∧ In z o n ∧
  ∀ (p : Addr) H', Same H H' → H' p = some (.lst [.int (i : Int), .bl true]) → H p = none → Q (.ref p) H'
theorem found_at (i : Nat) {j : Nat} (h : j < 19) : atI [V.bl (decide (i = 0)), V.bl (decide (i = 1)), V.bl (decide (i = 2)), V.bl (decide (i = 3)), V.bl (decide (i = 4)), V.bl (decide (i = 5)), V.bl (decide (i = 6)), V.bl (decide (i = 7)), V.bl (decide (i = 8)), V.bl (decide (i = 9)), V.bl (decide (i = 10)), V.bl (decide (i = 11)), V.bl (decide (i = 12)), V.bl (decide (i = 13)), V.bl (decide (i = 14)), V.bl (decide (i = 15)), V.bl (decide (i = 16)), V.bl (decide (i = 17)), V.bl (decide (i = 18))] (0 + (j : Int)) = some (V.bl (decide (i = j))) := by
  have : j = 0 ∨ j = 1 ∨ j = 2 ∨ j = 3 ∨ j = 4 ∨ j = 5 ∨ j = 6 ∨ j = 7 ∨ j = 8 ∨ j = 9 ∨ j = 10 ∨ j = 11 ∨ j = 12 ∨ j = 13 ∨ j = 14 ∨ j = 15 ∨ j = 16 ∨ j = 17 ∨ j = 18 := by omega
  rcases this with rfl | rfl | rfl | rfl | rfl | rfl | rfl | rfl | rfl | rfl | rfl | rfl | rfl | rfl | rfl | rfl | rfl | rfl | rfl <;> rfl
theorem hdd_same {od : Option Addr} {Hc H1 : Hp} (s : Same Hc H1) (h : ∀ dd, od = some dd → ∃ fs, Hc dd = some (.xd fs)) : ∀ dd, od = some dd → ∃ fs, H1 dd = some (.xd fs) := fun dd e => by
  obtain ⟨fs, q⟩ := h dd e
  exact ⟨fs, s _ _ q⟩
theorem hdd_new {od : Option Addr} {Hc : Hp} {p : Addr} {o : HO} (np : Hc p = none) (h : ∀ dd, od = some dd → ∃ fs, Hc dd = some (.xd fs)) : ∀ dd, od = some dd → ∃ fs, upd Hc p o dd = some (.xd fs) := fun dd e => by
  obtain ⟨fs, q⟩ := h dd e
  exact ⟨fs, (upd_ne (ne_of_none q np)).trans q⟩
set_option hygiene false in
local macro_rules | `(tactic| walk_at "ki") => `(tactic| (repeat (first | walk_at "r1" | refine ⟨(T.fld i hi).2.1, _, _, _, rfl, (fun u r => r), T.kit i hi _ (by decide), hdd, ?_⟩)))
abbrev s__law_kinds : Stmt := top 32
theorem sc__law_kinds : FnScope ["_law_way", "_law_name_here", "_law_other", "_law_number", "e", "_law_found", "_law_k"] ["_law_way", "_law_name_here", "_law_other", "_law_number"] (defScope s__law_kinds) := ⟨rfl, rfl, rfl, by decide +kernel, rfl, by decide +kernel, by decide +kernel⟩
theorem ok_kinds {f F0 : Addr} {fd : FuncData} {C : Nat → Addr} (F : Fun K "_law_kinds" "_law_kinds" s__law_kinds f fd) (T : Er P K mg C F0) (c__law_raise : CalX P w K mg base 4 "_law_raise" (spWay C 0 19)) : FnOk P w K mg base CX0 5 f fd ["_law_way", "_law_name_here", "_law_other", "_law_number"] spKinds := by
  refine F.ok sc__law_kinds (fun vs H Q E h => ?_) (fun cdv A outer s H vs Q E hr h => ?_)
  · obtain ⟨i, z, o, n, rfl, _⟩ := h
    rfl
  · obtain ⟨i, z, o, n, rfl, hi, I, k⟩ := h
    refine ⟨_, (pss_cons (Fx.ps_try_cl rfl rfl Fx.none0 (fun W pn xe tk _ => (pss_one (ps_expr (pe_cX c__law_raise hr (by decide) rfl tk (pa_cons (pv 0) (pa_cons (pv 1) (pa_cons (pv 2) (pa_cons (pv 3) pa_nil)))))))) (.named (i := 4) sc__law_kinds.nd rfl rfl ⟨rfl, by decide, .inl T.g_ForkError⟩ (fun a oe cls d pn hz hf => ⟨_, (pss_cons (ps_set (i := 5) sc__law_kinds.nd rfl (by first | exact Or.inl rfl | exact Or.inr rfl) (pe_lst (pa_cons (pe_callB (call_isEA hz hf) (by rfl) T.b_isinstance (by decide +kernel) (pa_cons (pv 4) (pa_cons (pe_glob (v := .ref _) rfl T.e_BadName.g rfl) pa_nil))) (pa_cons (pe_callB (call_isEA hz hf) (by rfl) T.b_isinstance (by decide +kernel) (pa_cons (pv 4) (pa_cons (pe_glob (v := .ref _) rfl T.e_UnknownFork.g rfl) pa_nil))) (pa_cons (pe_callB (call_isEA hz hf) (by rfl) T.b_isinstance (by decide +kernel) (pa_cons (pv 4) (pa_cons (pe_glob (v := .ref _) rfl T.e_RepeatedFork.g rfl) pa_nil))) pa_nil)))))
      (pss_cons (ps_set (i := 5) sc__law_kinds.nd rfl (by first | exact Or.inl rfl | exact Or.inr rfl) (pe_op op_cat (pv 5) (pe_lst (pa_cons (pe_callB (call_isEA hz hf) (by rfl) T.b_isinstance (by decide +kernel) (pa_cons (pv 4) (pa_cons (pe_glob (v := .ref _) rfl T.e_BadCount.g rfl) pa_nil))) (pa_cons (pe_callB (call_isEA hz hf) (by rfl) T.b_isinstance (by decide +kernel) (pa_cons (pv 4) (pa_cons (pe_glob (v := .ref _) rfl T.e_BadLimit.g rfl) pa_nil))) (pa_cons (pe_callB (call_isEA hz hf) (by rfl) T.b_isinstance (by decide +kernel) (pa_cons (pv 4) (pa_cons (pe_glob (v := .ref _) rfl T.e_BadWord.g rfl) pa_nil))) pa_nil))))))
      (pss_cons (ps_set (i := 5) sc__law_kinds.nd rfl (by first | exact Or.inl rfl | exact Or.inr rfl) (pe_op op_cat (pv 5) (pe_lst (pa_cons (pe_callB (call_isEA hz hf) (by rfl) T.b_isinstance (by decide +kernel) (pa_cons (pv 4) (pa_cons (pe_glob (v := .ref _) rfl T.e_BadText.g rfl) pa_nil))) (pa_cons (pe_callB (call_isEA hz hf) (by rfl) T.b_isinstance (by decide +kernel) (pa_cons (pv 4) (pa_cons (pe_glob (v := .ref _) rfl T.e_BadStep.g rfl) pa_nil))) (pa_cons (pe_callB (call_isEA hz hf) (by rfl) T.b_isinstance (by decide +kernel) (pa_cons (pv 4) (pa_cons (pe_glob (v := .ref _) rfl T.e_BadLot.g rfl) pa_nil))) pa_nil))))))
      (pss_cons (ps_set (i := 5) sc__law_kinds.nd rfl (by first | exact Or.inl rfl | exact Or.inr rfl) (pe_op op_cat (pv 5) (pe_lst (pa_cons (pe_callB (call_isEA hz hf) (by rfl) T.b_isinstance (by decide +kernel) (pa_cons (pv 4) (pa_cons (pe_glob (v := .ref _) rfl T.e_TooDeep.g rfl) pa_nil))) (pa_cons (pe_callB (call_isEA hz hf) (by rfl) T.b_isinstance (by decide +kernel) (pa_cons (pv 4) (pa_cons (pe_glob (v := .ref _) rfl T.e_TooMany.g rfl) pa_nil))) (pa_cons (pe_callB (call_isEA hz hf) (by rfl) T.b_isinstance (by decide +kernel) (pa_cons (pv 4) (pa_cons (pe_glob (v := .ref _) rfl T.e_Clash.g rfl) pa_nil))) pa_nil))))))
      (pss_cons (ps_set (i := 5) sc__law_kinds.nd rfl (by first | exact Or.inl rfl | exact Or.inr rfl) (pe_op op_cat (pv 5) (pe_lst (pa_cons (pe_callB (call_isEA hz hf) (by rfl) T.b_isinstance (by decide +kernel) (pa_cons (pv 4) (pa_cons (pe_glob (v := .ref _) rfl T.e_Apart.g rfl) pa_nil))) (pa_cons (pe_callB (call_isEA hz hf) (by rfl) T.b_isinstance (by decide +kernel) (pa_cons (pv 4) (pa_cons (pe_glob (v := .ref _) rfl T.e_NoStrike.g rfl) pa_nil))) (pa_cons (pe_callB (call_isEA hz hf) (by rfl) T.b_isinstance (by decide +kernel) (pa_cons (pv 4) (pa_cons (pe_glob (v := .ref _) rfl T.e_NoBlock.g rfl) pa_nil))) pa_nil))))))
      (pss_cons (ps_set (i := 5) sc__law_kinds.nd rfl (by first | exact Or.inl rfl | exact Or.inr rfl) (pe_op op_cat (pv 5) (pe_lst (pa_cons (pe_callB (call_isEA hz hf) (by rfl) T.b_isinstance (by decide +kernel) (pa_cons (pv 4) (pa_cons (pe_glob (v := .ref _) rfl T.e_NoFitting.g rfl) pa_nil))) (pa_cons (pe_callB (call_isEA hz hf) (by rfl) T.b_isinstance (by decide +kernel) (pa_cons (pv 4) (pa_cons (pe_glob (v := .ref _) rfl T.e_NothingToUndo.g rfl) pa_nil))) (pa_cons (pe_callB (call_isEA hz hf) (by rfl) T.b_isinstance (by decide +kernel) (pa_cons (pv 4) (pa_cons (pe_glob (v := .ref _) rfl T.e_NothingToRedo.g rfl) pa_nil))) pa_nil))))))
      (pss_cons (ps_set (i := 5) sc__law_kinds.nd rfl (by first | exact Or.inl rfl | exact Or.inr rfl) (pe_op op_cat (pv 5) (pe_lst (pa_cons (pe_callB (call_isEA hz hf) (by rfl) T.b_isinstance (by decide +kernel) (pa_cons (pv 4) (pa_cons (pe_glob (v := .ref _) rfl T.e_LineError.g rfl) pa_nil))) pa_nil))))
      (pss_one (ps_ret (pe_op op_cat (Fx.pe_lcH (own := [("_law_k", 6)]) (g := gName 6) (Fx.hot_suite hz hf) sc__law_kinds.nd (L2H.pi_range1H (by rfl) T.b_range (pa_cons pe_int pa_nil)) (blkOk_by (own := [("_law_k", 6)]) (N := ["_law_way", "_law_name_here", "_law_other", "_law_number", "e", "_law_found", "_law_k"]) (sc := defScope s__law_kinds) (by decide +kernel)) (fun _ _ _ _ _ _ => pg_name (i := 6) sc__law_kinds.nd rfl (by first | exact Or.inl rfl | exact Or.inr rfl)) (fun _ _ _ _ _ _ => pts_one (pt_val (pe_ix (show IxR _ (rIxL K) from ix_list) (pv 5) (pv 6) (fun _ _ => rfl)))) (fun _ _ _ _ _ _ => (pv 6))) (pe_lst (pa_cons (pe_callB (call_isEA hz hf) (by rfl) T.b_isinstance (by decide +kernel) (pa_cons (pv 4) (pa_cons (pe_bltn (v := .ty "ValueError") (by rfl) T.b_ValueError (by decide +kernel) rfl) pa_nil))) pa_nil)))))))))))), rfl⟩) .nil))
      (pss_one (ps_ret (pe_lst pa_nil)))), ?_⟩
    walk_at "rd"
    refine ⟨i, z, o, n, rfl, Nat.zero_le _, hi, I, fun fs hf d hd => ?_, fun e => ?_⟩
    all_goals refine ⟨_, T.exmF i hi, fun _ a ha => ?_, fun q => absurd q (by decide)⟩
    obtain ⟨Hc, eH⟩ : ∃ Hc, Hc = upd H d (.xd fs) := ⟨_, rfl⟩
    have hdd : ∀ dd, some d = some dd → ∃ fs, Hc dd = some (.xd fs) := fun dd e => by
      cases e
      exact ⟨fs, by rw [eH]; exact upd_same⟩
    have hs : Same H Hc := by rw [eH]; exact Same.new (Same.refl H) hd
    rw [← eH] at ha ⊢
    clear eH hf
    generalize some d = od at *
    clear hd
    walk_at "ki"
    refine ⟨by show 3 ≤ sizeLine; decide, fun p np => ?_⟩
    obtain ⟨H0, e0⟩ : ∃ H0, H0 = upd Hc p (HO.lst [V.bl (decide (i = 0)), V.bl (decide (i = 1)), V.bl (decide (i = 2))]) := ⟨_, rfl⟩
    have s0 : Same H H0 := by rw [e0]; exact Same.new hs np
    have f0 : H0 p = some (.lst [V.bl (decide (i = 0)), V.bl (decide (i = 1)), V.bl (decide (i = 2))]) := by rw [e0]; exact upd_same
    have hdd := hdd_new (o := HO.lst [V.bl (decide (i = 0)), V.bl (decide (i = 1)), V.bl (decide (i = 2))]) np hdd
    have nP : H p = none := Same.free hs np
    rw [← e0] at hdd ⊢
    clear e0 hs np
    rotate_left
    have hdd : ∀ dd, (none : Option Addr) = some dd → ∃ fs, H dd = some (.xd fs) := fun dd e => nomatch e
    have hs : Same H H := Same.refl H
    walk_at "ki"
    refine ⟨by show 3 ≤ sizeLine; decide, fun p np => ?_⟩
    obtain ⟨H0, e0⟩ : ∃ H0, H0 = upd H p (HO.lst [V.bl (decide (i = 0)), V.bl (decide (i = 1)), V.bl (decide (i = 2))]) := ⟨_, rfl⟩
    have s0 : Same H H0 := by rw [e0]; exact Same.new hs np
    have f0 : H0 p = some (.lst [V.bl (decide (i = 0)), V.bl (decide (i = 1)), V.bl (decide (i = 2))]) := by rw [e0]; exact upd_same
    have hdd := hdd_new (o := HO.lst [V.bl (decide (i = 0)), V.bl (decide (i = 1)), V.bl (decide (i = 2))]) np hdd
    have nP : H p = none := Same.free hs np
    rw [← e0] at hdd ⊢
    clear e0 hs np
    all_goals (
      walk_at "ki"
      refine ⟨by show 3 ≤ sizeLine; decide, fun p1 np1 => ?_⟩
      walk_at "ki"
      refine ⟨_, _, _, _, rfl, rfl, (upd_ne (ne_of_none f0 np1)).trans f0, upd_same, by show 3 + 3 ≤ sizeLine; decide, fun q1 nq1 => ?_⟩
      obtain ⟨H1, e1⟩ : ∃ H1, H1 = upd (upd H0 p1 (HO.lst [V.bl (decide (i = 3)), V.bl (decide (i = 4)), V.bl (decide (i = 5))])) q1 (HO.lst ([V.bl (decide (i = 0)), V.bl (decide (i = 1)), V.bl (decide (i = 2))] ++ [V.bl (decide (i = 3)), V.bl (decide (i = 4)), V.bl (decide (i = 5))])) := ⟨_, rfl⟩
      have s1 : Same H H1 := by rw [e1]; exact Same.new (Same.new s0 np1) nq1
      have f1 : H1 q1 = some (.lst [V.bl (decide (i = 0)), V.bl (decide (i = 1)), V.bl (decide (i = 2)), V.bl (decide (i = 3)), V.bl (decide (i = 4)), V.bl (decide (i = 5))]) := by rw [e1]; exact upd_same
      have hdd := hdd_new (o := HO.lst ([V.bl (decide (i = 0)), V.bl (decide (i = 1)), V.bl (decide (i = 2))] ++ [V.bl (decide (i = 3)), V.bl (decide (i = 4)), V.bl (decide (i = 5))])) nq1 (hdd_new (o := HO.lst [V.bl (decide (i = 3)), V.bl (decide (i = 4)), V.bl (decide (i = 5))]) np1 hdd)
      rw [← e1] at hdd ⊢
      clear e1 s0 f0 np1 nq1
      walk_at "ki"
      refine ⟨by show 3 ≤ sizeLine; decide, fun p2 np2 => ?_⟩
      walk_at "ki"
      refine ⟨_, _, _, _, rfl, rfl, (upd_ne (ne_of_none f1 np2)).trans f1, upd_same, by show 6 + 3 ≤ sizeLine; decide, fun q2 nq2 => ?_⟩
      obtain ⟨H2, e2⟩ : ∃ H2, H2 = upd (upd H1 p2 (HO.lst [V.bl (decide (i = 6)), V.bl (decide (i = 7)), V.bl (decide (i = 8))])) q2 (HO.lst ([V.bl (decide (i = 0)), V.bl (decide (i = 1)), V.bl (decide (i = 2)), V.bl (decide (i = 3)), V.bl (decide (i = 4)), V.bl (decide (i = 5))] ++ [V.bl (decide (i = 6)), V.bl (decide (i = 7)), V.bl (decide (i = 8))])) := ⟨_, rfl⟩
      have s2 : Same H H2 := by rw [e2]; exact Same.new (Same.new s1 np2) nq2
      have f2 : H2 q2 = some (.lst [V.bl (decide (i = 0)), V.bl (decide (i = 1)), V.bl (decide (i = 2)), V.bl (decide (i = 3)), V.bl (decide (i = 4)), V.bl (decide (i = 5)), V.bl (decide (i = 6)), V.bl (decide (i = 7)), V.bl (decide (i = 8))]) := by rw [e2]; exact upd_same
      have hdd := hdd_new (o := HO.lst ([V.bl (decide (i = 0)), V.bl (decide (i = 1)), V.bl (decide (i = 2)), V.bl (decide (i = 3)), V.bl (decide (i = 4)), V.bl (decide (i = 5))] ++ [V.bl (decide (i = 6)), V.bl (decide (i = 7)), V.bl (decide (i = 8))])) nq2 (hdd_new (o := HO.lst [V.bl (decide (i = 6)), V.bl (decide (i = 7)), V.bl (decide (i = 8))]) np2 hdd)
      rw [← e2] at hdd ⊢
      clear e2 s1 f1 np2 nq2
      walk_at "ki"
      refine ⟨by show 3 ≤ sizeLine; decide, fun p3 np3 => ?_⟩
      walk_at "ki"
      refine ⟨_, _, _, _, rfl, rfl, (upd_ne (ne_of_none f2 np3)).trans f2, upd_same, by show 9 + 3 ≤ sizeLine; decide, fun q3 nq3 => ?_⟩
      obtain ⟨H3, e3⟩ : ∃ H3, H3 = upd (upd H2 p3 (HO.lst [V.bl (decide (i = 9)), V.bl (decide (i = 10)), V.bl (decide (i = 11))])) q3 (HO.lst ([V.bl (decide (i = 0)), V.bl (decide (i = 1)), V.bl (decide (i = 2)), V.bl (decide (i = 3)), V.bl (decide (i = 4)), V.bl (decide (i = 5)), V.bl (decide (i = 6)), V.bl (decide (i = 7)), V.bl (decide (i = 8))] ++ [V.bl (decide (i = 9)), V.bl (decide (i = 10)), V.bl (decide (i = 11))])) := ⟨_, rfl⟩
      have s3 : Same H H3 := by rw [e3]; exact Same.new (Same.new s2 np3) nq3
      have f3 : H3 q3 = some (.lst [V.bl (decide (i = 0)), V.bl (decide (i = 1)), V.bl (decide (i = 2)), V.bl (decide (i = 3)), V.bl (decide (i = 4)), V.bl (decide (i = 5)), V.bl (decide (i = 6)), V.bl (decide (i = 7)), V.bl (decide (i = 8)), V.bl (decide (i = 9)), V.bl (decide (i = 10)), V.bl (decide (i = 11))]) := by rw [e3]; exact upd_same
      have hdd := hdd_new (o := HO.lst ([V.bl (decide (i = 0)), V.bl (decide (i = 1)), V.bl (decide (i = 2)), V.bl (decide (i = 3)), V.bl (decide (i = 4)), V.bl (decide (i = 5)), V.bl (decide (i = 6)), V.bl (decide (i = 7)), V.bl (decide (i = 8))] ++ [V.bl (decide (i = 9)), V.bl (decide (i = 10)), V.bl (decide (i = 11))])) nq3 (hdd_new (o := HO.lst [V.bl (decide (i = 9)), V.bl (decide (i = 10)), V.bl (decide (i = 11))]) np3 hdd)
      rw [← e3] at hdd ⊢
      clear e3 s2 f2 np3 nq3
      walk_at "ki"
      refine ⟨by show 3 ≤ sizeLine; decide, fun p4 np4 => ?_⟩
      walk_at "ki"
      refine ⟨_, _, _, _, rfl, rfl, (upd_ne (ne_of_none f3 np4)).trans f3, upd_same, by show 12 + 3 ≤ sizeLine; decide, fun q4 nq4 => ?_⟩
      obtain ⟨H4, e4⟩ : ∃ H4, H4 = upd (upd H3 p4 (HO.lst [V.bl (decide (i = 12)), V.bl (decide (i = 13)), V.bl (decide (i = 14))])) q4 (HO.lst ([V.bl (decide (i = 0)), V.bl (decide (i = 1)), V.bl (decide (i = 2)), V.bl (decide (i = 3)), V.bl (decide (i = 4)), V.bl (decide (i = 5)), V.bl (decide (i = 6)), V.bl (decide (i = 7)), V.bl (decide (i = 8)), V.bl (decide (i = 9)), V.bl (decide (i = 10)), V.bl (decide (i = 11))] ++ [V.bl (decide (i = 12)), V.bl (decide (i = 13)), V.bl (decide (i = 14))])) := ⟨_, rfl⟩
      have s4 : Same H H4 := by rw [e4]; exact Same.new (Same.new s3 np4) nq4
      have f4 : H4 q4 = some (.lst [V.bl (decide (i = 0)), V.bl (decide (i = 1)), V.bl (decide (i = 2)), V.bl (decide (i = 3)), V.bl (decide (i = 4)), V.bl (decide (i = 5)), V.bl (decide (i = 6)), V.bl (decide (i = 7)), V.bl (decide (i = 8)), V.bl (decide (i = 9)), V.bl (decide (i = 10)), V.bl (decide (i = 11)), V.bl (decide (i = 12)), V.bl (decide (i = 13)), V.bl (decide (i = 14))]) := by rw [e4]; exact upd_same
      have hdd := hdd_new (o := HO.lst ([V.bl (decide (i = 0)), V.bl (decide (i = 1)), V.bl (decide (i = 2)), V.bl (decide (i = 3)), V.bl (decide (i = 4)), V.bl (decide (i = 5)), V.bl (decide (i = 6)), V.bl (decide (i = 7)), V.bl (decide (i = 8)), V.bl (decide (i = 9)), V.bl (decide (i = 10)), V.bl (decide (i = 11))] ++ [V.bl (decide (i = 12)), V.bl (decide (i = 13)), V.bl (decide (i = 14))])) nq4 (hdd_new (o := HO.lst [V.bl (decide (i = 12)), V.bl (decide (i = 13)), V.bl (decide (i = 14))]) np4 hdd)
      rw [← e4] at hdd ⊢
      clear e4 s3 f3 np4 nq4
      walk_at "ki"
      refine ⟨by show 3 ≤ sizeLine; decide, fun p5 np5 => ?_⟩
      walk_at "ki"
      refine ⟨_, _, _, _, rfl, rfl, (upd_ne (ne_of_none f4 np5)).trans f4, upd_same, by show 15 + 3 ≤ sizeLine; decide, fun q5 nq5 => ?_⟩
      obtain ⟨H5, e5⟩ : ∃ H5, H5 = upd (upd H4 p5 (HO.lst [V.bl (decide (i = 15)), V.bl (decide (i = 16)), V.bl (decide (i = 17))])) q5 (HO.lst ([V.bl (decide (i = 0)), V.bl (decide (i = 1)), V.bl (decide (i = 2)), V.bl (decide (i = 3)), V.bl (decide (i = 4)), V.bl (decide (i = 5)), V.bl (decide (i = 6)), V.bl (decide (i = 7)), V.bl (decide (i = 8)), V.bl (decide (i = 9)), V.bl (decide (i = 10)), V.bl (decide (i = 11)), V.bl (decide (i = 12)), V.bl (decide (i = 13)), V.bl (decide (i = 14))] ++ [V.bl (decide (i = 15)), V.bl (decide (i = 16)), V.bl (decide (i = 17))])) := ⟨_, rfl⟩
      have s5 : Same H H5 := by rw [e5]; exact Same.new (Same.new s4 np5) nq5
      have f5 : H5 q5 = some (.lst [V.bl (decide (i = 0)), V.bl (decide (i = 1)), V.bl (decide (i = 2)), V.bl (decide (i = 3)), V.bl (decide (i = 4)), V.bl (decide (i = 5)), V.bl (decide (i = 6)), V.bl (decide (i = 7)), V.bl (decide (i = 8)), V.bl (decide (i = 9)), V.bl (decide (i = 10)), V.bl (decide (i = 11)), V.bl (decide (i = 12)), V.bl (decide (i = 13)), V.bl (decide (i = 14)), V.bl (decide (i = 15)), V.bl (decide (i = 16)), V.bl (decide (i = 17))]) := by rw [e5]; exact upd_same
      have hdd := hdd_new (o := HO.lst ([V.bl (decide (i = 0)), V.bl (decide (i = 1)), V.bl (decide (i = 2)), V.bl (decide (i = 3)), V.bl (decide (i = 4)), V.bl (decide (i = 5)), V.bl (decide (i = 6)), V.bl (decide (i = 7)), V.bl (decide (i = 8)), V.bl (decide (i = 9)), V.bl (decide (i = 10)), V.bl (decide (i = 11)), V.bl (decide (i = 12)), V.bl (decide (i = 13)), V.bl (decide (i = 14))] ++ [V.bl (decide (i = 15)), V.bl (decide (i = 16)), V.bl (decide (i = 17))])) nq5 (hdd_new (o := HO.lst [V.bl (decide (i = 15)), V.bl (decide (i = 16)), V.bl (decide (i = 17))]) np5 hdd)
      rw [← e5] at hdd ⊢
      clear e5 s4 f4 np5 nq5
      walk_at "ki"
      refine ⟨by show 1 ≤ sizeLine; decide, fun p6 np6 => ?_⟩
      walk_at "ki"
      refine ⟨_, _, _, _, rfl, rfl, (upd_ne (ne_of_none f5 np6)).trans f5, upd_same, by show 18 + 1 ≤ sizeLine; decide, fun q6 nq6 => ?_⟩
      obtain ⟨H6, e6⟩ : ∃ H6, H6 = upd (upd H5 p6 (HO.lst [V.bl (decide (i = 18))])) q6 (HO.lst ([V.bl (decide (i = 0)), V.bl (decide (i = 1)), V.bl (decide (i = 2)), V.bl (decide (i = 3)), V.bl (decide (i = 4)), V.bl (decide (i = 5)), V.bl (decide (i = 6)), V.bl (decide (i = 7)), V.bl (decide (i = 8)), V.bl (decide (i = 9)), V.bl (decide (i = 10)), V.bl (decide (i = 11)), V.bl (decide (i = 12)), V.bl (decide (i = 13)), V.bl (decide (i = 14)), V.bl (decide (i = 15)), V.bl (decide (i = 16)), V.bl (decide (i = 17))] ++ [V.bl (decide (i = 18))])) := ⟨_, rfl⟩
      have s6 : Same H H6 := by rw [e6]; exact Same.new (Same.new s5 np6) nq6
      have f6 : H6 q6 = some (.lst [V.bl (decide (i = 0)), V.bl (decide (i = 1)), V.bl (decide (i = 2)), V.bl (decide (i = 3)), V.bl (decide (i = 4)), V.bl (decide (i = 5)), V.bl (decide (i = 6)), V.bl (decide (i = 7)), V.bl (decide (i = 8)), V.bl (decide (i = 9)), V.bl (decide (i = 10)), V.bl (decide (i = 11)), V.bl (decide (i = 12)), V.bl (decide (i = 13)), V.bl (decide (i = 14)), V.bl (decide (i = 15)), V.bl (decide (i = 16)), V.bl (decide (i = 17)), V.bl (decide (i = 18))]) := by rw [e6]; exact upd_same
      have hdd := hdd_new (o := HO.lst ([V.bl (decide (i = 0)), V.bl (decide (i = 1)), V.bl (decide (i = 2)), V.bl (decide (i = 3)), V.bl (decide (i = 4)), V.bl (decide (i = 5)), V.bl (decide (i = 6)), V.bl (decide (i = 7)), V.bl (decide (i = 8)), V.bl (decide (i = 9)), V.bl (decide (i = 10)), V.bl (decide (i = 11)), V.bl (decide (i = 12)), V.bl (decide (i = 13)), V.bl (decide (i = 14)), V.bl (decide (i = 15)), V.bl (decide (i = 16)), V.bl (decide (i = 17))] ++ [V.bl (decide (i = 18))])) nq6 (hdd_new (o := HO.lst [V.bl (decide (i = 18))]) np6 hdd)
      rw [← e6] at hdd ⊢
      clear e6 s5 f5 np6 nq6
      walk_at "ki"
      refine ⟨by decide, by decide, fun D nD => ?_⟩
      refine lc_range (lo := 0) (n := 19) (fun j H' => H' D = some (.lst (if i < j then [.int i] else [])) ∧ Same H6 H') ⟨upd_same, Same.set (Same.refl H6) nD⟩ (fun j H' hj hp => ?_) (fun H' hp => ?_)
      · obtain ⟨hD, hs'⟩ := hp
        refine ⟨rfl, ?_⟩
        walk_at "ki"
        refine ⟨_, _, _, V.bl (decide (i = j)), rfl, rfl, SqL.of (hs' _ _ f6), found_at i hj, ?_⟩
        refine ⟨_, rfl, ?_⟩
        by_cases hij : i = j
        · rw [decide_eq_true hij]
          refine ⟨_, rfl, _, hD, ?_, ?_, Same.set hs' nD⟩
          · rw [if_neg (by omega)]
            show 0 < sizeLine
            decide
          · rw [if_neg (by omega), if_pos (by omega), upd_same, hij, Int.zero_add]
            rfl
        · rw [decide_eq_false hij]
          refine ⟨?_, hs'⟩
          rw [hD]
          by_cases hlt : i < j
          · rw [if_pos hlt, if_pos (by omega)]
          · rw [if_neg hlt, if_neg (by omega)]
      · obtain ⟨hD, hs'⟩ := hp
        rw [if_pos hi] at hD
        have hdd' := hdd_same hs' hdd
        walk_at "ki"
        refine ⟨(T.fld i hi).2.1, _, _, _, rfl, (fun u r => r), T.kitV i hi, hdd', ?_⟩
        refine ⟨by show 1 ≤ sizeLine; decide, fun p7 np7 => ?_⟩
        refine ⟨_, _, _, _, rfl, rfl, (upd_ne (ne_of_none hD np7)).trans hD, upd_same, by show 1 + 1 ≤ sizeLine; decide, fun q7 nq7 => ?_⟩
        have z6 : Same H (upd (upd H' p7 (.lst [V.bl true])) q7 (.lst ([V.int (i : Int)] ++ [V.bl true]))) := Same.new (Same.new (fun b o e => hs' b o (s6 b o e)) np7) nq7
        refine k q7 _ z6 upd_same ?_
        exact (Same.free (Same.new (o := .lst [V.bl true]) (fun b o e => hs' b o (s6 b o e)) np7) nq7))
end
end Fk

namespace Fk
open PySem L2
local macro_rules | `(tactic| walk_at "rdc") => `(tactic| (first | exact Or.inl ⟨by decide, by decide⟩ | exact Or.inr ⟨by decide, by decide⟩ | exact ⟨by decide, by decide⟩ | exact Or.inl ⟨by omega, by omega⟩ | exact Or.inr ⟨by omega, by omega⟩ | ((show (0 : Int) < _); (first | decide | omega)) | exact ⟨by decide, by decide, by decide⟩ | exact ⟨by omega, by assumption⟩))
local macro_rules | `(tactic| walk_at "hp") => `(tactic| (first | exact upd_same | assumption | ((rw [upd_ne (by assumption)]); (first | exact upd_same | assumption | ((rw [upd_ne (by assumption)]); (first | exact upd_same | assumption | ((rw [upd_ne (by assumption)]); (first | exact upd_same | assumption))))))))
local macro_rules | `(tactic| walk_at "r1") => `(tactic| (first | refine ⟨_, rfl, ?_⟩ | refine ⟨_, _, rfl, rfl, ?_⟩ | refine ⟨_, _, rfl, ?_⟩ | refine Or.inl ⟨_, rfl, ?_⟩ | refine ⟨rfl, ?_⟩ | refine ⟨(by walk_at "rdc"), ?_⟩ | refine ⟨_, _, _, _, rfl, rfl, SqL.of (by walk_at "hp"), rfl, ?_⟩ | refine ⟨_, _, _, _, rfl, rfl, (by walk_at "hp"), rfl, ?_⟩ | refine ⟨_, _, _, _, rfl, rfl, SqL.of (by walk_at "hp"), by assumption, ?_⟩))
local macro_rules | `(tactic| walk_at "rd") => `(tactic| (repeat walk_at "r1"))
section
variable {P : Program} {w : World} {K : PySem.W.Frag} {mg : Str → Option Value} {base : Heap}
--#wide _law_pitch op_pow | 10 ** 30
/-! ### _law_pitch -/
abbrev s__law_pitch : Stmt := top 26
theorem sc__law_pitch : FnScope ["_law_bag_here", "_law_way"] ["_law_bag_here"] (defScope s__law_pitch) := ⟨rfl, rfl, rfl, by decide +kernel, rfl, by decide +kernel, by decide +kernel⟩
def spPitch : Sp := fun vs H Q _ => ∃ b : Addr, vs = [.ref b] ∧ Bag H b ∧
  ∀ (n : Int) H', Bag H' b → Keep H H' b → -(10 ^ 30) ≤ n → n ≤ 10 ^ 30 → Q (.int n) H'
theorem ok_pitch {f : Addr} {fd : FuncData} (F : Fun K "_law_pitch" "_law_pitch" s__law_pitch f fd) (c__law_take : C8.Cal P w K mg base 2 "_law_take" spTake []) : FnOk P w K mg base CX0 3 f fd ["_law_bag_here"] spPitch := by
  refine F.ok sc__law_pitch (fun vs H Q E h => ?_) (fun cdv A outer s H vs Q E hr h => ?_)
  · obtain ⟨b, rfl, _⟩ := h
    rfl
  · obtain ⟨b, rfl, hb, k⟩ := h
    refine ⟨_, (pss_cons (ps_set (i := 1) sc__law_pitch.nd rfl (by first | exact Or.inl rfl | exact Or.inr rfl) (C8.pe_c c__law_take hr (by decide) rfl (pa_cons (pv 0) (pa_cons pe_int pa_nil))))
      (pss_cons (ps_if (pt_cmpR op_eq (pv 1) pe_int (nomark _)) (pss_one (ps_ret (pe_op op_sub (C8.pe_c c__law_take hr (by decide) rfl (pa_cons (pv 0) (pa_cons (pe_op op_add (pe_op op_mul pe_int (pe_op op_pow pe_int pe_int)) pe_int) pa_nil))) (pe_op op_pow pe_int pe_int)))) pss_nil)
      (pss_cons (ps_if (pt_cmpR op_eq (pv 1) pe_int (nomark _)) (pss_one (ps_ret (pe_ix ix_list (pe_lst (pa_cons pe_int (pa_cons pe_int (pa_cons (pe_un un_neg pe_int) pa_nil)))) (C8.pe_c c__law_take hr (by decide) rfl (pa_cons (pv 0) (pa_cons pe_int pa_nil))) (fun _ _ => rfl)))) pss_nil)
      (pss_one (ps_ret (pe_op op_sub (C8.pe_c c__law_take hr (by decide) rfl (pa_cons (pv 0) (pa_cons pe_int pa_nil))) pe_int)))))), ?_⟩
    walk_at "rd"
    refine ⟨hb, by decide, fun r H1 hb1 hk1 h0 h1 => ?_⟩
    walk_at "rd"
    refine ite2 (fun c => ?_) (fun c => ?_)
    · walk_at "rd"
      refine ⟨hb1, by decide, fun r2 H2 hb2 hk2 g0 g1 => ?_⟩
      have g2 : r2 < 2 * 10 ^ 30 + 1 := by
        have e : max (1 : Int) (2 * 10 ^ Int.toNat 30 + 1) = 2 * 10 ^ 30 + 1 := by decide
        rw [e] at g1
        exact g1
      walk_at "rd"
      refine k _ _ hb2 (hk1.trans hk2) ?_ ?_
      · show -(10 ^ 30) ≤ r2 - 10 ^ 30
        omega
      · show r2 - 10 ^ 30 ≤ 10 ^ 30
        omega
    · walk_at "rd"
      refine ite2 (fun c => ?_) (fun c => ?_)
      · walk_at "rd"
        refine ⟨by show 3 ≤ sizeLine; decide, fun p np => ?_⟩
        walk_at "rd"
        have hpb : b ≠ p := by
          obtain ⟨n, acc, pos, bs, c, cells, h1, _⟩ := hb1
          exact ne_of_none h1 np
        refine ⟨Bag.same hb1 (Same.new (Same.refl H1) np), by decide, fun r2 H2 hb2 hk2 g0 g1 => ?_⟩
        walk_at "rd"
        have hp2 : H2 p = some (.lst [.int 0, .int 1, .int (-1)]) := hk2 _ _ upd_same hpb.symm
        have : r2 = 0 ∨ r2 = 1 ∨ r2 = 2 := by
          have e : max (1 : Int) 3 = 3 := by decide
          rw [e] at g1
          omega
        rcases this with rfl | rfl | rfl
        · refine ⟨_, _, _, _, rfl, rfl, SqL.of hp2, rfl, ?_⟩
          exact k _ _ hb2 ((hk1.new np).trans hk2) (by decide) (by decide)
        · refine ⟨_, _, _, _, rfl, rfl, SqL.of hp2, rfl, ?_⟩
          exact k _ _ hb2 ((hk1.new np).trans hk2) (by decide) (by decide)
        · refine ⟨_, _, _, _, rfl, rfl, SqL.of hp2, rfl, ?_⟩
          exact k _ _ hb2 ((hk1.new np).trans hk2) (by decide) (by decide)
      · walk_at "rd"
        refine ⟨hb1, by decide, fun r2 H2 hb2 hk2 g0 g1 => ?_⟩
        have g2 : r2 < 41 := by
          have e : max (1 : Int) 41 = 41 := by decide
          rw [e] at g1
          exact g1
        walk_at "rd"
        exact k _ _ hb2 (hk1.trans hk2) (by omega) (by omega)
/-! ### the law -/
theorem low_small {z : Str} (h : Low z) : FmX 114 (.str z) ∧ FmX (-1) (.str z) ∧ PyData.strOk z = true := by
  obtain ⟨l, rfl, h1, h2, h3⟩ := h
  have hz : (S l).length ≤ 12 := by rw [S_len]; exact h2
  have hr : (reprText (S l)).length ≤ 10 * (S l).length + 2 := StrLaws.reprText_len (S l) fun c hc => by
    have q := h3 c (by simpa using hc)
    omega
  refine ⟨.inl ⟨rfl, by omega⟩, .inr ⟨rfl, by omega⟩, ?_⟩
  show (S l).cps.all (· < 0x110000) = true
  rw [Array.all_eq_true_iff_forall_mem]
  intro c hc
  have q := h3 c (by simpa using hc)
  exact decide_eq_true (by omega)
theorem num_small {n : Int} (h0 : -(10 ^ 30) ≤ n) (h1 : n ≤ 10 ^ 30) : FmX (-1) (.int n) := by
  refine ⟨rfl, ?_⟩
  have e : n.natAbs < 2 ^ 1920 := by
    have : n.natAbs ≤ 10 ^ 30 := by omega
    exact Nat.lt_of_le_of_lt this (by decide +kernel)
  by_cases hz : n.natAbs = 0
  · rw [hz]
    decide
  · exact (Nat.log2_lt hz).mpr e
theorem dp_two {K : PySem.W.Frag} {H : Hp} {q : Addr} {i : Int} (h : SqL K H q [.int i, .bl true]) : Dp K H (.ref q) (.list [.int i, .bool true]) := .lst h (.cons (.int _) (.cons (.bl _) .nil))
theorem eqv_two (i : Nat) : PyData.eqv (.list [.int (i : Int), .bool true]) (.list [.int (i : Int), .bool true]) = true := by
  simp [PyData.eqv, PyData.eqvAll]
/-- data of names and numbers alone -/
def pd : V → PyData
  | .str z => .str z
  | .int i => .int i
  | _ => .none
theorem due_shape (i : Nat) (hi : i < 19) (z o : Str) (n : Int) : ∀ v ∈ due i z o n, v = .str z ∨ v = .str o ∨ v = .int n := by
  match i, hi with
  | 0, _ | 1, _ | 2, _ | 3, _ | 4, _ | 5, _ | 6, _ | 7, _ | 8, _ | 9, _ | 10, _ | 11, _ | 12, _ | 13, _ | 14, _ | 15, _ | 16, _ | 17, _ | 18, _ => intro v hv; simp [due] at hv; (try (rcases hv with rfl | rfl <;> simp)); (try simp [hv])
  | m + 19, h => exact absurd h (by omega)
theorem dp_all {K : PySem.W.Frag} {H : Hp} {z o : Str} {n : Int} : ∀ {l : List V}, (∀ v ∈ l, v = .str z ∨ v = .str o ∨ v = .int n) → DpAll K H l (l.map pd)
  | [], _ => .nil
  | v :: l, h => by
    refine .cons ?_ (dp_all fun u hu => h u (List.mem_cons_of_mem _ hu))
    rcases h v List.mem_cons_self with rfl | rfl | rfl
    · exact .str _
    · exact .str _
    · exact .int _
theorem due_ok {z o : Str} {n : Int} (hz : PyData.strOk z = true) (ho : PyData.strOk o = true) {l : List V} (h : ∀ v ∈ l, v = .str z ∨ v = .str o ∨ v = .int n) : SeqAt.shaped (.list (l.map pd)) = true ∧ PyData.eqv (.list (l.map pd)) (.list (l.map pd)) = true := by
  have each : ∀ v ∈ l, PyData.canLay0 (pd v) = true ∧ PyData.eqv (pd v) (pd v) = true ∧ PyData.depth (pd v) = 0 := by
    intro v hv
    rcases h v hv with rfl | rfl | rfl
    · exact ⟨hz, by simp [pd, PyData.eqv], by simp [pd, PyData.depth]⟩
    · exact ⟨ho, by simp [pd, PyData.eqv], by simp [pd, PyData.depth]⟩
    · exact ⟨rfl, by simp [pd, PyData.eqv], by simp [pd, PyData.depth]⟩
  have many : ∀ m : List V, (∀ v ∈ m, PyData.canLay0 (pd v) = true ∧ PyData.eqv (pd v) (pd v) = true ∧ PyData.depth (pd v) = 0) → PyData.canLayAll0 (m.map pd) = true ∧ PyData.eqvAll (m.map pd) (m.map pd) = true ∧ PyData.depthAll (m.map pd) = 0 := by
    intro m
    induction m with
    | nil => exact fun _ => ⟨rfl, rfl, rfl⟩
    | cons v m ih =>
      intro hm
      obtain ⟨a, b, c⟩ := hm v List.mem_cons_self
      obtain ⟨x, y, w⟩ := ih fun u hu => hm u (List.mem_cons_of_mem _ hu)
      refine ⟨by simp [PyData.canLayAll0, a, x], by simp [PyData.eqvAll, b, y], by simp [PyData.depthAll, c, w]⟩
  obtain ⟨x, y, w⟩ := many l each
  exact ⟨by simp [SeqAt.shaped, PyData.canLay0, PyData.depth, x, w], by simp [PyData.eqv, y]⟩
theorem in_of {z o : Str} {n : Int} (hz : Low z) (ho : Low o) (h0 : -(10 ^ 30) ≤ n) (h1 : n ≤ 10 ^ 30) : In z o n := ⟨(low_small hz).1, (low_small hz).2.1, (low_small ho).1, num_small h0 h1⟩
--#ty law _law_due=l _law_due[]=l _law_script=l
abbrev s_law : Stmt := top 33
theorem sc_law : FnScope ["_law_script", "_law_bag_here", "_law_name_here", "_law_other", "_law_number", "_law_due", "_law_way"] ["_law_script"] (defScope s_law) := ⟨rfl, rfl, rfl, by decide +kernel, rfl, by decide +kernel, by decide +kernel⟩
structure Tl (P : Program) (w : World) (K : PySem.W.Frag) (mg : Str → Option Value) (base : Heap) : Prop where
  b_range : mg "range" = none
def spLaw (K : PySem.W.Frag) : Sp := fun vs H Q _ => ∃ (a : Addr) (ns : List Int), vs = [.ref a] ∧ SqL K H a (ns.map V.int) ∧ ns.length ≤ 63 ∧ ∀ H', Q (.bl true) H'
theorem ok_law {f : Addr} {fd : FuncData} (F : Fun K "law" "law" s_law f fd) (T : Tl P w K mg base) (c__law_bag : C8.Cal P w K mg base 1 "_law_bag" (spBag K) []) (c__law_name : C8.Cal P w K mg base 3 "_law_name" spName []) (c__law_pitch : C8.Cal P w K mg base 3 "_law_pitch" spPitch [])
    (c__law_kinds : C8.Cal P w K mg base 5 "_law_kinds" spKinds []) (c__law_kept_early : C8.Cal P w K mg base 4 "_law_kept_early" (spKept 0 10) []) (c__law_kept_late : C8.Cal P w K mg base 4 "_law_kept_late" (spKept 10 19) []) :
    FnOk P w K mg base CX0 6 f fd ["_law_script"] (spLaw K) := by
  refine F.ok sc_law (fun vs H Q E h => ?_) (fun cdv A outer s H vs Q E hr h => ?_)
  · obtain ⟨a, ns, rfl, _⟩ := h
    rfl
  · obtain ⟨a, ns, rfl, hS, hl, k⟩ := h
    refine ⟨_, (pss_cons (ps_set (i := 1) sc_law.nd rfl (by first | exact Or.inl rfl | exact Or.inr rfl) (C8.pe_c c__law_bag hr (by decide) rfl (pa_cons (pv 0) pa_nil)))
      (pss_cons (ps_set (i := 2) sc_law.nd rfl (by first | exact Or.inl rfl | exact Or.inr rfl) (C8.pe_c c__law_name hr (by decide) rfl (pa_cons (pv 1) (pa_cons (pe_lst pa_nil) pa_nil))))
      (pss_cons (ps_set (i := 3) sc_law.nd rfl (by first | exact Or.inl rfl | exact Or.inr rfl) (C8.pe_c c__law_name hr (by decide) rfl (pa_cons (pv 1) (pa_cons (pe_lst (pa_cons (pv 2) pa_nil)) pa_nil))))
      (pss_cons (ps_set (i := 4) sc_law.nd rfl (by first | exact Or.inl rfl | exact Or.inr rfl) (C8.pe_c c__law_pitch hr (by decide) rfl (pa_cons (pv 1) pa_nil)))
      (pss_cons (ps_set (i := 5) sc_law.nd rfl (by first | exact Or.inl rfl | exact Or.inr rfl) (pe_lst (pa_cons (pe_lst (pa_cons (pv 2) pa_nil)) (pa_cons (pe_lst (pa_cons (pv 2) pa_nil)) (pa_cons (pe_lst (pa_cons (pv 2) pa_nil)) (pa_cons (pe_lst (pa_cons (pv 4) pa_nil)) (pa_cons (pe_lst (pa_cons (pv 4) pa_nil)) (pa_cons (pe_lst (pa_cons (pv 2) pa_nil)) (pa_cons (pe_lst (pa_cons (pv 2) pa_nil)) (pa_cons (pe_lst (pa_cons (pv 4) pa_nil)) (pa_cons (pe_lst (pa_cons (pv 4) pa_nil)) (pa_cons (pe_lst (pa_cons (pv 4) pa_nil)) pa_nil))))))))))))
      (pss_cons (ps_set (i := 5) sc_law.nd rfl (by first | exact Or.inl rfl | exact Or.inr rfl) (pe_op op_cat (pv 5) (pe_lst (pa_cons (pe_lst (pa_cons (pv 2) (pa_cons (pv 4) pa_nil))) (pa_cons (pe_lst (pa_cons (pv 2) pa_nil)) (pa_cons (pe_lst (pa_cons (pv 2) (pa_cons (pv 3) pa_nil))) (pa_cons (pe_lst (pa_cons (pv 4) pa_nil)) (pa_cons (pe_lst (pa_cons (pv 4) pa_nil)) (pa_cons (pe_lst pa_nil) (pa_cons (pe_lst pa_nil) (pa_cons (pe_lst pa_nil) (pa_cons (pe_lst (pa_cons (pv 4) (pa_cons (pv 2) pa_nil))) pa_nil))))))))))))
      (pss_cons (ps_for PassesOwn.never rfl (pi_range1 (by rfl) T.b_range (pa_cons pe_int pa_nil)) (pg_name (i := 6) sc_law.nd rfl (by first | exact Or.inl rfl | exact Or.inr rfl)) (pss_cons (ps_if (pt_cmpR (op_neD hr.units) (C8.pe_c c__law_kinds hr (by decide) rfl (pa_cons (pv 6) (pa_cons (pv 2) (pa_cons (pv 3) (pa_cons (pv 4) pa_nil))))) (pe_lst (pa_cons (pv 6) (pa_cons pe_bl pa_nil))) (nomark _)) (pss_one (ps_ret pe_bl)) pss_nil)
      (pss_cons (ps_if (PW.pt (pw_and (pt_cmpR op_lt (pv 6) pe_int (nomark _)) (pw_and1 (pt_cmpR (op_neD hr.units) (C8.pe_c c__law_kept_early hr (by decide) rfl (pa_cons (pv 6) (pa_cons (pv 2) (pa_cons (pv 3) (pa_cons (pv 4) pa_nil))))) (pe_ix ix_list (pv 5) (pv 6) (fun _ _ => rfl)) (nomark _))))) (pss_one (ps_ret pe_bl)) pss_nil)
      (pss_one (ps_if (PW.pt (pw_and (pt_cmpR op_gt (pv 6) pe_int (nomark _)) (pw_and1 (pt_cmpR (op_neD hr.units) (C8.pe_c c__law_kept_late hr (by decide) rfl (pa_cons (pv 6) (pa_cons (pv 2) (pa_cons (pv 3) (pa_cons (pv 4) pa_nil))))) (pe_ix ix_list (pv 5) (pv 6) (fun _ _ => rfl)) (nomark _))))) (pss_one (ps_ret pe_bl)) pss_nil)))))
      (pss_one (ps_ret pe_bl))))))))), ?_⟩
    walk_at "rd"
    refine ⟨a, ns, rfl, hS, hl, fun H1 b hs1 hb1 => ?_⟩
    walk_at "rd"
    refine ⟨Nat.zero_le _, fun p np => ?_⟩
    refine ⟨b, p, [], rfl, Bag.same hb1 (Same.new (Same.refl H1) np), upd_same, by decide, fun z H2 hb2 hk2 lz nz => ?_⟩
    walk_at "rd"
    refine ⟨by show 1 ≤ sizeLine; decide, fun p2 np2 => ?_⟩
    refine ⟨b, p2, [z], rfl, Bag.same hb2 (Same.new (Same.refl H2) np2), upd_same, by show 1 ≤ 11; decide, fun o H3 hb3 hk3 lo no => ?_⟩
    walk_at "rd"
    refine ⟨hb3, fun n G0 hb4 hk4 n0 n1 => ?_⟩
    clear hb1 hb2 hb3 hb4 hk2 hk3 hk4 np np2 hs1 hS
    walk_at "rd"
    refine ⟨by show 1 ≤ sizeLine; decide, fun a1 n1 => ?_⟩
    obtain ⟨G1, e1⟩ : ∃ G1, G1 = upd G0 a1 (HO.lst [V.str z]) := ⟨_, rfl⟩
    have t1 : Same G0 G1 := by rw [e1]; exact Same.new (Same.refl _) n1
    have f1 : G1 a1 = some (.lst [V.str z]) := by rw [e1]; exact upd_same
    rw [← e1]
    clear e1 n1
    walk_at "rd"
    refine ⟨by show 1 ≤ sizeLine; decide, fun a2 n2 => ?_⟩
    obtain ⟨G2, e2⟩ : ∃ G2, G2 = upd G1 a2 (HO.lst [V.str z]) := ⟨_, rfl⟩
    have t2 : Same G1 G2 := by rw [e2]; exact Same.new (Same.refl _) n2
    have f2 : G2 a2 = some (.lst [V.str z]) := by rw [e2]; exact upd_same
    rw [← e2]
    clear e2 n2
    walk_at "rd"
    refine ⟨by show 1 ≤ sizeLine; decide, fun a3 n3 => ?_⟩
    obtain ⟨G3, e3⟩ : ∃ G3, G3 = upd G2 a3 (HO.lst [V.str z]) := ⟨_, rfl⟩
    have t3 : Same G2 G3 := by rw [e3]; exact Same.new (Same.refl _) n3
    have f3 : G3 a3 = some (.lst [V.str z]) := by rw [e3]; exact upd_same
    rw [← e3]
    clear e3 n3
    walk_at "rd"
    refine ⟨by show 1 ≤ sizeLine; decide, fun a4 n4 => ?_⟩
    obtain ⟨G4, e4⟩ : ∃ G4, G4 = upd G3 a4 (HO.lst [V.int n]) := ⟨_, rfl⟩
    have t4 : Same G3 G4 := by rw [e4]; exact Same.new (Same.refl _) n4
    have f4 : G4 a4 = some (.lst [V.int n]) := by rw [e4]; exact upd_same
    rw [← e4]
    clear e4 n4
    walk_at "rd"
    refine ⟨by show 1 ≤ sizeLine; decide, fun a5 n5 => ?_⟩
    obtain ⟨G5, e5⟩ : ∃ G5, G5 = upd G4 a5 (HO.lst [V.int n]) := ⟨_, rfl⟩
    have t5 : Same G4 G5 := by rw [e5]; exact Same.new (Same.refl _) n5
    have f5 : G5 a5 = some (.lst [V.int n]) := by rw [e5]; exact upd_same
    rw [← e5]
    clear e5 n5
    walk_at "rd"
    refine ⟨by show 1 ≤ sizeLine; decide, fun a6 n6 => ?_⟩
    obtain ⟨G6, e6⟩ : ∃ G6, G6 = upd G5 a6 (HO.lst [V.str z]) := ⟨_, rfl⟩
    have t6 : Same G5 G6 := by rw [e6]; exact Same.new (Same.refl _) n6
    have f6 : G6 a6 = some (.lst [V.str z]) := by rw [e6]; exact upd_same
    rw [← e6]
    clear e6 n6
    walk_at "rd"
    refine ⟨by show 1 ≤ sizeLine; decide, fun a7 n7 => ?_⟩
    obtain ⟨G7, e7⟩ : ∃ G7, G7 = upd G6 a7 (HO.lst [V.str z]) := ⟨_, rfl⟩
    have t7 : Same G6 G7 := by rw [e7]; exact Same.new (Same.refl _) n7
    have f7 : G7 a7 = some (.lst [V.str z]) := by rw [e7]; exact upd_same
    rw [← e7]
    clear e7 n7
    walk_at "rd"
    refine ⟨by show 1 ≤ sizeLine; decide, fun a8 n8 => ?_⟩
    obtain ⟨G8, e8⟩ : ∃ G8, G8 = upd G7 a8 (HO.lst [V.int n]) := ⟨_, rfl⟩
    have t8 : Same G7 G8 := by rw [e8]; exact Same.new (Same.refl _) n8
    have f8 : G8 a8 = some (.lst [V.int n]) := by rw [e8]; exact upd_same
    rw [← e8]
    clear e8 n8
    walk_at "rd"
    refine ⟨by show 1 ≤ sizeLine; decide, fun a9 n9 => ?_⟩
    obtain ⟨G9, e9⟩ : ∃ G9, G9 = upd G8 a9 (HO.lst [V.int n]) := ⟨_, rfl⟩
    have t9 : Same G8 G9 := by rw [e9]; exact Same.new (Same.refl _) n9
    have f9 : G9 a9 = some (.lst [V.int n]) := by rw [e9]; exact upd_same
    rw [← e9]
    clear e9 n9
    walk_at "rd"
    refine ⟨by show 1 ≤ sizeLine; decide, fun a10 n10 => ?_⟩
    obtain ⟨G10, e10⟩ : ∃ G10, G10 = upd G9 a10 (HO.lst [V.int n]) := ⟨_, rfl⟩
    have t10 : Same G9 G10 := by rw [e10]; exact Same.new (Same.refl _) n10
    have f10 : G10 a10 = some (.lst [V.int n]) := by rw [e10]; exact upd_same
    rw [← e10]
    clear e10 n10
    walk_at "rd"
    refine ⟨by show 10 ≤ sizeLine; decide, fun a11 n11 => ?_⟩
    obtain ⟨G11, e11⟩ : ∃ G11, G11 = upd G10 a11 (HO.lst [V.ref a1, V.ref a2, V.ref a3, V.ref a4, V.ref a5, V.ref a6, V.ref a7, V.ref a8, V.ref a9, V.ref a10]) := ⟨_, rfl⟩
    have t11 : Same G10 G11 := by rw [e11]; exact Same.new (Same.refl _) n11
    have f11 : G11 a11 = some (.lst [V.ref a1, V.ref a2, V.ref a3, V.ref a4, V.ref a5, V.ref a6, V.ref a7, V.ref a8, V.ref a9, V.ref a10]) := by rw [e11]; exact upd_same
    rw [← e11]
    clear e11 n11
    walk_at "rd"
    refine ⟨by show 2 ≤ sizeLine; decide, fun a12 n12 => ?_⟩
    obtain ⟨G12, e12⟩ : ∃ G12, G12 = upd G11 a12 (HO.lst [V.str z, V.int n]) := ⟨_, rfl⟩
    have t12 : Same G11 G12 := by rw [e12]; exact Same.new (Same.refl _) n12
    have f12 : G12 a12 = some (.lst [V.str z, V.int n]) := by rw [e12]; exact upd_same
    rw [← e12]
    clear e12 n12
    walk_at "rd"
    refine ⟨by show 1 ≤ sizeLine; decide, fun a13 n13 => ?_⟩
    obtain ⟨G13, e13⟩ : ∃ G13, G13 = upd G12 a13 (HO.lst [V.str z]) := ⟨_, rfl⟩
    have t13 : Same G12 G13 := by rw [e13]; exact Same.new (Same.refl _) n13
    have f13 : G13 a13 = some (.lst [V.str z]) := by rw [e13]; exact upd_same
    rw [← e13]
    clear e13 n13
    walk_at "rd"
    refine ⟨by show 2 ≤ sizeLine; decide, fun a14 n14 => ?_⟩
    obtain ⟨G14, e14⟩ : ∃ G14, G14 = upd G13 a14 (HO.lst [V.str z, V.str o]) := ⟨_, rfl⟩
    have t14 : Same G13 G14 := by rw [e14]; exact Same.new (Same.refl _) n14
    have f14 : G14 a14 = some (.lst [V.str z, V.str o]) := by rw [e14]; exact upd_same
    rw [← e14]
    clear e14 n14
    walk_at "rd"
    refine ⟨by show 1 ≤ sizeLine; decide, fun a15 n15 => ?_⟩
    obtain ⟨G15, e15⟩ : ∃ G15, G15 = upd G14 a15 (HO.lst [V.int n]) := ⟨_, rfl⟩
    have t15 : Same G14 G15 := by rw [e15]; exact Same.new (Same.refl _) n15
    have f15 : G15 a15 = some (.lst [V.int n]) := by rw [e15]; exact upd_same
    rw [← e15]
    clear e15 n15
    walk_at "rd"
    refine ⟨by show 1 ≤ sizeLine; decide, fun a16 n16 => ?_⟩
    obtain ⟨G16, e16⟩ : ∃ G16, G16 = upd G15 a16 (HO.lst [V.int n]) := ⟨_, rfl⟩
    have t16 : Same G15 G16 := by rw [e16]; exact Same.new (Same.refl _) n16
    have f16 : G16 a16 = some (.lst [V.int n]) := by rw [e16]; exact upd_same
    rw [← e16]
    clear e16 n16
    walk_at "rd"
    refine ⟨by show 0 ≤ sizeLine; decide, fun a17 n17 => ?_⟩
    obtain ⟨G17, e17⟩ : ∃ G17, G17 = upd G16 a17 (HO.lst []) := ⟨_, rfl⟩
    have t17 : Same G16 G17 := by rw [e17]; exact Same.new (Same.refl _) n17
    have f17 : G17 a17 = some (.lst []) := by rw [e17]; exact upd_same
    rw [← e17]
    clear e17 n17
    walk_at "rd"
    refine ⟨by show 0 ≤ sizeLine; decide, fun a18 n18 => ?_⟩
    obtain ⟨G18, e18⟩ : ∃ G18, G18 = upd G17 a18 (HO.lst []) := ⟨_, rfl⟩
    have t18 : Same G17 G18 := by rw [e18]; exact Same.new (Same.refl _) n18
    have f18 : G18 a18 = some (.lst []) := by rw [e18]; exact upd_same
    rw [← e18]
    clear e18 n18
    walk_at "rd"
    refine ⟨by show 0 ≤ sizeLine; decide, fun a19 n19 => ?_⟩
    obtain ⟨G19, e19⟩ : ∃ G19, G19 = upd G18 a19 (HO.lst []) := ⟨_, rfl⟩
    have t19 : Same G18 G19 := by rw [e19]; exact Same.new (Same.refl _) n19
    have f19 : G19 a19 = some (.lst []) := by rw [e19]; exact upd_same
    rw [← e19]
    clear e19 n19
    walk_at "rd"
    refine ⟨by show 2 ≤ sizeLine; decide, fun a20 n20 => ?_⟩
    obtain ⟨G20, e20⟩ : ∃ G20, G20 = upd G19 a20 (HO.lst [V.int n, V.str z]) := ⟨_, rfl⟩
    have t20 : Same G19 G20 := by rw [e20]; exact Same.new (Same.refl _) n20
    have f20 : G20 a20 = some (.lst [V.int n, V.str z]) := by rw [e20]; exact upd_same
    rw [← e20]
    clear e20 n20
    walk_at "rd"
    refine ⟨by show 9 ≤ sizeLine; decide, fun a21 n21 => ?_⟩
    obtain ⟨G21, e21⟩ : ∃ G21, G21 = upd G20 a21 (HO.lst [V.ref a12, V.ref a13, V.ref a14, V.ref a15, V.ref a16, V.ref a17, V.ref a18, V.ref a19, V.ref a20]) := ⟨_, rfl⟩
    have t21 : Same G20 G21 := by rw [e21]; exact Same.new (Same.refl _) n21
    have f21 : G21 a21 = some (.lst [V.ref a12, V.ref a13, V.ref a14, V.ref a15, V.ref a16, V.ref a17, V.ref a18, V.ref a19, V.ref a20]) := by rw [e21]; exact upd_same
    rw [← e21]
    clear e21 n21
    walk_at "rd"
    refine ⟨_, _, _, _, rfl, rfl, (t21 _ _ (t20 _ _ (t19 _ _ (t18 _ _ (t17 _ _ (t16 _ _ (t15 _ _ (t14 _ _ (t13 _ _ (t12 _ _ f11)))))))))), f21, by show 10 + 9 ≤ sizeLine; decide, fun a22 n22 => ?_⟩
    obtain ⟨G22, e22⟩ : ∃ G22, G22 = upd G21 a22 (HO.lst ([V.ref a1, V.ref a2, V.ref a3, V.ref a4, V.ref a5, V.ref a6, V.ref a7, V.ref a8, V.ref a9, V.ref a10] ++ [V.ref a12, V.ref a13, V.ref a14, V.ref a15, V.ref a16, V.ref a17, V.ref a18, V.ref a19, V.ref a20])) := ⟨_, rfl⟩
    have t22 : Same G21 G22 := by rw [e22]; exact Same.new (Same.refl _) n22
    have f22 : G22 a22 = some (.lst ([V.ref a1, V.ref a2, V.ref a3, V.ref a4, V.ref a5, V.ref a6, V.ref a7, V.ref a8, V.ref a9, V.ref a10] ++ [V.ref a12, V.ref a13, V.ref a14, V.ref a15, V.ref a16, V.ref a17, V.ref a18, V.ref a19, V.ref a20])) := by rw [e22]; exact upd_same
    rw [← e22]
    clear e22 n22
    walk_at "rd"
    have due_at : ∀ i : Nat, i < 19 → ∃ d, atI ([V.ref a1, V.ref a2, V.ref a3, V.ref a4, V.ref a5, V.ref a6, V.ref a7, V.ref a8, V.ref a9, V.ref a10] ++ [V.ref a12, V.ref a13, V.ref a14, V.ref a15, V.ref a16, V.ref a17, V.ref a18, V.ref a19, V.ref a20]) (0 + (i : Int)) = some (V.ref d) ∧ G22 d = some (.lst (due i z o n)) := by
      intro i hi
      match i, hi with
      | 0, _ => exact ⟨a1, rfl, (t22 _ _ (t21 _ _ (t20 _ _ (t19 _ _ (t18 _ _ (t17 _ _ (t16 _ _ (t15 _ _ (t14 _ _ (t13 _ _ (t12 _ _ (t11 _ _ (t10 _ _ (t9 _ _ (t8 _ _ (t7 _ _ (t6 _ _ (t5 _ _ (t4 _ _ (t3 _ _ (t2 _ _ f1)))))))))))))))))))))⟩
      | 1, _ => exact ⟨a2, rfl, (t22 _ _ (t21 _ _ (t20 _ _ (t19 _ _ (t18 _ _ (t17 _ _ (t16 _ _ (t15 _ _ (t14 _ _ (t13 _ _ (t12 _ _ (t11 _ _ (t10 _ _ (t9 _ _ (t8 _ _ (t7 _ _ (t6 _ _ (t5 _ _ (t4 _ _ (t3 _ _ f2))))))))))))))))))))⟩
      | 2, _ => exact ⟨a3, rfl, (t22 _ _ (t21 _ _ (t20 _ _ (t19 _ _ (t18 _ _ (t17 _ _ (t16 _ _ (t15 _ _ (t14 _ _ (t13 _ _ (t12 _ _ (t11 _ _ (t10 _ _ (t9 _ _ (t8 _ _ (t7 _ _ (t6 _ _ (t5 _ _ (t4 _ _ f3)))))))))))))))))))⟩
      | 3, _ => exact ⟨a4, rfl, (t22 _ _ (t21 _ _ (t20 _ _ (t19 _ _ (t18 _ _ (t17 _ _ (t16 _ _ (t15 _ _ (t14 _ _ (t13 _ _ (t12 _ _ (t11 _ _ (t10 _ _ (t9 _ _ (t8 _ _ (t7 _ _ (t6 _ _ (t5 _ _ f4))))))))))))))))))⟩
      | 4, _ => exact ⟨a5, rfl, (t22 _ _ (t21 _ _ (t20 _ _ (t19 _ _ (t18 _ _ (t17 _ _ (t16 _ _ (t15 _ _ (t14 _ _ (t13 _ _ (t12 _ _ (t11 _ _ (t10 _ _ (t9 _ _ (t8 _ _ (t7 _ _ (t6 _ _ f5)))))))))))))))))⟩
      | 5, _ => exact ⟨a6, rfl, (t22 _ _ (t21 _ _ (t20 _ _ (t19 _ _ (t18 _ _ (t17 _ _ (t16 _ _ (t15 _ _ (t14 _ _ (t13 _ _ (t12 _ _ (t11 _ _ (t10 _ _ (t9 _ _ (t8 _ _ (t7 _ _ f6))))))))))))))))⟩
      | 6, _ => exact ⟨a7, rfl, (t22 _ _ (t21 _ _ (t20 _ _ (t19 _ _ (t18 _ _ (t17 _ _ (t16 _ _ (t15 _ _ (t14 _ _ (t13 _ _ (t12 _ _ (t11 _ _ (t10 _ _ (t9 _ _ (t8 _ _ f7)))))))))))))))⟩
      | 7, _ => exact ⟨a8, rfl, (t22 _ _ (t21 _ _ (t20 _ _ (t19 _ _ (t18 _ _ (t17 _ _ (t16 _ _ (t15 _ _ (t14 _ _ (t13 _ _ (t12 _ _ (t11 _ _ (t10 _ _ (t9 _ _ f8))))))))))))))⟩
      | 8, _ => exact ⟨a9, rfl, (t22 _ _ (t21 _ _ (t20 _ _ (t19 _ _ (t18 _ _ (t17 _ _ (t16 _ _ (t15 _ _ (t14 _ _ (t13 _ _ (t12 _ _ (t11 _ _ (t10 _ _ f9)))))))))))))⟩
      | 9, _ => exact ⟨a10, rfl, (t22 _ _ (t21 _ _ (t20 _ _ (t19 _ _ (t18 _ _ (t17 _ _ (t16 _ _ (t15 _ _ (t14 _ _ (t13 _ _ (t12 _ _ (t11 _ _ f10))))))))))))⟩
      | 10, _ => exact ⟨a12, rfl, (t22 _ _ (t21 _ _ (t20 _ _ (t19 _ _ (t18 _ _ (t17 _ _ (t16 _ _ (t15 _ _ (t14 _ _ (t13 _ _ f12))))))))))⟩
      | 11, _ => exact ⟨a13, rfl, (t22 _ _ (t21 _ _ (t20 _ _ (t19 _ _ (t18 _ _ (t17 _ _ (t16 _ _ (t15 _ _ (t14 _ _ f13)))))))))⟩
      | 12, _ => exact ⟨a14, rfl, (t22 _ _ (t21 _ _ (t20 _ _ (t19 _ _ (t18 _ _ (t17 _ _ (t16 _ _ (t15 _ _ f14))))))))⟩
      | 13, _ => exact ⟨a15, rfl, (t22 _ _ (t21 _ _ (t20 _ _ (t19 _ _ (t18 _ _ (t17 _ _ (t16 _ _ f15)))))))⟩
      | 14, _ => exact ⟨a16, rfl, (t22 _ _ (t21 _ _ (t20 _ _ (t19 _ _ (t18 _ _ (t17 _ _ f16))))))⟩
      | 15, _ => exact ⟨a17, rfl, (t22 _ _ (t21 _ _ (t20 _ _ (t19 _ _ (t18 _ _ f17)))))⟩
      | 16, _ => exact ⟨a18, rfl, (t22 _ _ (t21 _ _ (t20 _ _ (t19 _ _ f18))))⟩
      | 17, _ => exact ⟨a19, rfl, (t22 _ _ (t21 _ _ (t20 _ _ f19)))⟩
      | 18, _ => exact ⟨a20, rfl, (t22 _ _ (t21 _ _ f20))⟩
      | m + 19, h => exact absurd h (by omega)
    clear f1 f2 f3 f4 f5 f6 f7 f8 f9 f10 f11 f12 f13 f14 f15 f16 f17 f18 f19 f20 f21 t1 t2 t3 t4 t5 t6 t7 t8 t9 t10 t11 t12 t13 t14 t15 t16 t17 t18 t19 t20 t21 t22
    have I := in_of lz lo n0 n1
    refine ⟨by decide, by decide, ?_⟩
    refine for_range (lo := 0) (n := 19) (fun i σ H' => Same G22 H' ∧ ∃ v, σ = [some (.ref a), some (.ref b), some (.str z), some (.str o), some (.int n), some (.ref a22), v]) ⟨Same.refl _, none, rfl⟩ (fun i σ H' hi hp => ?_) (fun σ H' hp => ?_)
    · obtain ⟨hs, v, rfl⟩ := hp
      obtain ⟨d, hd, hd2⟩ := due_at i hi
      rw [Int.zero_add] at hd ⊢
      have hdue := due_shape i hi z o n
      have hok := due_ok (low_small lz).2.2 (low_small lo).2.2 hdue
      walk_at "rd"
      refine ⟨i, z, o, n, rfl, hi, I, fun p H3 s3 hp3 np3 => ?_⟩
      walk_at "rd"
      refine ⟨by show 2 ≤ sizeLine; decide, fun q nq => ?_⟩
      refine ⟨.list [.int i, .bool true], .list [.int i, .bool true], dp_two (.of ((upd_ne (ne_of_none hp3 nq)).trans hp3)), dp_two (.of upd_same), rfl, rfl, ?_⟩
      rw [eqv_two i]
      walk_at "rd"
      have s4 : Same G22 (upd H3 q (.lst [.int i, .bl true])) := Same.new (fun x y e => s3 x y (hs x y e)) nq
      obtain ⟨H4, e4⟩ : ∃ H4, H4 = upd H3 q (HO.lst [.int i, .bl true]) := ⟨_, rfl⟩
      rw [← e4] at s4 ⊢
      clear e4 s3 hp3 np3 nq
      have kept : ∀ (p : Addr) (H5 : Hp), Same H4 H5 → H5 p = some (.lst (due i z o n)) → Dp K H5 (.ref p) (.list ((due i z o n).map pd)) ∧ Dp K H5 (.ref d) (.list ((due i z o n).map pd)) := fun p H5 s5 hp5 =>
        ⟨.lst (.of hp5) (dp_all hdue), .lst (.of (s5 _ _ (s4 _ _ hd2))) (dp_all hdue)⟩
      refine ite2 (fun c => ?_) (fun c => ?_)
      · have c10 : i < 10 := by have := of_decide_eq_true c; omega
        walk_at "rd"
        refine ⟨i, z, o, n, rfl, Nat.zero_le _, c10, I, fun p H5 s5 hp5 np5 => ?_⟩
        walk_at "rd"
        refine ⟨_, _, _, _, rfl, rfl, SqL.of (s5 _ _ (s4 _ _ f22)), hd, ?_⟩
        refine ⟨_, _, (kept p H5 s5 hp5).1, (kept p H5 s5 hp5).2, hok.1, hok.1, ?_⟩
        rw [hok.2]
        walk_at "rd"
        refine ite2 (fun c => ?_) (fun c => ?_)
        · exact absurd (of_decide_eq_true c) (by omega)
        · walk_at "rd"
          exact ⟨fun x y e => s5 x y (s4 x y e), _, rfl⟩
      · have c10 : ¬ i < 10 := by have := of_decide_eq_false (by simpa using c : decide ((i : Int) < 10) = false); omega
        walk_at "rd"
        refine ite2 (fun c => ?_) (fun c => ?_)
        · walk_at "rd"
          refine ⟨i, z, o, n, rfl, by omega, hi, I, fun p H5 s5 hp5 np5 => ?_⟩
          walk_at "rd"
          refine ⟨_, _, _, _, rfl, rfl, SqL.of (s5 _ _ (s4 _ _ f22)), hd, ?_⟩
          refine ⟨_, _, (kept p H5 s5 hp5).1, (kept p H5 s5 hp5).2, hok.1, hok.1, ?_⟩
          rw [hok.2]
          walk_at "rd"
          exact ⟨fun x y e => s5 x y (s4 x y e), _, rfl⟩
        · exact absurd (of_decide_eq_false (by simpa using c : decide ((9 : Int) < i) = false)) (by omega)
    · obtain ⟨hs, v, rfl⟩ := hp
      exact k _
end
end Fk

namespace PySem
namespace OwnX
open PySem.W PySem.HandSPX
/-- the facts of one class of errors, in one test -/
def clsB (K : Frag) (C fI : Addr) (fs : List Str) : Bool :=
  decide (ks_superIn K C C "__init__" = some (some (.builtin "ValueError.__init__"))) && (decide (mroIn K C (.ref C) = some true) && (decide (subIn K (.ref C) (.type "ValueError") = some true) && (decide (nsIn K cStatics "thirdparty.any" = some none) && (keepIn K (.ref C) &&
  (decide (subIn K (.ref C) (.type "BaseException") = some true) && (decide (typeIn K (.ref C) = some (.type "type")) && (decide (findIn K (.ref C) "__init__" = some (some (.ref fI))) && (decide (typeIn K (.ref fI) = some (.type "function")) &&
  (decide (findIn K (.ref C) "__setattr__" = some (some (.builtin "object.__setattr__"))) && (fs.all (fun f => decide (findIn K (.ref C) f = some none)) && (L2.xfB K C && (decide (findIn K (.ref C) "__class__" = some (some (.builtin "object.__class__"))) &&
  (decide (specialIn K (.builtin "object.__class__") "__get__" = some (some (.builtin "getset_descriptor.__get__"))) && (decide (takesIn K (.builtin "object.__class__") = some true) && decide (mroIn K C (.type "object") = some true)))))))))))))))
theorem err_of {P : Program} {K : Frag} {mg : Str → Option Value} {h : Heap} {x : Str} {C fI : Addr} {fs : List Str} {qual : Str} {st : Stmt} (X : K.In h) (G : h.Ns mainGlobals mg)
    {nm q : Str} {N : Addr} {bs bm : List Value} {sn : List Str} {sub : List Value} {ab : Bool} {col : Option Bool} {dd : Option Addr} {k0 k1 k2 k3 k5 : Option Value}
    {oc : Value} {od : Option Addr} {doc pm : Value} {an : Option Addr} {cda : Addr} {ct : Value} {cc : Addr} {osl : Array (Option Value)} {kV : Value}
    {ccl : Value} {cdd : Option Addr} {vs : Array Value} {ccs : Array (Option Value)} {file : Str} {tf : Tok} {cl : Value} {cld : Option Addr} {csl : Array (Option Value)}
    (aC : nsIn K mainGlobals x = some (some (.ref C))) (iC : findIn K (.ref C) "__init__" = some (some (.ref fI))) (lC : K.lookup C = some (excClassObj nm q C N bs bm true sn sub ab col dd k0 k1 k2 k3 k5 "ValueError.__new__")) (rV : refsVE bm = true)
    (lF : K.lookup fI = some ⟨oc, od, .func (ksFn "__init__" qual (L2.defArgs st) (L2.defBody st) (L2.defScope st) .none kV doc pm an (.ref cda) ct cc), osl⟩) (cF : codeIn K (.ref cda) qual = true)
    (lD : K.lookup cda = some ⟨ccl, cdd, .fields vs, ccs⟩) (vD : vs[2]? = some (.str file tf)) (fD : ((P.main.file : Str) == file) = true) (lL : K.lookup cc = some ⟨cl, cld, .cell (some (.ref C)), csl⟩)
    (B : clsB K C fI fs = true) (su : mg "super" = none) (tp : (P.main.scope.names.lookup ("super" : Str)).isSome = false) :
    L2.ErrA P K mg x C fI fs ∧ ErrF P K C fI qual (L2.defArgs st) (L2.defBody st) (L2.defScope st) := by
  unfold clsB at B
  simp only [Bool.and_eq_true, decide_eq_true_eq] at B
  obtain ⟨b1, b2, b3, b4, b5, b6, b7, b8, b9, b10, b11, b12, b13, b14, b15, b16⟩ := B
  have xf := L2.xfB_ok b12
  refine ⟨⟨⟨PySem.W.mg_of X G aC, ⟨⟨nm, q, N, bs, bm, sn, sub, ab, col, dd, k0, k1, k2, k3, k5, lC, rV⟩, b1, b2, b3, b4, tp⟩, b5, b6, b7, b8, b9, su⟩, ⟨b10, fun f hf => ?_⟩, xf, ⟨xf.ga, xf.gg, b6, xf.hdC, b13, b14, b15, b16⟩⟩,
    ⟨b8, b9, oc, od, doc, pm, an, cda, ct, cc, osl, kV, lF, cF, ⟨ccl, cdd, vs, ccs, file, tf, lD, vD, fD⟩, cl, cld, csl, lL⟩⟩
  exact of_decide_eq_true (List.all_eq_true.mp b11 f hf)
/-- which of the classes each is, and what the clauses say -/
def tabB (K : Frag) (cs : List Addr) (F : Addr) : Bool :=
  ((List.range 19).all fun i => (List.range 19).all fun j => decide (kitOne K (.ref (cs.getD i 0)) (.ref (cs.getD j 0)) = some (decide (i = j))) && decide (exmOne K (.ref (cs.getD i 0)) (.ref (cs.getD j 0)) = some (decide (i = j)))) &&
  ((List.range 19).all fun i => decide (kitOne K (.ref (cs.getD i 0)) (.type "ValueError") = some true) && decide (exmOne K (.ref (cs.getD i 0)) (.ref F) = some true))
end OwnX
end PySem
namespace Fk
open PySem L2 PySem.OwnX

abbrev i_BadName : Stmt := inClass (top 2) 0
theorem sh_BadName : Sh1 i_BadName "name" (114) "BadName.__init__" := ⟨_, _, _, _, _, _, _, _, _, _, _, _, _, _, _, _, _, rfl, rfl, rfl, ⟨rfl, by decide +kernel⟩, ⟨fun _ _ _ _ _ _ _ _ _ => rfl⟩⟩
abbrev i_UnknownFork : Stmt := inClass (top 3) 0
theorem sh_UnknownFork : Sh1 i_UnknownFork "name" (114) "UnknownFork.__init__" := ⟨_, _, _, _, _, _, _, _, _, _, _, _, _, _, _, _, _, rfl, rfl, rfl, ⟨rfl, by decide +kernel⟩, ⟨fun _ _ _ _ _ _ _ _ _ => rfl⟩⟩
abbrev i_RepeatedFork : Stmt := inClass (top 4) 0
theorem sh_RepeatedFork : Sh1 i_RepeatedFork "name" (114) "RepeatedFork.__init__" := ⟨_, _, _, _, _, _, _, _, _, _, _, _, _, _, _, _, _, rfl, rfl, rfl, ⟨rfl, by decide +kernel⟩, ⟨fun _ _ _ _ _ _ _ _ _ => rfl⟩⟩
abbrev i_BadCount : Stmt := inClass (top 5) 0
theorem sh_BadCount : Sh1 i_BadCount "count" (-1) "BadCount.__init__" := ⟨_, _, _, _, _, _, _, _, _, _, _, _, _, _, _, _, _, rfl, rfl, rfl, ⟨rfl, by decide +kernel⟩, ⟨fun _ _ _ _ _ _ _ _ _ => rfl⟩⟩
abbrev i_BadLimit : Stmt := inClass (top 6) 0
theorem sh_BadLimit : Sh1 i_BadLimit "value" (-1) "BadLimit.__init__" := ⟨_, _, _, _, _, _, _, _, _, _, _, _, _, _, _, _, _, rfl, rfl, rfl, ⟨rfl, by decide +kernel⟩, ⟨fun _ _ _ _ _ _ _ _ _ => rfl⟩⟩
abbrev i_BadWord : Stmt := inClass (top 7) 0
theorem sh_BadWord : Sh1 i_BadWord "word" (114) "BadWord.__init__" := ⟨_, _, _, _, _, _, _, _, _, _, _, _, _, _, _, _, _, rfl, rfl, rfl, ⟨rfl, by decide +kernel⟩, ⟨fun _ _ _ _ _ _ _ _ _ => rfl⟩⟩
abbrev i_BadText : Stmt := inClass (top 8) 0
theorem sh_BadText : Sh1 i_BadText "text" (114) "BadText.__init__" := ⟨_, _, _, _, _, _, _, _, _, _, _, _, _, _, _, _, _, rfl, rfl, rfl, ⟨rfl, by decide +kernel⟩, ⟨fun _ _ _ _ _ _ _ _ _ => rfl⟩⟩
abbrev i_BadStep : Stmt := inClass (top 9) 0
theorem sh_BadStep : Sh1 i_BadStep "step" (-1) "BadStep.__init__" := ⟨_, _, _, _, _, _, _, _, _, _, _, _, _, _, _, _, _, rfl, rfl, rfl, ⟨rfl, by decide +kernel⟩, ⟨fun _ _ _ _ _ _ _ _ _ => rfl⟩⟩
abbrev i_BadLot : Stmt := inClass (top 10) 0
theorem sh_BadLot : Sh1 i_BadLot "size" (-1) "BadLot.__init__" := ⟨_, _, _, _, _, _, _, _, _, _, _, _, _, _, _, _, _, rfl, rfl, rfl, ⟨rfl, by decide +kernel⟩, ⟨fun _ _ _ _ _ _ _ _ _ => rfl⟩⟩
abbrev i_TooDeep : Stmt := inClass (top 11) 0
theorem sh_TooDeep : Sh1 i_TooDeep "depth" (-1) "TooDeep.__init__" := ⟨_, _, _, _, _, _, _, _, _, _, _, _, _, _, _, _, _, rfl, rfl, rfl, ⟨rfl, by decide +kernel⟩, ⟨fun _ _ _ _ _ _ _ _ _ => rfl⟩⟩
abbrev i_TooMany : Stmt := inClass (top 12) 0
theorem sh_TooMany : Sh2 i_TooMany "what" (-1) "most" (-1) "TooMany.__init__" := ⟨_, _, _, _, _, _, _, _, _, _, _, _, _, _, _, _, _, _, _, _, _, _, _, _, _, _, _, rfl, rfl, rfl, ⟨rfl, by decide +kernel⟩, by decide +kernel, ⟨fun _ _ _ _ _ _ _ _ _ _ => rfl⟩⟩
abbrev i_Clash : Stmt := inClass (top 13) 0
theorem sh_Clash : Sh1 i_Clash "name" (114) "Clash.__init__" := ⟨_, _, _, _, _, _, _, _, _, _, _, _, _, _, _, _, _, rfl, rfl, rfl, ⟨rfl, by decide +kernel⟩, ⟨fun _ _ _ _ _ _ _ _ _ => rfl⟩⟩
abbrev i_Apart : Stmt := inClass (top 14) 0
theorem sh_Apart : Sh2 i_Apart "first" (114) "second" (114) "Apart.__init__" := ⟨_, _, _, _, _, _, _, _, _, _, _, _, _, _, _, _, _, _, _, _, _, _, _, _, _, _, _, rfl, rfl, rfl, ⟨rfl, by decide +kernel⟩, by decide +kernel, ⟨fun _ _ _ _ _ _ _ _ _ _ => rfl⟩⟩
abbrev i_NoStrike : Stmt := inClass (top 15) 0
theorem sh_NoStrike : Sh1 i_NoStrike "index" (-1) "NoStrike.__init__" := ⟨_, _, _, _, _, _, _, _, _, _, _, _, _, _, _, _, _, rfl, rfl, rfl, ⟨rfl, by decide +kernel⟩, ⟨fun _ _ _ _ _ _ _ _ _ => rfl⟩⟩
abbrev i_NoBlock : Stmt := inClass (top 16) 0
theorem sh_NoBlock : Sh1 i_NoBlock "index" (-1) "NoBlock.__init__" := ⟨_, _, _, _, _, _, _, _, _, _, _, _, _, _, _, _, _, rfl, rfl, rfl, ⟨rfl, by decide +kernel⟩, ⟨fun _ _ _ _ _ _ _ _ _ => rfl⟩⟩
abbrev i_NoFitting : Stmt := inClass (top 17) 0
theorem sh_NoFitting : Sh0 i_NoFitting "NoFitting.__init__" := ⟨_, _, _, _, _, _, _, _, _, rfl, rfl, rfl, rfl, ⟨fun _ _ _ _ _ _ _ _ => rfl⟩⟩
abbrev i_NothingToUndo : Stmt := inClass (top 18) 0
theorem sh_NothingToUndo : Sh0 i_NothingToUndo "NothingToUndo.__init__" := ⟨_, _, _, _, _, _, _, _, _, rfl, rfl, rfl, rfl, ⟨fun _ _ _ _ _ _ _ _ => rfl⟩⟩
abbrev i_NothingToRedo : Stmt := inClass (top 19) 0
theorem sh_NothingToRedo : Sh0 i_NothingToRedo "NothingToRedo.__init__" := ⟨_, _, _, _, _, _, _, _, _, rfl, rfl, rfl, rfl, ⟨fun _ _ _ _ _ _ _ _ => rfl⟩⟩
abbrev i_LineError : Stmt := inClass (top 20) 0
theorem sh_LineError : Sh2 i_LineError "index" (-1) "line" (114) "LineError.__init__" := ⟨_, _, _, _, _, _, _, _, _, _, _, _, _, _, _, _, _, _, _, _, _, _, _, _, _, _, _, rfl, rfl, rfl, ⟨rfl, by decide +kernel⟩, by decide +kernel, ⟨fun _ _ _ _ _ _ _ _ _ _ => rfl⟩⟩
theorem er_of {P : Program} {K : PySem.W.Frag} {mg : Str → Option Value} {h : Heap} (X : K.In h) (G : h.Ns mainGlobals mg) {cs : List Addr} {F0 : Addr} (gF : PySem.W.nsIn K mainGlobals "ForkError" = some (some (.ref F0)))
    {f0 : Addr} (h0 : ErrA P K mg "BadName" (cs.getD 0 0) f0 ["name"] ∧ ErrF P K (cs.getD 0 0) f0 "BadName.__init__" (defArgs i_BadName) (defBody i_BadName) (defScope i_BadName))
    {f1 : Addr} (h1 : ErrA P K mg "UnknownFork" (cs.getD 1 0) f1 ["name"] ∧ ErrF P K (cs.getD 1 0) f1 "UnknownFork.__init__" (defArgs i_UnknownFork) (defBody i_UnknownFork) (defScope i_UnknownFork))
    {f2 : Addr} (h2 : ErrA P K mg "RepeatedFork" (cs.getD 2 0) f2 ["name"] ∧ ErrF P K (cs.getD 2 0) f2 "RepeatedFork.__init__" (defArgs i_RepeatedFork) (defBody i_RepeatedFork) (defScope i_RepeatedFork))
    {f3 : Addr} (h3 : ErrA P K mg "BadCount" (cs.getD 3 0) f3 ["count"] ∧ ErrF P K (cs.getD 3 0) f3 "BadCount.__init__" (defArgs i_BadCount) (defBody i_BadCount) (defScope i_BadCount))
    {f4 : Addr} (h4 : ErrA P K mg "BadLimit" (cs.getD 4 0) f4 ["value"] ∧ ErrF P K (cs.getD 4 0) f4 "BadLimit.__init__" (defArgs i_BadLimit) (defBody i_BadLimit) (defScope i_BadLimit))
    {f5 : Addr} (h5 : ErrA P K mg "BadWord" (cs.getD 5 0) f5 ["word"] ∧ ErrF P K (cs.getD 5 0) f5 "BadWord.__init__" (defArgs i_BadWord) (defBody i_BadWord) (defScope i_BadWord))
    {f6 : Addr} (h6 : ErrA P K mg "BadText" (cs.getD 6 0) f6 ["text"] ∧ ErrF P K (cs.getD 6 0) f6 "BadText.__init__" (defArgs i_BadText) (defBody i_BadText) (defScope i_BadText))
    {f7 : Addr} (h7 : ErrA P K mg "BadStep" (cs.getD 7 0) f7 ["step"] ∧ ErrF P K (cs.getD 7 0) f7 "BadStep.__init__" (defArgs i_BadStep) (defBody i_BadStep) (defScope i_BadStep))
    {f8 : Addr} (h8 : ErrA P K mg "BadLot" (cs.getD 8 0) f8 ["size"] ∧ ErrF P K (cs.getD 8 0) f8 "BadLot.__init__" (defArgs i_BadLot) (defBody i_BadLot) (defScope i_BadLot))
    {f9 : Addr} (h9 : ErrA P K mg "TooDeep" (cs.getD 9 0) f9 ["depth"] ∧ ErrF P K (cs.getD 9 0) f9 "TooDeep.__init__" (defArgs i_TooDeep) (defBody i_TooDeep) (defScope i_TooDeep))
    {f10 : Addr} (h10 : ErrA P K mg "TooMany" (cs.getD 10 0) f10 ["what", "most"] ∧ ErrF P K (cs.getD 10 0) f10 "TooMany.__init__" (defArgs i_TooMany) (defBody i_TooMany) (defScope i_TooMany))
    {f11 : Addr} (h11 : ErrA P K mg "Clash" (cs.getD 11 0) f11 ["name"] ∧ ErrF P K (cs.getD 11 0) f11 "Clash.__init__" (defArgs i_Clash) (defBody i_Clash) (defScope i_Clash))
    {f12 : Addr} (h12 : ErrA P K mg "Apart" (cs.getD 12 0) f12 ["first", "second"] ∧ ErrF P K (cs.getD 12 0) f12 "Apart.__init__" (defArgs i_Apart) (defBody i_Apart) (defScope i_Apart))
    {f13 : Addr} (h13 : ErrA P K mg "NoStrike" (cs.getD 13 0) f13 ["index"] ∧ ErrF P K (cs.getD 13 0) f13 "NoStrike.__init__" (defArgs i_NoStrike) (defBody i_NoStrike) (defScope i_NoStrike))
    {f14 : Addr} (h14 : ErrA P K mg "NoBlock" (cs.getD 14 0) f14 ["index"] ∧ ErrF P K (cs.getD 14 0) f14 "NoBlock.__init__" (defArgs i_NoBlock) (defBody i_NoBlock) (defScope i_NoBlock))
    {f15 : Addr} (h15 : ErrA P K mg "NoFitting" (cs.getD 15 0) f15 [] ∧ ErrF P K (cs.getD 15 0) f15 "NoFitting.__init__" (defArgs i_NoFitting) (defBody i_NoFitting) (defScope i_NoFitting))
    {f16 : Addr} (h16 : ErrA P K mg "NothingToUndo" (cs.getD 16 0) f16 [] ∧ ErrF P K (cs.getD 16 0) f16 "NothingToUndo.__init__" (defArgs i_NothingToUndo) (defBody i_NothingToUndo) (defScope i_NothingToUndo))
    {f17 : Addr} (h17 : ErrA P K mg "NothingToRedo" (cs.getD 17 0) f17 [] ∧ ErrF P K (cs.getD 17 0) f17 "NothingToRedo.__init__" (defArgs i_NothingToRedo) (defBody i_NothingToRedo) (defScope i_NothingToRedo))
    {f18 : Addr} (h18 : ErrA P K mg "LineError" (cs.getD 18 0) f18 ["index", "line"] ∧ ErrF P K (cs.getD 18 0) f18 "LineError.__init__" (defArgs i_LineError) (defBody i_LineError) (defScope i_LineError))
    (tb : tabB K cs F0 = true) (z1 : PySem.W.nsIn K mainGlobals "isinstance" = some none) (z2 : PySem.W.nsIn K mainGlobals "ValueError" = some none) (z3 : PySem.W.nsIn K mainGlobals "range" = some none) : Er P K mg (fun i => cs.getD i 0) F0 := by
  unfold tabB at tb
  simp only [Bool.and_eq_true, List.all_eq_true, List.mem_range, decide_eq_true_eq] at tb
  obtain ⟨t1, t2⟩ := tb
  exact ⟨
    ⟨⟨_, _, i_BadName, h0.1, h0.2, sh_BadName⟩, ⟨by decide +kernel, by decide +kernel, by decide +kernel, by decide +kernel, by decide +kernel⟩⟩, ⟨⟨_, _, i_UnknownFork, h1.1, h1.2, sh_UnknownFork⟩, ⟨by decide +kernel, by decide +kernel, by decide +kernel, by decide +kernel, by decide +kernel⟩⟩, ⟨⟨_, _, i_RepeatedFork, h2.1, h2.2, sh_RepeatedFork⟩, ⟨by decide +kernel, by decide +kernel, by decide +kernel, by decide +kernel, by decide +kernel⟩⟩, ⟨⟨_, _, i_BadCount, h3.1, h3.2, sh_BadCount⟩, ⟨by decide +kernel, by decide +kernel, by decide +kernel, by decide +kernel, by decide +kernel⟩⟩, ⟨⟨_, _, i_BadLimit, h4.1, h4.2, sh_BadLimit⟩, ⟨by decide +kernel, by decide +kernel, by decide +kernel, by decide +kernel, by decide +kernel⟩⟩, ⟨⟨_, _, i_BadWord, h5.1, h5.2, sh_BadWord⟩, ⟨by decide +kernel, by decide +kernel, by decide +kernel, by decide +kernel, by decide +kernel⟩⟩, ⟨⟨_, _, i_BadText, h6.1, h6.2, sh_BadText⟩, ⟨by decide +kernel, by decide +kernel, by decide +kernel, by decide +kernel, by decide +kernel⟩⟩, ⟨⟨_, _, i_BadStep, h7.1, h7.2, sh_BadStep⟩, ⟨by decide +kernel, by decide +kernel, by decide +kernel, by decide +kernel, by decide +kernel⟩⟩, ⟨⟨_, _, i_BadLot, h8.1, h8.2, sh_BadLot⟩, ⟨by decide +kernel, by decide +kernel, by decide +kernel, by decide +kernel, by decide +kernel⟩⟩, ⟨⟨_, _, i_TooDeep, h9.1, h9.2, sh_TooDeep⟩, ⟨by decide +kernel, by decide +kernel, by decide +kernel, by decide +kernel, by decide +kernel⟩⟩, ⟨⟨_, _, i_TooMany, h10.1, h10.2, sh_TooMany⟩, ⟨by decide +kernel, by decide +kernel, by decide +kernel, by decide +kernel, by decide +kernel⟩, ⟨by decide +kernel, by decide +kernel, by decide +kernel, by decide +kernel, by decide +kernel⟩, by decide +kernel, by decide +kernel⟩, ⟨⟨_, _, i_Clash, h11.1, h11.2, sh_Clash⟩, ⟨by decide +kernel, by decide +kernel, by decide +kernel, by decide +kernel, by decide +kernel⟩⟩, ⟨⟨_, _, i_Apart, h12.1, h12.2, sh_Apart⟩, ⟨by decide +kernel, by decide +kernel, by decide +kernel, by decide +kernel, by decide +kernel⟩, ⟨by decide +kernel, by decide +kernel, by decide +kernel, by decide +kernel, by decide +kernel⟩, by decide +kernel, by decide +kernel⟩, ⟨⟨_, _, i_NoStrike, h13.1, h13.2, sh_NoStrike⟩, ⟨by decide +kernel, by decide +kernel, by decide +kernel, by decide +kernel, by decide +kernel⟩⟩, ⟨⟨_, _, i_NoBlock, h14.1, h14.2, sh_NoBlock⟩, ⟨by decide +kernel, by decide +kernel, by decide +kernel, by decide +kernel, by decide +kernel⟩⟩, ⟨⟨_, _, i_NoFitting, h15.1, h15.2, sh_NoFitting⟩⟩, ⟨⟨_, _, i_NothingToUndo, h16.1, h16.2, sh_NothingToUndo⟩⟩, ⟨⟨_, _, i_NothingToRedo, h17.1, h17.2, sh_NothingToRedo⟩⟩, ⟨⟨_, _, i_LineError, h18.1, h18.2, sh_LineError⟩, ⟨by decide +kernel, by decide +kernel, by decide +kernel, by decide +kernel, by decide +kernel⟩, ⟨by decide +kernel, by decide +kernel, by decide +kernel, by decide +kernel, by decide +kernel⟩, by decide +kernel, by decide +kernel⟩, PySem.W.mg_of X G gF, fun i hi j hj => (t1 i hi j hj).1, fun i hi => (t2 i hi).1, fun i hi j hj => (t1 i hi j hj).2, fun i hi => (t2 i hi).2, PySem.W.mg_none_of X G z1, PySem.W.mg_none_of X G z2, PySem.W.mg_none_of X G z3⟩
theorem all_mk {l : PySem.W.OpenLaw} {w : World} {K : PySem.W.Frag} {h : Heap} {mg : Str → Option Value} {fa : Addr} {cs : List Addr} {FE : Addr} (X : K.In h) (G : h.Ns mainGlobals mg) (hfa : mg "law" = some (.ref fa)) (E : Er l.prog K mg (fun i => cs.getD i 0) FE)
    {a0 : Addr} {oc0 kV0 dc0 pm0 cd0 ct0 : Value} {od0 an0 : Option Addr} {sl0 : Array (Option Value)} (g0 : PySem.W.nsIn K mainGlobals "_law_bag" = some (some (.ref a0))) (l0 : K.lookup a0 = some ⟨oc0, od0, .func (PySem.W.fnOf "_law_bag" "_law_bag" (defArgs s__law_bag) (defBody s__law_bag) (defScope s__law_bag) .none kV0 dc0 pm0 an0 cd0 ct0), sl0⟩) (c0 : PySem.W.codeIn K cd0 "_law_bag" = true) (k0 : PySem.W.keepIn K (.ref a0) = true)
    {a1 : Addr} {oc1 kV1 dc1 pm1 cd1 ct1 : Value} {od1 an1 : Option Addr} {sl1 : Array (Option Value)} (g1 : PySem.W.nsIn K mainGlobals "_law_mixed" = some (some (.ref a1))) (l1 : K.lookup a1 = some ⟨oc1, od1, .func (PySem.W.fnOf "_law_mixed" "_law_mixed" (defArgs s__law_mixed) (defBody s__law_mixed) (defScope s__law_mixed) .none kV1 dc1 pm1 an1 cd1 ct1), sl1⟩) (c1 : PySem.W.codeIn K cd1 "_law_mixed" = true) (k1 : PySem.W.keepIn K (.ref a1) = true)
    {a2 : Addr} {oc2 kV2 dc2 pm2 cd2 ct2 : Value} {od2 an2 : Option Addr} {sl2 : Array (Option Value)} (g2 : PySem.W.nsIn K mainGlobals "_law_take" = some (some (.ref a2))) (l2 : K.lookup a2 = some ⟨oc2, od2, .func (PySem.W.fnOf "_law_take" "_law_take" (defArgs s__law_take) (defBody s__law_take) (defScope s__law_take) .none kV2 dc2 pm2 an2 cd2 ct2), sl2⟩) (c2 : PySem.W.codeIn K cd2 "_law_take" = true) (k2 : PySem.W.keepIn K (.ref a2) = true)
    {a3 : Addr} {oc3 kV3 dc3 pm3 cd3 ct3 : Value} {od3 an3 : Option Addr} {sl3 : Array (Option Value)} (g3 : PySem.W.nsIn K mainGlobals "_law_name" = some (some (.ref a3))) (l3 : K.lookup a3 = some ⟨oc3, od3, .func (PySem.W.fnOf "_law_name" "_law_name" (defArgs s__law_name) (defBody s__law_name) (defScope s__law_name) .none kV3 dc3 pm3 an3 cd3 ct3), sl3⟩) (c3 : PySem.W.codeIn K cd3 "_law_name" = true) (k3 : PySem.W.keepIn K (.ref a3) = true)
    {a4 : Addr} {oc4 kV4 dc4 pm4 cd4 ct4 : Value} {od4 an4 : Option Addr} {sl4 : Array (Option Value)} (g4 : PySem.W.nsIn K mainGlobals "_law_pitch" = some (some (.ref a4))) (l4 : K.lookup a4 = some ⟨oc4, od4, .func (PySem.W.fnOf "_law_pitch" "_law_pitch" (defArgs s__law_pitch) (defBody s__law_pitch) (defScope s__law_pitch) .none kV4 dc4 pm4 an4 cd4 ct4), sl4⟩) (c4 : PySem.W.codeIn K cd4 "_law_pitch" = true) (k4 : PySem.W.keepIn K (.ref a4) = true)
    {a5 : Addr} {oc5 kV5 dc5 pm5 cd5 ct5 : Value} {od5 an5 : Option Addr} {sl5 : Array (Option Value)} (g5 : PySem.W.nsIn K mainGlobals "_law_early" = some (some (.ref a5))) (l5 : K.lookup a5 = some ⟨oc5, od5, .func (PySem.W.fnOf "_law_early" "_law_early" (defArgs s__law_early) (defBody s__law_early) (defScope s__law_early) .none kV5 dc5 pm5 an5 cd5 ct5), sl5⟩) (c5 : PySem.W.codeIn K cd5 "_law_early" = true) (k5 : PySem.W.keepIn K (.ref a5) = true)
    {a6 : Addr} {oc6 kV6 dc6 pm6 cd6 ct6 : Value} {od6 an6 : Option Addr} {sl6 : Array (Option Value)} (g6 : PySem.W.nsIn K mainGlobals "_law_late" = some (some (.ref a6))) (l6 : K.lookup a6 = some ⟨oc6, od6, .func (PySem.W.fnOf "_law_late" "_law_late" (defArgs s__law_late) (defBody s__law_late) (defScope s__law_late) .none kV6 dc6 pm6 an6 cd6 ct6), sl6⟩) (c6 : PySem.W.codeIn K cd6 "_law_late" = true) (k6 : PySem.W.keepIn K (.ref a6) = true)
    {a7 : Addr} {oc7 kV7 dc7 pm7 cd7 ct7 : Value} {od7 an7 : Option Addr} {sl7 : Array (Option Value)} (g7 : PySem.W.nsIn K mainGlobals "_law_raise" = some (some (.ref a7))) (l7 : K.lookup a7 = some ⟨oc7, od7, .func (PySem.W.fnOf "_law_raise" "_law_raise" (defArgs s__law_raise) (defBody s__law_raise) (defScope s__law_raise) .none kV7 dc7 pm7 an7 cd7 ct7), sl7⟩) (c7 : PySem.W.codeIn K cd7 "_law_raise" = true) (k7 : PySem.W.keepIn K (.ref a7) = true)
    {a8 : Addr} {oc8 kV8 dc8 pm8 cd8 ct8 : Value} {od8 an8 : Option Addr} {sl8 : Array (Option Value)} (g8 : PySem.W.nsIn K mainGlobals "_law_kept_early" = some (some (.ref a8))) (l8 : K.lookup a8 = some ⟨oc8, od8, .func (PySem.W.fnOf "_law_kept_early" "_law_kept_early" (defArgs s__law_kept_early) (defBody s__law_kept_early) (defScope s__law_kept_early) .none kV8 dc8 pm8 an8 cd8 ct8), sl8⟩) (c8 : PySem.W.codeIn K cd8 "_law_kept_early" = true) (k8 : PySem.W.keepIn K (.ref a8) = true)
    {a9 : Addr} {oc9 kV9 dc9 pm9 cd9 ct9 : Value} {od9 an9 : Option Addr} {sl9 : Array (Option Value)} (g9 : PySem.W.nsIn K mainGlobals "_law_kept_late" = some (some (.ref a9))) (l9 : K.lookup a9 = some ⟨oc9, od9, .func (PySem.W.fnOf "_law_kept_late" "_law_kept_late" (defArgs s__law_kept_late) (defBody s__law_kept_late) (defScope s__law_kept_late) .none kV9 dc9 pm9 an9 cd9 ct9), sl9⟩) (c9 : PySem.W.codeIn K cd9 "_law_kept_late" = true) (k9 : PySem.W.keepIn K (.ref a9) = true)
    {a10 : Addr} {oc10 kV10 dc10 pm10 cd10 ct10 : Value} {od10 an10 : Option Addr} {sl10 : Array (Option Value)} (g10 : PySem.W.nsIn K mainGlobals "_law_kinds" = some (some (.ref a10))) (l10 : K.lookup a10 = some ⟨oc10, od10, .func (PySem.W.fnOf "_law_kinds" "_law_kinds" (defArgs s__law_kinds) (defBody s__law_kinds) (defScope s__law_kinds) .none kV10 dc10 pm10 an10 cd10 ct10), sl10⟩) (c10 : PySem.W.codeIn K cd10 "_law_kinds" = true) (k10 : PySem.W.keepIn K (.ref a10) = true)
    {a11 : Addr} {oc11 kV11 dc11 pm11 cd11 ct11 : Value} {od11 an11 : Option Addr} {sl11 : Array (Option Value)} (g11 : PySem.W.nsIn K mainGlobals "law" = some (some (.ref a11))) (l11 : K.lookup a11 = some ⟨oc11, od11, .func (PySem.W.fnOf "law" "law" (defArgs s_law) (defBody s_law) (defScope s_law) .none kV11 dc11 pm11 an11 cd11 ct11), sl11⟩) (c11 : PySem.W.codeIn K cd11 "law" = true) (k11 : PySem.W.keepIn K (.ref a11) = true)
    (y1 : PySem.W.nsIn K mainGlobals "len" = some none) (y2 : PySem.W.nsIn K mainGlobals "abs" = some none) (y3 : PySem.W.nsIn K mainGlobals "max" = some none) (y4 : PySem.W.nsIn K mainGlobals "int" = some none) (y5 : PySem.W.nsIn K mainGlobals "range" = some none) :
    ∃ fd : FuncData, (∀ (s : Shared) (v : Value), BindsTo s fd ⟨[v], []⟩ [("_law_script", v)]) ∧ ∀ base : Heap, K.In base → base.Ns mainGlobals mg → FnOk l.prog w K mg base CX0 6 fa fd ["_law_script"] (spLaw K) := by
  have e := hfa.symm.trans (PySem.W.mg_of X G g11)
  cases e
  have T : Bn mg := ⟨PySem.W.mg_none_of X G y1, PySem.W.mg_none_of X G y2, PySem.W.mg_none_of X G y3, PySem.W.mg_none_of X G y4, PySem.W.mg_none_of X G y5⟩
  have F0 := fun_mk (st := s__law_bag) l0 c0 k0
  have b0 := F0.binds (ps := ["_law_script"]) fun _ _ _ _ _ _ us hl => match us, hl with | [_], _ => rfl
  have F1 := fun_mk (st := s__law_mixed) l1 c1 k1
  have b1 := F1.binds (ps := ["_law_cell", "_law_turn"]) fun _ _ _ _ _ _ us hl => match us, hl with | [_, _], _ => rfl
  have F2 := fun_mk (st := s__law_take) l2 c2 k2
  have b2 := F2.binds (ps := ["_law_bag_here", "_law_many"]) fun _ _ _ _ _ _ us hl => match us, hl with | [_, _], _ => rfl
  have F3 := fun_mk (st := s__law_name) l3 c3 k3
  have b3 := F3.binds (ps := ["_law_bag_here", "_law_names"]) fun _ _ _ _ _ _ us hl => match us, hl with | [_, _], _ => rfl
  have F4 := fun_mk (st := s__law_pitch) l4 c4 k4
  have b4 := F4.binds (ps := ["_law_bag_here"]) fun _ _ _ _ _ _ us hl => match us, hl with | [_], _ => rfl
  have F5 := fun_mk (st := s__law_early) l5 c5 k5
  have b5 := F5.binds (ps := ["_law_way", "_law_name_here", "_law_other", "_law_number"]) fun _ _ _ _ _ _ us hl => match us, hl with | [_, _, _, _], _ => rfl
  have F6 := fun_mk (st := s__law_late) l6 c6 k6
  have b6 := F6.binds (ps := ["_law_way", "_law_name_here", "_law_other", "_law_number"]) fun _ _ _ _ _ _ us hl => match us, hl with | [_, _, _, _], _ => rfl
  have F7 := fun_mk (st := s__law_raise) l7 c7 k7
  have b7 := F7.binds (ps := ["_law_way", "_law_name_here", "_law_other", "_law_number"]) fun _ _ _ _ _ _ us hl => match us, hl with | [_, _, _, _], _ => rfl
  have F8 := fun_mk (st := s__law_kept_early) l8 c8 k8
  have b8 := F8.binds (ps := ["_law_way", "_law_name_here", "_law_other", "_law_number"]) fun _ _ _ _ _ _ us hl => match us, hl with | [_, _, _, _], _ => rfl
  have F9 := fun_mk (st := s__law_kept_late) l9 c9 k9
  have b9 := F9.binds (ps := ["_law_way", "_law_name_here", "_law_other", "_law_number"]) fun _ _ _ _ _ _ us hl => match us, hl with | [_, _, _, _], _ => rfl
  have F10 := fun_mk (st := s__law_kinds) l10 c10 k10
  have b10 := F10.binds (ps := ["_law_way", "_law_name_here", "_law_other", "_law_number"]) fun _ _ _ _ _ _ us hl => match us, hl with | [_, _, _, _], _ => rfl
  have F11 := fun_mk (st := s_law) l11 c11 k11
  refine ⟨PySem.W.fnOf "law" "law" (defArgs s_law) (defBody s_law) (defScope s_law) .none kV11 dc11 pm11 an11 cd11 ct11, fun s v => .of_eq rfl, fun base _ _ => ?_⟩
  have m0 : C8.Cal l.prog w K mg base 1 "_law_bag" (spBag K) [] := ⟨_, _, _, [], ok_bag F0 T, PySem.W.mg_of X G g0, k0, b0, .nil⟩
  have m1 : C8.Cal l.prog w K mg base 1 "_law_mixed" spMixed [] := ⟨_, _, _, [], ok_mixed F1 T, PySem.W.mg_of X G g1, k1, b1, .nil⟩
  have m2 : C8.Cal l.prog w K mg base 2 "_law_take" spTake [] := ⟨_, _, _, [], ok_take F2 T m1, PySem.W.mg_of X G g2, k2, b2, .nil⟩
  have m3 : C8.Cal l.prog w K mg base 3 "_law_name" spName [] := ⟨_, _, _, [], ok_name F3 T m2, PySem.W.mg_of X G g3, k3, b3, .nil⟩
  have m4 : C8.Cal l.prog w K mg base 3 "_law_pitch" spPitch [] := ⟨_, _, _, [], ok_pitch F4 m2, PySem.W.mg_of X G g4, k4, b4, .nil⟩
  have m5 : CalX l.prog w K mg base 3 "_law_early" (spWay (fun i => cs.getD i 0) 0 10) := ⟨_, _, _, ok_early F5 E, PySem.W.mg_of X G g5, k5, b5⟩
  have m6 : CalX l.prog w K mg base 3 "_law_late" (spWay (fun i => cs.getD i 0) 10 19) := ⟨_, _, _, ok_late F6 E, PySem.W.mg_of X G g6, k6, b6⟩
  have m7 : CalX l.prog w K mg base 4 "_law_raise" (spWay (fun i => cs.getD i 0) 0 19) := ⟨_, _, _, ok_raise (F0 := FE) F7 m5 m6, PySem.W.mg_of X G g7, k7, b7⟩
  have m8 : C8.Cal l.prog w K mg base 4 "_law_kept_early" (spKept 0 10) [] := ⟨_, _, _, [], ok_kept_early F8 E m5, PySem.W.mg_of X G g8, k8, b8, .nil⟩
  have m9 : C8.Cal l.prog w K mg base 4 "_law_kept_late" (spKept 10 19) [] := ⟨_, _, _, [], ok_kept_late F9 E m6, PySem.W.mg_of X G g9, k9, b9, .nil⟩
  have m10 : C8.Cal l.prog w K mg base 5 "_law_kinds" spKinds [] := ⟨_, _, _, [], ok_kinds F10 E m7, PySem.W.mg_of X G g10, k10, b10, .nil⟩
  exact ok_law F11 ⟨T.b_range⟩ m0 m3 m4 m10 m8 m9
end Fk

open PySem PySem.W PyProof.Rows
set_option maxHeartbeats 0
open_top head for PySem.Challenge.rw_forkbeats_k93_error_classes
theorem PySem.Challenge.cw_forkbeats_k93_error_classes_holds : PySem.Challenge.rw_forkbeats_k93_error_classes.Holds := by
  refine head ?_
  k_fill
  refine L2.walk_of (l := PySem.Challenge.rw_forkbeats_k93_error_classes) (n := 63) (k := 6) (x := "_law_script") (CX := fun _ => L2.CX0) (sp := fun w => Fk.spLaw _) rfl (by decide) rfl ⟨rfl, by decide, by decide⟩ (fun w h Y => PySem.W.kIn_of Y) ?F (fun _ _ a ns hl _ hS => ⟨a, ns, rfl, hS, hl, fun _ => rfl⟩) fun _ _ _ _ _ z => z
  case F =>
    intro w mg fa h KX G hmg
    have su : mg "super" = none := by
      refine PySem.W.mg_none_of KX G ?z
      (case z => k_is)
    have h0 : ∃ fI, L2.ErrA PySem.Challenge.rw_forkbeats_k93_error_classes.prog (head.heap_39 w.params) mg "BadName" 46 fI ["name"] ∧ PySem.OwnX.ErrF PySem.Challenge.rw_forkbeats_k93_error_classes.prog (head.heap_39 w.params) 46 fI "BadName.__init__" (L2.defArgs Fk.i_BadName) (L2.defBody Fk.i_BadName) (L2.defScope Fk.i_BadName) := by
      refine' ⟨_, PySem.OwnX.err_of (st := Fk.i_BadName) KX G ?aC ?iC ?lC ?rV ?lF ?cF ?lD ?vD ?fD ?lL ?B su ?tp⟩
      (case aC => k_is); (case iC => k_is); (case lC => k_is); (case rV => kernel_rfl); (case lF => k_is); (case cF => k_is); (case lD => k_is); (case vD => rfl); (case fD => kernel_rfl); (case lL => k_is); (case B => kernel_rfl); (case tp => kernel_rfl)
    have h1 : ∃ fI, L2.ErrA PySem.Challenge.rw_forkbeats_k93_error_classes.prog (head.heap_39 w.params) mg "UnknownFork" 67 fI ["name"] ∧ PySem.OwnX.ErrF PySem.Challenge.rw_forkbeats_k93_error_classes.prog (head.heap_39 w.params) 67 fI "UnknownFork.__init__" (L2.defArgs Fk.i_UnknownFork) (L2.defBody Fk.i_UnknownFork) (L2.defScope Fk.i_UnknownFork) := by
      refine' ⟨_, PySem.OwnX.err_of (st := Fk.i_UnknownFork) KX G ?aC ?iC ?lC ?rV ?lF ?cF ?lD ?vD ?fD ?lL ?B su ?tp⟩
      (case aC => k_is); (case iC => k_is); (case lC => k_is); (case rV => kernel_rfl); (case lF => k_is); (case cF => k_is); (case lD => k_is); (case vD => rfl); (case fD => kernel_rfl); (case lL => k_is); (case B => kernel_rfl); (case tp => kernel_rfl)
    have h2 : ∃ fI, L2.ErrA PySem.Challenge.rw_forkbeats_k93_error_classes.prog (head.heap_39 w.params) mg "RepeatedFork" 88 fI ["name"] ∧ PySem.OwnX.ErrF PySem.Challenge.rw_forkbeats_k93_error_classes.prog (head.heap_39 w.params) 88 fI "RepeatedFork.__init__" (L2.defArgs Fk.i_RepeatedFork) (L2.defBody Fk.i_RepeatedFork) (L2.defScope Fk.i_RepeatedFork) := by
      refine' ⟨_, PySem.OwnX.err_of (st := Fk.i_RepeatedFork) KX G ?aC ?iC ?lC ?rV ?lF ?cF ?lD ?vD ?fD ?lL ?B su ?tp⟩
      (case aC => k_is); (case iC => k_is); (case lC => k_is); (case rV => kernel_rfl); (case lF => k_is); (case cF => k_is); (case lD => k_is); (case vD => rfl); (case fD => kernel_rfl); (case lL => k_is); (case B => kernel_rfl); (case tp => kernel_rfl)
    have h3 : ∃ fI, L2.ErrA PySem.Challenge.rw_forkbeats_k93_error_classes.prog (head.heap_39 w.params) mg "BadCount" 109 fI ["count"] ∧ PySem.OwnX.ErrF PySem.Challenge.rw_forkbeats_k93_error_classes.prog (head.heap_39 w.params) 109 fI "BadCount.__init__" (L2.defArgs Fk.i_BadCount) (L2.defBody Fk.i_BadCount) (L2.defScope Fk.i_BadCount) := by
      refine' ⟨_, PySem.OwnX.err_of (st := Fk.i_BadCount) KX G ?aC ?iC ?lC ?rV ?lF ?cF ?lD ?vD ?fD ?lL ?B su ?tp⟩
      (case aC => k_is); (case iC => k_is); (case lC => k_is); (case rV => kernel_rfl); (case lF => k_is); (case cF => k_is); (case lD => k_is); (case vD => rfl); (case fD => kernel_rfl); (case lL => k_is); (case B => kernel_rfl); (case tp => kernel_rfl)
    have h4 : ∃ fI, L2.ErrA PySem.Challenge.rw_forkbeats_k93_error_classes.prog (head.heap_39 w.params) mg "BadLimit" 130 fI ["value"] ∧ PySem.OwnX.ErrF PySem.Challenge.rw_forkbeats_k93_error_classes.prog (head.heap_39 w.params) 130 fI "BadLimit.__init__" (L2.defArgs Fk.i_BadLimit) (L2.defBody Fk.i_BadLimit) (L2.defScope Fk.i_BadLimit) := by
      refine' ⟨_, PySem.OwnX.err_of (st := Fk.i_BadLimit) KX G ?aC ?iC ?lC ?rV ?lF ?cF ?lD ?vD ?fD ?lL ?B su ?tp⟩
      (case aC => k_is); (case iC => k_is); (case lC => k_is); (case rV => kernel_rfl); (case lF => k_is); (case cF => k_is); (case lD => k_is); (case vD => rfl); (case fD => kernel_rfl); (case lL => k_is); (case B => kernel_rfl); (case tp => kernel_rfl)
    have h5 : ∃ fI, L2.ErrA PySem.Challenge.rw_forkbeats_k93_error_classes.prog (head.heap_39 w.params) mg "BadWord" 151 fI ["word"] ∧ PySem.OwnX.ErrF PySem.Challenge.rw_forkbeats_k93_error_classes.prog (head.heap_39 w.params) 151 fI "BadWord.__init__" (L2.defArgs Fk.i_BadWord) (L2.defBody Fk.i_BadWord) (L2.defScope Fk.i_BadWord) := by
      refine' ⟨_, PySem.OwnX.err_of (st := Fk.i_BadWord) KX G ?aC ?iC ?lC ?rV ?lF ?cF ?lD ?vD ?fD ?lL ?B su ?tp⟩
      (case aC => k_is); (case iC => k_is); (case lC => k_is); (case rV => kernel_rfl); (case lF => k_is); (case cF => k_is); (case lD => k_is); (case vD => rfl); (case fD => kernel_rfl); (case lL => k_is); (case B => kernel_rfl); (case tp => kernel_rfl)
    have h6 : ∃ fI, L2.ErrA PySem.Challenge.rw_forkbeats_k93_error_classes.prog (head.heap_39 w.params) mg "BadText" 172 fI ["text"] ∧ PySem.OwnX.ErrF PySem.Challenge.rw_forkbeats_k93_error_classes.prog (head.heap_39 w.params) 172 fI "BadText.__init__" (L2.defArgs Fk.i_BadText) (L2.defBody Fk.i_BadText) (L2.defScope Fk.i_BadText) := by
      refine' ⟨_, PySem.OwnX.err_of (st := Fk.i_BadText) KX G ?aC ?iC ?lC ?rV ?lF ?cF ?lD ?vD ?fD ?lL ?B su ?tp⟩
      (case aC => k_is); (case iC => k_is); (case lC => k_is); (case rV => kernel_rfl); (case lF => k_is); (case cF => k_is); (case lD => k_is); (case vD => rfl); (case fD => kernel_rfl); (case lL => k_is); (case B => kernel_rfl); (case tp => kernel_rfl)
    have h7 : ∃ fI, L2.ErrA PySem.Challenge.rw_forkbeats_k93_error_classes.prog (head.heap_39 w.params) mg "BadStep" 193 fI ["step"] ∧ PySem.OwnX.ErrF PySem.Challenge.rw_forkbeats_k93_error_classes.prog (head.heap_39 w.params) 193 fI "BadStep.__init__" (L2.defArgs Fk.i_BadStep) (L2.defBody Fk.i_BadStep) (L2.defScope Fk.i_BadStep) := by
      refine' ⟨_, PySem.OwnX.err_of (st := Fk.i_BadStep) KX G ?aC ?iC ?lC ?rV ?lF ?cF ?lD ?vD ?fD ?lL ?B su ?tp⟩
      (case aC => k_is); (case iC => k_is); (case lC => k_is); (case rV => kernel_rfl); (case lF => k_is); (case cF => k_is); (case lD => k_is); (case vD => rfl); (case fD => kernel_rfl); (case lL => k_is); (case B => kernel_rfl); (case tp => kernel_rfl)
    have h8 : ∃ fI, L2.ErrA PySem.Challenge.rw_forkbeats_k93_error_classes.prog (head.heap_39 w.params) mg "BadLot" 214 fI ["size"] ∧ PySem.OwnX.ErrF PySem.Challenge.rw_forkbeats_k93_error_classes.prog (head.heap_39 w.params) 214 fI "BadLot.__init__" (L2.defArgs Fk.i_BadLot) (L2.defBody Fk.i_BadLot) (L2.defScope Fk.i_BadLot) := by
      refine' ⟨_, PySem.OwnX.err_of (st := Fk.i_BadLot) KX G ?aC ?iC ?lC ?rV ?lF ?cF ?lD ?vD ?fD ?lL ?B su ?tp⟩
      (case aC => k_is); (case iC => k_is); (case lC => k_is); (case rV => kernel_rfl); (case lF => k_is); (case cF => k_is); (case lD => k_is); (case vD => rfl); (case fD => kernel_rfl); (case lL => k_is); (case B => kernel_rfl); (case tp => kernel_rfl)
    have h9 : ∃ fI, L2.ErrA PySem.Challenge.rw_forkbeats_k93_error_classes.prog (head.heap_39 w.params) mg "TooDeep" 235 fI ["depth"] ∧ PySem.OwnX.ErrF PySem.Challenge.rw_forkbeats_k93_error_classes.prog (head.heap_39 w.params) 235 fI "TooDeep.__init__" (L2.defArgs Fk.i_TooDeep) (L2.defBody Fk.i_TooDeep) (L2.defScope Fk.i_TooDeep) := by
      refine' ⟨_, PySem.OwnX.err_of (st := Fk.i_TooDeep) KX G ?aC ?iC ?lC ?rV ?lF ?cF ?lD ?vD ?fD ?lL ?B su ?tp⟩
      (case aC => k_is); (case iC => k_is); (case lC => k_is); (case rV => kernel_rfl); (case lF => k_is); (case cF => k_is); (case lD => k_is); (case vD => rfl); (case fD => kernel_rfl); (case lL => k_is); (case B => kernel_rfl); (case tp => kernel_rfl)
    have h10 : ∃ fI, L2.ErrA PySem.Challenge.rw_forkbeats_k93_error_classes.prog (head.heap_39 w.params) mg "TooMany" 256 fI ["what", "most"] ∧ PySem.OwnX.ErrF PySem.Challenge.rw_forkbeats_k93_error_classes.prog (head.heap_39 w.params) 256 fI "TooMany.__init__" (L2.defArgs Fk.i_TooMany) (L2.defBody Fk.i_TooMany) (L2.defScope Fk.i_TooMany) := by
      refine' ⟨_, PySem.OwnX.err_of (st := Fk.i_TooMany) KX G ?aC ?iC ?lC ?rV ?lF ?cF ?lD ?vD ?fD ?lL ?B su ?tp⟩
      (case aC => k_is); (case iC => k_is); (case lC => k_is); (case rV => kernel_rfl); (case lF => k_is); (case cF => k_is); (case lD => k_is); (case vD => rfl); (case fD => kernel_rfl); (case lL => k_is); (case B => kernel_rfl); (case tp => kernel_rfl)
    have h11 : ∃ fI, L2.ErrA PySem.Challenge.rw_forkbeats_k93_error_classes.prog (head.heap_39 w.params) mg "Clash" 277 fI ["name"] ∧ PySem.OwnX.ErrF PySem.Challenge.rw_forkbeats_k93_error_classes.prog (head.heap_39 w.params) 277 fI "Clash.__init__" (L2.defArgs Fk.i_Clash) (L2.defBody Fk.i_Clash) (L2.defScope Fk.i_Clash) := by
      refine' ⟨_, PySem.OwnX.err_of (st := Fk.i_Clash) KX G ?aC ?iC ?lC ?rV ?lF ?cF ?lD ?vD ?fD ?lL ?B su ?tp⟩
      (case aC => k_is); (case iC => k_is); (case lC => k_is); (case rV => kernel_rfl); (case lF => k_is); (case cF => k_is); (case lD => k_is); (case vD => rfl); (case fD => kernel_rfl); (case lL => k_is); (case B => kernel_rfl); (case tp => kernel_rfl)
    have h12 : ∃ fI, L2.ErrA PySem.Challenge.rw_forkbeats_k93_error_classes.prog (head.heap_39 w.params) mg "Apart" 298 fI ["first", "second"] ∧ PySem.OwnX.ErrF PySem.Challenge.rw_forkbeats_k93_error_classes.prog (head.heap_39 w.params) 298 fI "Apart.__init__" (L2.defArgs Fk.i_Apart) (L2.defBody Fk.i_Apart) (L2.defScope Fk.i_Apart) := by
      refine' ⟨_, PySem.OwnX.err_of (st := Fk.i_Apart) KX G ?aC ?iC ?lC ?rV ?lF ?cF ?lD ?vD ?fD ?lL ?B su ?tp⟩
      (case aC => k_is); (case iC => k_is); (case lC => k_is); (case rV => kernel_rfl); (case lF => k_is); (case cF => k_is); (case lD => k_is); (case vD => rfl); (case fD => kernel_rfl); (case lL => k_is); (case B => kernel_rfl); (case tp => kernel_rfl)
    have h13 : ∃ fI, L2.ErrA PySem.Challenge.rw_forkbeats_k93_error_classes.prog (head.heap_39 w.params) mg "NoStrike" 319 fI ["index"] ∧ PySem.OwnX.ErrF PySem.Challenge.rw_forkbeats_k93_error_classes.prog (head.heap_39 w.params) 319 fI "NoStrike.__init__" (L2.defArgs Fk.i_NoStrike) (L2.defBody Fk.i_NoStrike) (L2.defScope Fk.i_NoStrike) := by
      refine' ⟨_, PySem.OwnX.err_of (st := Fk.i_NoStrike) KX G ?aC ?iC ?lC ?rV ?lF ?cF ?lD ?vD ?fD ?lL ?B su ?tp⟩
      (case aC => k_is); (case iC => k_is); (case lC => k_is); (case rV => kernel_rfl); (case lF => k_is); (case cF => k_is); (case lD => k_is); (case vD => rfl); (case fD => kernel_rfl); (case lL => k_is); (case B => kernel_rfl); (case tp => kernel_rfl)
    have h14 : ∃ fI, L2.ErrA PySem.Challenge.rw_forkbeats_k93_error_classes.prog (head.heap_39 w.params) mg "NoBlock" 340 fI ["index"] ∧ PySem.OwnX.ErrF PySem.Challenge.rw_forkbeats_k93_error_classes.prog (head.heap_39 w.params) 340 fI "NoBlock.__init__" (L2.defArgs Fk.i_NoBlock) (L2.defBody Fk.i_NoBlock) (L2.defScope Fk.i_NoBlock) := by
      refine' ⟨_, PySem.OwnX.err_of (st := Fk.i_NoBlock) KX G ?aC ?iC ?lC ?rV ?lF ?cF ?lD ?vD ?fD ?lL ?B su ?tp⟩
      (case aC => k_is); (case iC => k_is); (case lC => k_is); (case rV => kernel_rfl); (case lF => k_is); (case cF => k_is); (case lD => k_is); (case vD => rfl); (case fD => kernel_rfl); (case lL => k_is); (case B => kernel_rfl); (case tp => kernel_rfl)
    have h15 : ∃ fI, L2.ErrA PySem.Challenge.rw_forkbeats_k93_error_classes.prog (head.heap_39 w.params) mg "NoFitting" 361 fI [] ∧ PySem.OwnX.ErrF PySem.Challenge.rw_forkbeats_k93_error_classes.prog (head.heap_39 w.params) 361 fI "NoFitting.__init__" (L2.defArgs Fk.i_NoFitting) (L2.defBody Fk.i_NoFitting) (L2.defScope Fk.i_NoFitting) := by
      refine' ⟨_, PySem.OwnX.err_of (st := Fk.i_NoFitting) KX G ?aC ?iC ?lC ?rV ?lF ?cF ?lD ?vD ?fD ?lL ?B su ?tp⟩
      (case aC => k_is); (case iC => k_is); (case lC => k_is); (case rV => kernel_rfl); (case lF => k_is); (case cF => k_is); (case lD => k_is); (case vD => rfl); (case fD => kernel_rfl); (case lL => k_is); (case B => kernel_rfl); (case tp => kernel_rfl)
    have h16 : ∃ fI, L2.ErrA PySem.Challenge.rw_forkbeats_k93_error_classes.prog (head.heap_39 w.params) mg "NothingToUndo" 382 fI [] ∧ PySem.OwnX.ErrF PySem.Challenge.rw_forkbeats_k93_error_classes.prog (head.heap_39 w.params) 382 fI "NothingToUndo.__init__" (L2.defArgs Fk.i_NothingToUndo) (L2.defBody Fk.i_NothingToUndo) (L2.defScope Fk.i_NothingToUndo) := by
      refine' ⟨_, PySem.OwnX.err_of (st := Fk.i_NothingToUndo) KX G ?aC ?iC ?lC ?rV ?lF ?cF ?lD ?vD ?fD ?lL ?B su ?tp⟩
      (case aC => k_is); (case iC => k_is); (case lC => k_is); (case rV => kernel_rfl); (case lF => k_is); (case cF => k_is); (case lD => k_is); (case vD => rfl); (case fD => kernel_rfl); (case lL => k_is); (case B => kernel_rfl); (case tp => kernel_rfl)
    have h17 : ∃ fI, L2.ErrA PySem.Challenge.rw_forkbeats_k93_error_classes.prog (head.heap_39 w.params) mg "NothingToRedo" 403 fI [] ∧ PySem.OwnX.ErrF PySem.Challenge.rw_forkbeats_k93_error_classes.prog (head.heap_39 w.params) 403 fI "NothingToRedo.__init__" (L2.defArgs Fk.i_NothingToRedo) (L2.defBody Fk.i_NothingToRedo) (L2.defScope Fk.i_NothingToRedo) := by
      refine' ⟨_, PySem.OwnX.err_of (st := Fk.i_NothingToRedo) KX G ?aC ?iC ?lC ?rV ?lF ?cF ?lD ?vD ?fD ?lL ?B su ?tp⟩
      (case aC => k_is); (case iC => k_is); (case lC => k_is); (case rV => kernel_rfl); (case lF => k_is); (case cF => k_is); (case lD => k_is); (case vD => rfl); (case fD => kernel_rfl); (case lL => k_is); (case B => kernel_rfl); (case tp => kernel_rfl)
    have h18 : ∃ fI, L2.ErrA PySem.Challenge.rw_forkbeats_k93_error_classes.prog (head.heap_39 w.params) mg "LineError" 424 fI ["index", "line"] ∧ PySem.OwnX.ErrF PySem.Challenge.rw_forkbeats_k93_error_classes.prog (head.heap_39 w.params) 424 fI "LineError.__init__" (L2.defArgs Fk.i_LineError) (L2.defBody Fk.i_LineError) (L2.defScope Fk.i_LineError) := by
      refine' ⟨_, PySem.OwnX.err_of (st := Fk.i_LineError) KX G ?aC ?iC ?lC ?rV ?lF ?cF ?lD ?vD ?fD ?lL ?B su ?tp⟩
      (case aC => k_is); (case iC => k_is); (case lC => k_is); (case rV => kernel_rfl); (case lF => k_is); (case cF => k_is); (case lD => k_is); (case vD => rfl); (case fD => kernel_rfl); (case lL => k_is); (case B => kernel_rfl); (case tp => kernel_rfl)
    obtain ⟨f0, h0⟩ := h0
    obtain ⟨f1, h1⟩ := h1
    obtain ⟨f2, h2⟩ := h2
    obtain ⟨f3, h3⟩ := h3
    obtain ⟨f4, h4⟩ := h4
    obtain ⟨f5, h5⟩ := h5
    obtain ⟨f6, h6⟩ := h6
    obtain ⟨f7, h7⟩ := h7
    obtain ⟨f8, h8⟩ := h8
    obtain ⟨f9, h9⟩ := h9
    obtain ⟨f10, h10⟩ := h10
    obtain ⟨f11, h11⟩ := h11
    obtain ⟨f12, h12⟩ := h12
    obtain ⟨f13, h13⟩ := h13
    obtain ⟨f14, h14⟩ := h14
    obtain ⟨f15, h15⟩ := h15
    obtain ⟨f16, h16⟩ := h16
    obtain ⟨f17, h17⟩ := h17
    obtain ⟨f18, h18⟩ := h18
    have E : Fk.Er PySem.Challenge.rw_forkbeats_k93_error_classes.prog (head.heap_39 w.params) mg (fun i => ([46, 67, 88, 109, 130, 151, 172, 193, 214, 235, 256, 277, 298, 319, 340, 361, 382, 403, 424] : List Addr).getD i 0) 24 := by
      refine' Fk.er_of KX G ?gF h0 h1 h2 h3 h4 h5 h6 h7 h8 h9 h10 h11 h12 h13 h14 h15 h16 h17 h18 ?tb ?z1 ?z2 ?z3
      (case gF => k_is); (case tb => kernel_rfl); (case z1 => k_is); (case z2 => k_is); (case z3 => k_is)
    refine' Fk.all_mk KX G hmg E ?g0 ?l0 ?c0 ?k0 ?g1 ?l1 ?c1 ?k1 ?g2 ?l2 ?c2 ?k2 ?g3 ?l3 ?c3 ?k3 ?g4 ?l4 ?c4 ?k4 ?g5 ?l5 ?c5 ?k5 ?g6 ?l6 ?c6 ?k6 ?g7 ?l7 ?c7 ?k7 ?g8 ?l8 ?c8 ?k8 ?g9 ?l9 ?c9 ?k9 ?g10 ?l10 ?c10 ?k10 ?g11 ?l11 ?c11 ?k11 ?y1 ?y2 ?y3 ?y4 ?y5
    (case g0 => k_is); (case l0 => k_is); (case c0 => k_is); (case k0 => k_is)
    (case g1 => k_is); (case l1 => k_is); (case c1 => k_is); (case k1 => k_is)
    (case g2 => k_is); (case l2 => k_is); (case c2 => k_is); (case k2 => k_is)
    (case g3 => k_is); (case l3 => k_is); (case c3 => k_is); (case k3 => k_is)
    (case g4 => k_is); (case l4 => k_is); (case c4 => k_is); (case k4 => k_is)
    (case g5 => k_is); (case l5 => k_is); (case c5 => k_is); (case k5 => k_is)
    (case g6 => k_is); (case l6 => k_is); (case c6 => k_is); (case k6 => k_is)
    (case g7 => k_is); (case l7 => k_is); (case c7 => k_is); (case k7 => k_is)
    (case g8 => k_is); (case l8 => k_is); (case c8 => k_is); (case k8 => k_is)
    (case g9 => k_is); (case l9 => k_is); (case c9 => k_is); (case k9 => k_is)
    (case g10 => k_is); (case l10 => k_is); (case c10 => k_is); (case k10 => k_is)
    (case g11 => k_is); (case l11 => k_is); (case c11 => k_is); (case k11 => k_is)
    (case y1 => k_is); (case y2 => k_is); (case y3 => k_is); (case y4 => k_is); (case y5 => k_is)
#print axioms PySem.Challenge.cw_forkbeats_k93_error_classes_holds
