import PyProof.Rows.All
import Wide.All
import OpenK.AllK
import Wide.FinOn
import KE.KExcSuper
import HandS.ExcInit
import HandS.ExcCtx
import HandS.ForExc
import HandS.TryMany
import HandS.ExcField
import HandS.ExcIs
import HandS.WordsExc
import KE.KExcIs
import HandS.HotCalls
import HandS.Comp
import HandS.Conv
import HandS.Iter
import KE.KDictList
import HandS.Call
import HandS.Codes
import OpenK.KMeth
import OpenK.KOps
import KE.KOpsOwn
import HandS.List
import HandS.DictComp
import KE.KOwnIter
import HandS.IterVal
import HandS.More
import HandS.Star
import HandS.ClsMeth
import HandS.Defaults
import KE.KParD
import HandS.MakeKwOnly
import HandS.MakeKw
import HandS.Property
import HandS.TupAny
import HandS.ForMost
import HandS.Strs
import HandS.Walk
import KE.KCallOwn
import HandS.FStr
import KE.KIntText
import PyProof.Rows.StrBin
import PyProof.StrLawsTight
import PyProof.StrLawsAffix
import PyProof.Rows.StrNews2
import HandS.SetBool
import HandS.SetFor
import HandS.Wide
import HandS.IsInst
import HandS.StrMore
import PyProof.StrLawsRepr
import HandS.HeadNt
import PySem.Challenge.RW_forkbeats_k47_rises
set_option Elab.async false
set_option linter.all false
set_option maxRecDepth 100000
set_option maxHeartbeats 4000000
/-! own errors whose __init__ first says super().__init__(text) -/
namespace PySem
namespace OwnX
open PySem.W PySem.Calls PyProof.Rows PySem.HandSPX

section
variable {prog : Program} {w : World} {A : Around} {E : Value → Shared → Prop} {h : Heap} {g : Array GenState} {d : Drawn} {t : Nat} {os : OsState}
variable {nm q : Str} {C N : Addr} {bs bm : List Value} {sn : List Str} {sub : List Value} {ab : Bool} {col : Option Bool} {dd : Option Addr} {k0 k1 k2 k3 k5 : Option Value}

theorem bw_call {u x t0 : Addr} {rest : List Value} {Q : Value → Shared → Prop}
    (hC : h.get? C = some (excClassObj nm q C N bs bm true sn sub ab col dd k0 k1 k2 k3 k5 "ValueError.__new__")) (he : h.get? x = some (excO C t0)) (hu : h.get? u = some (kxs_mw "ValueError.__init__" x)) (hrest : rest.length ≤ sizeLine)
    (hq : ∀ h' t1, (∀ b o, b ≠ x → h.get? b = some o → h'.get? b = some o) → h'.get? x = some (excO C t1) → Q .none ⟨h', g, d, t, os⟩) :
    wpAny (model prog w) A (call (.ref u) rest) Q E ⟨h, g, d, t, os⟩ := by
  refine wpAny_call (codeAny_of_tree ?_)
  show wpAny _ A.in1 (callAny (.ref u) ⟨rest, []⟩) _ _ _
  simp only [callAny]
  refine wpAny_bind (wpAny_load hu ?_)
  simp only [kxs_mw, show (Value.type "method-wrapper" == Value.type "method" || Value.type "method-wrapper" == Value.type "builtin_function_or_method" || Value.type "method-wrapper" == Value.type "method-wrapper") = true by decide, if_true]
  refine KFB.if_so (by decide) ?_
  refine wpAny_bind (check_bound_init F.excBase_ValueError.toExcCallFacts hC he rfl ?_)
  refine wpAny_bind (wpAny_pure (wpAny_pure ?_))
  refine ⟨plainId_quiet F.excBase_ValueError.init.plain _, codeAny_builtin F.excBase_ValueError.initEntry ?_⟩
  exact exc_init_tree (cls := .ref C) (t0 := t0) (dv := none) (c2 := .none) (c3 := .none) (b4 := .bool false) he hrest fun h' k e' _ => hq h' _ k e'
end

/-- what the written part says of the class at C, its __init__ at fI, its cell at cc, its code at cda -/
structure ErrC (P : Program) (K : Frag) (C : Addr) : Prop where
  cls : ∃ nm q N bs bm sn sub ab col dd k0 k1 k2 k3 k5, K.lookup C = some (excClassObj nm q C N bs bm true sn sub ab col dd k0 k1 k2 k3 k5 "ValueError.__new__") ∧ refsVE bm = true
  sup : ks_superIn K C C "__init__" = some (some (.builtin "ValueError.__init__"))
  self : mroIn K C (.ref C) = some true
  ve : subIn K (.ref C) (.type "ValueError") = some true
  opq : nsIn K cStatics "thirdparty.any" = some none
  top : (P.main.scope.names.lookup ("super" : Str)).isSome = false

section
variable {prog : Program} {w : World} {A : Around} {E : Value → Shared → Prop} {s : Shared} {K : Frag} {mg m : Str → Option Value}
theorem hev_of {o arg : Expr} {env : Env} {p2 p3 : Pos} {name : Str} (h : (p2.endLine == p3.line) = true) (hst : starEach (arg :: []) env = (false, eval arg env) :: starEach [] env) :
    eval (.Call (.Attribute o name p2) [arg] [] p3) env = (do
      let ov ← attributeBase o name env (eval o env)
      standAt p2.atName
      let (fn, first) ← holding [ov] (getMethod ov name (do return (← importBound o env).getD true))
      callWith p3 fn first (backTo p3 (starEach [arg] env)) []) := by
  rw [arm_eval_Call]
  have hf : methodCallForm ([arg].length + ([] : List Keyword).length) (backTo p3 (starEach [arg] env)) (backToKw p3 (keywordEach [] env)) = true := by
    rw [hst]
    rfl
  unfold methodCall
  rw [hf]
  unfold calleeOf methodCallPos
  simp only [h, Bool.not_true, Bool.false_or, if_true, pure_bind]
  rfl
theorem sup_init {C x t0 f cc cda L : Addr} {qual : Str} {scope : Scope} {fd : FuncData} {oc ccl cl : Value} {od cdd cld : Option Addr} {osl ccs csl : Array (Option Value)} {ar : Arg} {vs : Array Value} {file : Str} {tf : Tok}
    {p0 p1 p2 p3 p4 : Pos} {arg : Expr} {body : List Stmt} {Q : Flow → Shared → Prop}
    (T : ErrC prog K C) (X : K.In s.heap) (hg : s.heap.Ns mainGlobals mg) (hmg : mg "super" = none) (hb : ∃ mb, s.heap.Ns builtinsNs mb ∧ ∀ x : Str, x ≠ "__name__" → mb x = bootBuiltins x)
    (hn : s.heap.Ns L m) (hv : m ar.arg = some (.ref x)) (hx : s.heap.get? x = some (excO C t0)) (hxC : x ≠ C)
    (hf : K.lookup f = some ⟨oc, od, .func fd, osl⟩) (hp : (fd.params.posonlyargs ++ fd.params.args).head? = some ar)
    (hcode : K.lookup cda = some ⟨ccl, cdd, .fields vs, ccs⟩) (hvs : vs[2]? = some (.str file tf)) (hfile : ((prog.main.file : Str) == file) = true)
    (hcell : K.lookup cc = some ⟨cl, cld, .cell (some (.ref C)), csl⟩)
    (hk : scope.kind = .function) (hks : scope.names.lookup ("super" : Str) = some .globalImplicit) (hkc : scope.names.lookup ("__class__" : Str) = some .free) (hka : scope.names.lookup ar.arg = some .local)
    (harg : ∀ h' tk, (∀ b o, s.heap.get? b = some o → h'.get? b = some o) → wpAny (model prog w) A (eval arg (ksEnv qual scope L f (.ref cda) cc)) (fun _ s'' => ∃ tk', s'' = { s with heap := h', toks := tk' }) E { s with heap := h', toks := tk })
    (hst : starEach (arg :: []) (ksEnv qual scope L f (.ref cda) cc) = (false, eval arg (ksEnv qual scope L f (.ref cda) cc)) :: starEach [] (ksEnv qual scope L f (.ref cda) cc))
    {pl : Sem Bool}
    (hev : eval (.Call (.Attribute (.Call (.Name "super" p0) [] [] p1) "__init__" p2) [arg] [] p3) (ksEnv qual scope L f (.ref cda) cc) = (do
      let ov ← attributeBase (.Call (.Name "super" p0) [] [] p1) "__init__" (ksEnv qual scope L f (.ref cda) cc) (eval (.Call (.Name "super" p0) [] [] p1) (ksEnv qual scope L f (.ref cda) cc))
      standAt p2.atName
      let (fn, first) ← holding [ov] (getMethod ov "__init__" pl)
      callWith p3 fn first (backTo p3 (starEach [arg] (ksEnv qual scope L f (.ref cda) cc))) []))
    (hsw : swapsWith (.Call (.Attribute (.Call (.Name "super" p0) [] [] p1) "__init__" p2) [arg] [] p3) none p4.line (ksEnv qual scope L f (.ref cda) cc) = pure false)
    (hq : ∀ h' tk t1, (∀ b o, b ≠ x → s.heap.get? b = some o → h'.get? b = some o) → h'.get? x = some (excO C t1) → Q .next { s with heap := h', toks := tk }) :
    _root_.PySem.wpAt (model prog w) A (.func body (ksEnv qual scope L f (.ref cda) cc))
      (exec (.Expr (.Call (.Attribute (.Call (.Name "super" p0) [] [] p1) "__init__" p2) [arg] [] p3) p4) (ksEnv qual scope L f (.ref cda) cc)) Q E s := by
  obtain ⟨nm, q, N, bs, bm, sn, sub, ab, col, dd, k0, k1, k2, k3, k5, hC, hbm⟩ := T.cls
  obtain ⟨mb, hb1, hb2⟩ := hb
  have hI : interactive (ksEnv qual scope L f (.ref cda) cc) = false := by simp [interactive, hk]
  refine ks_wpAt_Expr_any ?_ hI hsw
  refine ks_wpAt_MethodCall ?_ hev
  obtain ⟨cdD, hD, hDm⟩ : ∃ cdD, clsIn K C = some cdD ∧ cdD.mro = .ref C :: bm := by
    refine ⟨{ name := nm, bases := bs, mro := .ref C :: bm, ns := N, qualname := q, hasDict := true, slotNames := sn, subclasses := sub, abstract := ab, collection := col, hasDel := false }, ?_, rfl⟩
    unfold clsIn
    rw [hC] <;> rfl
  obtain ⟨oD, hD1, hD2⟩ : ∃ oD, s.heap.get? C = some oD ∧ oD.data = .cls cdD := by
    have hD' := hD
    unfold clsIn at hD'
    split at hD'
    · rename_i c d cd' sl ho
      cases hD'
      exact ⟨_, X _ _ ho, rfl⟩
    · cases hD'
  refine ks_wpAt_super_base (env := ksEnv qual scope L f (.ref cda) cc) hks hkc rfl rfl (X _ _ hf) rfl hp rfl (X _ _ hcode) rfl hvs hfile T.top ?_
  obtain ⟨hh, g, d, t, os⟩ := s
  refine ks_loadName_global hk hks (loadGlobal_builtin (env := ksEnv qual scope L f (.ref cda) cc) hg hmg hb1 ((hb2 _ (by decide +kernel)).trans (show bootBuiltins "super" = some (.type "super") by first | boot_by_name | rfl | kernel_rfl)) ⟨rfl, ?_⟩)
  refine wpAny_loadName_free hk hkc rfl ⟨_, X _ _ hcell, rfl⟩ ?_
  refine wpAny_loadName_local hk hka hn hv ?_
  refine ks_wpAny_isType_cls hD1 hD2 ⟨rfl, ?_⟩
  refine ks_wpAny_call_super hD1 hD2 hx rfl (fun c e => ?_) (looks_mroIn X T.self) (fun h1 e1 k1 => ?_)
  · cases e
  · have X1 : K.In h1 := fun a o z => k1 a o (X a o z)
    have hx1 := k1 _ _ hx
    have I1 : InstAt h1 x (excO C t0) C none := ⟨hx1, rfl, rfl, trivial⟩
    have hI1 : Looks (model prog w) h1 (isInstance (.ref x) (.type "ValueError")) true := I1.type.andThen (looks_subIn X1 T.ve)
    have hsup := T.sup
    unfold ks_superIn at hsup
    rw [hD] at hsup
    refine kxs_getMethod (K := K) kxs_ValueError e1 (looks_opaque X1 T.opq) (l₀ := cdD.mro) ?_ rfl X1 hsup hI1 hxC rfl ?_
    · exact fun A Q E s k q => wpAny_bind ((looks_clsIn X1 hD) A _ E s k (wpAny_pure q))
    · have k2 : ∀ b o, hh.get? b = some o → (h1.push (kxs_mw "ValueError.__init__" x)).get? b = some o := fun b o z => Heap.get?_push_of_some _ (k1 b o z)
      have e2 : (h1.push (kxs_mw "ValueError.__init__" x)).get? h1.objs.size = some (kxs_mw "ValueError.__init__" x) := Heap.get?_push_at rfl rfl
      refine kxs_callWith (i := "ValueError.__init__") (x := x) (by rw [hst]; rfl) ?_
      rw [hst]
      refine evalArgs_plain ?_
      show wpAny _ _ (spliced ((false, eval arg (ksEnv qual scope L f (.ref cda) cc)) :: backTo p3 (starEach [] (ksEnv qual scope L f (.ref cda) cc)))) _ _ _
      refine Calls.spliced_cons (wpAny_mono (harg _ _ k2) (fun v s2 hs2 => ?_) fun _ _ z => z)
      obtain ⟨tk', rfl⟩ := hs2
      refine args_nil ⟨e2, ?_⟩
      refine bw_call (C := C) (x := x) (t0 := t0) (k2 _ _ (X _ _ hC)) (k2 _ _ hx) e2 (by show 1 ≤ sizeLine; rw [sizeLine_eq]; decide) (fun h' t1 k e' => ?_)
      exact hq h' tk' t1 (fun b o hb z => k b o hb (k2 b o z)) e'
end

/-! ### the texts within -/
def FmV (c : Int) : Value → Prop
  | .str z _ => (c = 114 ∧ (reprText z).length ≤ 7000000) ∨ (c = -1 ∧ z.length ≤ 7000000)
  | .int i _ => c = -1 ∧ i.natAbs.log2 < 1920
  | _ => False
section
variable {prog : Program} {w : World} {A : Around} {E : Value → Shared → Prop} {env : Env} {m : Str → Option Value} {L : Addr}
theorem int_text_small {i : Int} (h : i.natAbs.log2 < 1920) : (Str.ofString (toString i)).length ≤ 7000000 := by
  have e := int_text_length_le (k := 1920) (by decide) h
  rw [ofString_length]
  omega
/-- one field within an f-string -/
theorem fmt_one {fl : Str} {conv : Int} {a1 a2 : Pos} {v : Value} {s : Shared} {Q : Value → Shared → Prop} (hn : s.heap.Ns env.locals m) (hv : m fl = some v) (hf : FmV conv v)
    (hk : env.scope.kind = .function) (hl : env.kindOf fl = some .local) (hd : (fl == ("__debug__" : Str)) = false)
    (h : ∀ (y : Str) (t tk : Tok), y.length ≤ 7000000 → Q (.str y t) { s with toks := tk }) :
    wpAny (model prog w) A (eval (.FormattedValue (.Name fl a1) conv none a2) env) Q E s := by
  cases v with
  | str z t =>
    rcases hf with ⟨rfl, hz⟩ | ⟨rfl, hz⟩
    · refine wpAny_FormattedValue_repr (wpAny_Name (wpAny_loadName_local hk hl hn hv ?_) hd)
      refine pyReprObj_str (wpAny_formatField_str (h _ _ _ hz) (h _ _ _ hz) ?_) ?_
      all_goals rw [sizeLine_eq]; omega
    · refine wpAny_FormattedValue_plain (wpAny_Name (wpAny_loadName_local hk hl hn hv ?_) hd)
      refine wpAny_formatField_str (h _ _ _ hz) (h _ _ _ hz) ?_
      rw [sizeLine_eq]; omega
  | int i t =>
    obtain ⟨rfl, hi⟩ := hf
    refine wpAny_FormattedValue_plain (wpAny_Name (wpAny_loadName_local hk hl hn hv ?_) hd)
    exact wpAny_formatField_int hi (h _ _ _ (int_text_small hi))
  | _ => exact hf.elim
end

/-! ### the shapes of the bodies -/
def supCall (arg : Expr) (p0 p1 p2 p3 p4 : Pos) : Stmt := .Expr (.Call (.Attribute (.Call (.Name "super" p0) [] [] p1) "__init__" p2) [arg] [] p3) p4
def setSelf (f : Str) (q1 q2 q3 q4 : Pos) : Stmt := .Assign [.Attribute (.Name "self" q1) f q2] (.Name f q3) q4
def txt1 (y1 : Str) (c1 : Int) (f1 : Str) (j1 : Nat) (a0 a1 a2 a3 : Pos) : Expr := .JoinedStr [.Constant (.str y1) j1 a0, .FormattedValue (.Name f1 a1) c1 none a2] a3
def txt2 (y1 : Str) (c1 : Int) (f1 : Str) (y2 : Str) (c2 : Int) (f2 : Str) (j1 j2 : Nat) (a0 a1 a2 b0 b1 b2 a3 : Pos) : Expr :=
  .JoinedStr [.Constant (.str y1) j1 a0, .FormattedValue (.Name f1 a1) c1 none a2, .Constant (.str y2) j2 b0, .FormattedValue (.Name f2 b1) c2 none b2] a3
def scope1 (f1 : Str) : Scope := { kind := .function, names := [("self", .local), (f1, .local), ("__class__", .free), ("super", .globalImplicit)], isGenerator := false, isCoroutine := false, more := [] }
def scope2 (f1 f2 : Str) : Scope := { kind := .function, names := [("self", .local), (f1, .local), (f2, .local), ("__class__", .free), ("super", .globalImplicit)], isGenerator := false, isCoroutine := false, more := [] }
def scope0 : Scope := { kind := .function, names := [("self", .local), ("__class__", .free), ("super", .globalImplicit)], isGenerator := false, isCoroutine := false, more := [] }
def args_ (l : List Arg) : Arguments := { posonlyargs := [], args := l, vararg := none, kwonlyargs := [], kw_defaults := [], kwarg := none, defaults := [] }
def arg_ (x : Str) (p : Pos) : Arg := { arg := x, annotation := none, pos := p }
/-- what the written part says of __init__ -/
structure ErrF (P : Program) (K : Frag) (C fI : Addr) (qual : Str) (ar : Arguments) (body : List Stmt) (sc : Scope) : Prop where
  iC : findIn K (.ref C) "__init__" = some (some (.ref fI))
  tI : typeIn K (.ref fI) = some (.type "function")
  fn : ∃ (oc : Value) (od : Option Addr) (doc pm : Value) (an : Option Addr) (cda : Addr) (ct : Value) (cc : Addr) (osl : Array (Option Value)) (kV : Value),
    K.lookup fI = some ⟨oc, od, .func (ksFn "__init__" qual ar body sc .none kV doc pm an (.ref cda) ct cc), osl⟩ ∧ codeIn K (.ref cda) qual = true ∧
    (∃ ccl cdd vs ccs file tf, K.lookup cda = some ⟨ccl, cdd, .fields vs, ccs⟩ ∧ vs[2]? = some (.str file tf) ∧ ((P.main.file : Str) == file) = true) ∧
    ∃ cl cld csl, K.lookup cc = some ⟨cl, cld, .cell (some (.ref C)), csl⟩
/-- of the class, for its fields -/
structure ErrS (K : Frag) (C : Addr) (fs : List Str) : Prop where
  sa : findIn K (.ref C) "__setattr__" = some (some (.builtin "object.__setattr__"))
  no : ∀ f ∈ fs, findIn K (.ref C) f = some none
/-- what __init__ leaves of the exception at x -/
structure InitEnd (h h' : Heap) (x C : Addr) (d : Option Addr) (fs : List (Str × Value)) : Prop where
  keep : ∀ b o, b ≠ x → h.get? b = some o → h'.get? b = some o
  obj : ∃ t1 : Addr, h'.get? x = some { cls := .ref C, dict := d, data := .fields #[.ref t1, .none, .none, .none, .bool false, .none] }
  own : ∀ dx, d = some dx → h.objs.size ≤ dx ∧ dx ≠ x ∧ h'.Ns1 dx (fun y => fs.lookup y)
section
variable {prog : Program} {w : World} {A : Around} {E : Value → Shared → Prop} {R : Result → Shared → Prop} {s : Shared} {K : Frag} {mg : Str → Option Value} {C fI : Addr}
theorem one_size (v : Value) : [v].length ≤ sizeLine := by
  rw [sizeLine_eq]
  exact (by decide : 1 ≤ 16777216)
theorem lookup1 (f : Str) (v : Value) : (fun y => if y = f then some v else none) = fun y => List.lookup y [(f, v)] := by
  funext y
  by_cases h : y = f
  · subst h
    simp [List.lookup]
  · have e : (y == f) = false := by simpa using h
    rw [if_neg h]
    simp [List.lookup, e]
theorem lookup2 (f g : Str) (v u : Value) : (fun y => if y = g then some u else (if y = f then some v else none)) = fun y => List.lookup y [(g, u), (f, v)] := by
  funext y
  have e1 := congrFun (lookup1 f v) y
  by_cases h : y = g
  · subst h
    simp [List.lookup]
  · have e : (y == g) = false := by simpa using h
    rw [if_neg h, e1]
    simp [List.lookup, e]

/-- self.f = f in the body, on an exception that has no dict yet -/
theorem set_first {env : Env} {f : Str} {q1 q2 q3 q4 : Pos} {x t1 : Addr} {m : Str → Option Value} {v : Value} {Q : Flow → Shared → Prop} (T : ErrC prog K C) (S : findIn K (.ref C) "__setattr__" = some (some (.builtin "object.__setattr__"))) (no : findIn K (.ref C) f = some none)
    (X : K.In s.heap) (hn : s.heap.Ns env.locals m) (hself : m "self" = some (.ref x)) (hv : m f = some v) (hx : s.heap.get? x = some (excO C t1))
    (hk : env.scope.kind = .function) (hls : env.kindOf "self" = some .local) (hlf : env.kindOf f = some .local) (hd : (f == ("__debug__" : Str)) = false)
    (hsw : swapsWith (.Name f q3) (some (.Attribute (.Name "self" q1) f q2)) q4.line env = pure false)
    (hq : ∀ h' tk dx, (∀ b o, b ≠ x → s.heap.get? b = some o → h'.get? b = some o) → s.heap.objs.size ≤ dx → dx ≠ x → h'.get? x = some { cls := .ref C, dict := some dx, data := .fields #[.ref t1, .none, .none, .none, .bool false, .none] } →
      h'.Ns1 dx (fun y => List.lookup y [(f, v)]) → Q .next { s with heap := h', toks := tk }) :
    wpAny (model prog w) A (exec (setSelf f q1 q2 q3 q4) env) Q E s := by
  obtain ⟨nm, q, N, bs, bm, sn, sub, ab, col, dd, k0, k1, k2, k3, k5, hC, hbm⟩ := T.cls
  have hcl : clsIn K C = some { name := nm, bases := bs, mro := .ref C :: bm, ns := N, qualname := q, hasDict := true, slotNames := sn, subclasses := sub, abstract := ab, collection := col, hasDel := false } := by unfold clsIn; rw [hC] <;> rfl
  refine plainObj_wpAny_Assign_Attribute ?_ hsw
  refine wpAny_Name (wpAny_loadName_local hk hlf hn hv (wpAny_Name (wpAny_loadName_local hk hls hn hself ?_) rfl)) hd
  obtain ⟨hp, g, dr, tk, os⟩ := s
  refine set_plain X (ox := excO C t1) (od := none) ⟨hx, rfl, rfl, trivial⟩ S ?_
  refine exc_osa X hx hcl (show refsVE (.ref C :: bm) = true from hbm) rfl no (fun h₃ tk₃ dx k₃ dn dne hx₃ hn₃ => ?_)
  exact hq h₃ tk₃ dx k₃ dn dne hx₃ (by rw [← lookup1]; exact hn₃)
/-- .. on one that has its dict -/
theorem set_more {env : Env} {f g : Str} {q1 q2 q3 q4 : Pos} {x t1 dx : Addr} {m : Str → Option Value} {v u : Value} {Q : Flow → Shared → Prop} (T : ErrC prog K C) (S : findIn K (.ref C) "__setattr__" = some (some (.builtin "object.__setattr__"))) (no : findIn K (.ref C) g = some none)
    (X : K.In s.heap) (hn : s.heap.Ns env.locals m) (hself : m "self" = some (.ref x)) (hv : m g = some u) (hx : s.heap.get? x = some { cls := .ref C, dict := some dx, data := .fields #[.ref t1, .none, .none, .none, .bool false, .none] })
    (hns : s.heap.Ns1 dx (fun y => List.lookup y [(f, v)]))
    (hk : env.scope.kind = .function) (hls : env.kindOf "self" = some .local) (hlf : env.kindOf g = some .local) (hd : (g == ("__debug__" : Str)) = false)
    (hsw : swapsWith (.Name g q3) (some (.Attribute (.Name "self" q1) g q2)) q4.line env = pure false)
    (hq : ∀ h' tk, (∀ b o, b ≠ dx → s.heap.get? b = some o → h'.get? b = some o) → h'.Ns1 dx (fun y => List.lookup y [(g, u), (f, v)]) → Q .next { s with heap := h', toks := tk }) :
    wpAny (model prog w) A (exec (setSelf g q1 q2 q3 q4) env) Q E s := by
  obtain ⟨nm, q, N, bs, bm, sn, sub, ab, col, dd, k0, k1, k2, k3, k5, hC, hbm⟩ := T.cls
  have hcl : clsIn K C = some { name := nm, bases := bs, mro := .ref C :: bm, ns := N, qualname := q, hasDict := true, slotNames := sn, subclasses := sub, abstract := ab, collection := col, hasDel := false } := by unfold clsIn; rw [hC] <;> rfl
  rw [← lookup1] at hns
  have hw : Within (fun y => if y = f then some v else none) [f] := Within.cons f v Within.nil
  obtain ⟨oD, _, _, hoD, _, _⟩ := hns.count hw
  refine plainObj_wpAny_Assign_Attribute ?_ hsw
  refine wpAny_Name (wpAny_loadName_local hk hlf hn hv (wpAny_Name (wpAny_loadName_local hk hls hn hself ?_) rfl)) hd
  obtain ⟨hp, g, dr, tk, os⟩ := s
  refine set_plain X (ox := { cls := .ref C, dict := some dx, data := .fields #[.ref t1, .none, .none, .none, .bool false, .none] }) (od := some oD) ⟨hx, rfl, rfl, hoD⟩ S ?_
  refine OEX.osa_old X hx hns hw (by show 1 ≤ 1000; decide) hcl (show refsVE (.ref C :: bm) = true from hbm) rfl no (fun h' tk' k hn' => ?_)
  exact hq h' tk' k (by rw [← lookup2]; exact hn')
end

/-- the names of the fields are no names of the machine's -/
structure NmOk (f : Str) : Prop where
  a : (f == ("self" : Str)) = false
  b : (("self" : Str) == f) = false
  c : (("super" : Str) == f) = false
  d : (("__class__" : Str) == f) = false
  e : (f == ("__debug__" : Str)) = false
section
variable {prog : Program} {w : World} {A : Around} {E : Value → Shared → Prop} {R : Result → Shared → Prop} {s : Shared} {K : Frag} {mg : Str → Option Value} {C fI : Addr}
/-- what the module says at a call -/
structure ModS (K : Frag) (mg : Str → Option Value) (h : Heap) : Prop where
  kin : K.In h
  lim : h.NoLimit
  glob : h.Ns mainGlobals mg
  blt : ∃ mb, h.Ns builtinsNs mb ∧ ∀ x : Str, x ≠ "__name__" → mb x = bootBuiltins x
  sup : mg "super" = none
theorem ModS.keeps {h h' : Heap} (M : ModS K mg h) (k : ∀ b o, h.get? b = some o → h'.get? b = some o) : ModS K mg h' := by
  obtain ⟨mb, b1, b2⟩ := M.blt
  exact ⟨M.kin.keeps k, M.lim.keeps k, M.glob.at fun o q => k _ _ q, ⟨mb, b1.at fun o q => k _ _ q, b2⟩, M.sup⟩
theorem joined1 {env : Env} {y1 f1 : Str} {c1 : Int} {j1 : Nat} {a0 a1 a2 a3 : Pos} {v : Value} {m : Str → Option Value} (fm : FmV c1 v) (hy : y1.length ≤ 1000) (hv : m f1 = some v)
    (hk : env.scope.kind = .function) (hl : env.kindOf f1 = some .local) (hd : (f1 == ("__debug__" : Str)) = false) {h' : Heap} {tk : Tok} (hn : h'.Ns env.locals m) :
    wpAny (model prog w) A (eval (txt1 y1 c1 f1 j1 a0 a1 a2 a3) env) (fun _ s'' => ∃ tk', s'' = { s with heap := h', toks := tk' }) E { s with heap := h', toks := tk } := by
  refine wpAny_JoinedStr ?_
  refine Calls.Constant_str ⟨y1, _, rfl, ?_, ?_⟩
  · rw [sizeLine_eq]
    show (Str.empty ++ y1).length ≤ _
    rw [Str.length_append]
    show 0 + y1.length ≤ _
    omega
  · refine fmt_one (m := m) hn hv fm hk hl hd fun y t tk2 hz => ⟨y, t, rfl, ?_, ?_⟩
    · rw [sizeLine_eq, Str.length_append, Str.length_append]
      show 0 + y1.length + y.length ≤ _
      omega
    · refine ⟨?_, _, rfl⟩
      rw [sizeLine_eq, Str.length_append, Str.length_append]
      show 0 + y1.length + y.length ≤ _
      omega
theorem joined2 {env : Env} {y1 f1 y2 f2 : Str} {c1 c2 : Int} {j1 j2 : Nat} {a0 a1 a2 b0 b1 b2 a3 : Pos} {v u : Value} {m : Str → Option Value} (fm : FmV c1 v) (fm2 : FmV c2 u) (hy : y1.length ≤ 1000) (hy2 : y2.length ≤ 1000) (hv : m f1 = some v) (hu : m f2 = some u)
    (hk : env.scope.kind = .function) (hl : env.kindOf f1 = some .local) (hl2 : env.kindOf f2 = some .local) (hd : (f1 == ("__debug__" : Str)) = false) (hd2 : (f2 == ("__debug__" : Str)) = false) {h' : Heap} {tk : Tok} (hn : h'.Ns env.locals m) :
    wpAny (model prog w) A (eval (txt2 y1 c1 f1 y2 c2 f2 j1 j2 a0 a1 a2 b0 b1 b2 a3) env) (fun _ s'' => ∃ tk', s'' = { s with heap := h', toks := tk' }) E { s with heap := h', toks := tk } := by
  refine wpAny_JoinedStr ?_
  refine Calls.Constant_str ⟨y1, _, rfl, ?_, ?_⟩
  · rw [sizeLine_eq, Str.length_append]
    show 0 + y1.length ≤ _
    omega
  · refine fmt_one (m := m) hn hv fm hk hl hd fun y t tk2 hz => ⟨y, t, rfl, ?_, ?_⟩
    · rw [sizeLine_eq, Str.length_append, Str.length_append]
      show 0 + y1.length + y.length ≤ _
      omega
    · refine Calls.Constant_str ⟨y2, _, rfl, ?_, ?_⟩
      · rw [sizeLine_eq, Str.length_append, Str.length_append, Str.length_append]
        show 0 + y1.length + y.length + y2.length ≤ _
        omega
      · refine fmt_one (m := m) hn hu fm2 hk hl2 hd2 fun z t2 tk3 hz2 => ⟨z, t2, rfl, ?_, ?_⟩
        · rw [sizeLine_eq, Str.length_append, Str.length_append, Str.length_append, Str.length_append]
          show 0 + y1.length + y.length + y2.length + z.length ≤ _
          omega
        · refine ⟨?_, _, rfl⟩
          rw [sizeLine_eq, Str.length_append, Str.length_append, Str.length_append, Str.length_append]
          show 0 + y1.length + y.length + y2.length + z.length ≤ _
          omega
theorem init1 {qual y1 f1 : Str} {c1 : Int} {j1 : Nat} {a0 a1 a2 a3 p0 p1 p2 p3 p4 p5 p6 q1 q2 q3 q4 : Pos} {x t0 : Addr} {v : Value} (T : ErrC prog K C)
    (F : ErrF prog K C fI qual (args_ [arg_ "self" p5, arg_ f1 p6]) [supCall (txt1 y1 c1 f1 j1 a0 a1 a2 a3) p0 p1 p2 p3 p4, setSelf f1 q1 q2 q3 q4] (scope1 f1)) (S : ErrS K C [f1]) (nf : NmOk f1)
    (M : ModS K mg s.heap) (hx : s.heap.get? x = some (excO C t0)) (hnx : K.lookup x = none) (hroom : A.depth < recursionLimit) (hpos : (p2.endLine == p3.line) = true) (fm : FmV c1 v) (hy : y1.length ≤ 1000)
    (hbd : ∀ (kV doc pm : Value) (an : Option Addr) (cda : Addr) (ct : Value) (cc : Addr) (x v : Value), bindArgs (ksFn "__init__" qual (args_ [arg_ "self" p5, arg_ f1 p6]) [supCall (txt1 y1 c1 f1 j1 a0 a1 a2 a3) p0 p1 p2 p3 p4, setSelf f1 q1 q2 q3 q4] (scope1 f1) .none kV doc pm an (.ref cda) ct cc) ⟨[x, v], []⟩ = pure [(("self" : Str), x), (f1, v)])
    (hq : ∀ h' tk d, InitEnd s.heap h' x C (some d) [(f1, v)] → R (.ok (.ret .none)) { s with heap := h', toks := tk }) :
    codeAny (model prog w) A (.call (.ref fI) ⟨[.ref x, v], []⟩) R s := by
  obtain ⟨oc, od, doc, pm, an, cda, ct, cc, osl, kV, ho, hcd, ⟨ccl, cdd, vs, ccs, file, tf, hcode, hvs, hfile⟩, ⟨cl, cld, csl, hcell⟩⟩ := F.fn
  obtain ⟨nm, q, N, bs, bm, sn, sub, ab, col, dd, k0, k1, k2, k3, k5, hC, hbm⟩ := T.cls
  have X := M.kin
  have hxC : x ≠ C := fun z => by
    rw [z, X _ _ hC] at hx
    cases hx
  have lsc : List.lookup f1 (scope1 f1).names = some .local := by simp [scope1, List.lookup, nf.a]
  have lsp : List.lookup ("super" : Str) (scope1 f1).names = some .globalImplicit := by
    have e1 : (("super" : Str) == ("self" : Str)) = false := by decide
    have e2 : (("super" : Str) == ("__class__" : Str)) = false := by decide
    simp [scope1, List.lookup, nf.c, e1, e2]
  have lcl : List.lookup ("__class__" : Str) (scope1 f1).names = some .free := by
    have e1 : (("__class__" : Str) == ("self" : Str)) = false := by decide
    simp [scope1, List.lookup, nf.d, e1]
  have lse : List.lookup ("self" : Str) (scope1 f1).names = some .local := by simp [scope1, List.lookup]
  refine ks_codeAny_call_defAt (fd := ksFn "__init__" qual (args_ [arg_ "self" p5, arg_ f1 p6]) [supCall (txt1 y1 c1 f1 j1 a0 a1 a2 a3) p0 p1 p2 p3 p4, setSelf f1 q1 q2 q3 q4] (scope1 f1) .none kV doc pm an (.ref cda) ct cc)
    (body := [supCall (txt1 y1 c1 f1 j1 a0 a1 a2 a3) p0 p1 p2 p3 p4, setSelf f1 q1 q2 q3 q4]) (binds := [("self", .ref x), (f1, v)]) hroom (X _ _ ho) rfl M.lim (codeRec_of X hcd) rfl
    (BindsTo.of_eq (hbd _ _ _ _ _ _ _ _ _)) ?_ ?_ (fun h₁ hns k₁ => ?_) rfl rfl rfl
  · intro y hy'
    simp [scope1] at hy'
    rcases hy' with rfl | rfl | rfl | rfl <;> (intro z; cases z)
  · intro y hy'
    simp at hy'
    rcases hy' with rfl | rfl
    · exact lse
    · exact lsc
  have M₁ : ModS K mg h₁ := M.keeps k₁
  have m1 : (fun y => List.lookup y [(f1, v), (("self" : Str), Value.ref x)]) "self" = some (.ref x) := by simp [List.lookup, nf.b]
  have m2 : (fun y => List.lookup y [(f1, v), (("self" : Str), Value.ref x)]) f1 = some v := by simp [List.lookup]
  have hx₁ := k₁ _ _ hx
  show _root_.PySem.wpAt _ _ _ (execs _ (ksEnv qual (scope1 f1) s.heap.objs.size fI (.ref cda) cc)) _ _ _
  have hns' : h₁.Ns s.heap.objs.size (fun y => List.lookup y [(f1, v), (("self" : Str), Value.ref x)]) := hns
  refine ks_wpAt_execs_cons (sup_init (mg := mg) (ar := arg_ "self" p5) (C := C) (x := x) (t0 := t0) (m := fun y => List.lookup y [(f1, v), (("self" : Str), Value.ref x)]) T M₁.kin M₁.glob M.sup M₁.blt hns' m1 hx₁ hxC ho rfl hcode hvs hfile hcell rfl lsp lcl lse
    (fun h' tk k => joined1 (env := ksEnv qual (scope1 f1) s.heap.objs.size fI (.ref cda) cc) (m := fun y => List.lookup y [(f1, v), (("self" : Str), Value.ref x)]) fm hy m2 rfl lsc nf.e (hns'.at fun o q => k _ _ q)) rfl (hev_of hpos rfl) (by first | rfl | with_unfolding_all rfl) (fun h₂ tk₂ t₂ k₂ hx₂ => ?_))
  have L1 : s.heap.objs.size ≠ x := Nat.ne_of_gt (Heap.lt_size hx)
  have kx : ∀ b o, K.lookup b = some o → b ≠ x := fun b o z e => by rw [e, hnx] at z; cases z
  have X₂ : K.In h₂ := fun b o z => k₂ b o (kx b o z) (M₁.kin b o z)
  have hns₂ : h₂.Ns s.heap.objs.size (fun y => List.lookup y [(f1, v), (("self" : Str), Value.ref x)]) := hns'.at fun o q => k₂ _ _ L1 q
  show _root_.PySem.wpAt _ _ _ (execs _ (ksEnv qual (scope1 f1) s.heap.objs.size fI (.ref cda) cc)) _ _ _
  refine wpAt_of_wpAny (wpAny_execs_cons (set_first (C := C) (x := x) (t1 := t₂) (m := fun y => List.lookup y [(f1, v), (("self" : Str), Value.ref x)]) T S.sa (S.no f1 (by simp)) X₂ hns₂ m1 m2 hx₂ rfl lse lsc nf.e rfl (fun h₃ tk₃ dx k₃ dn dne hx₃ hn₃ => ?_)))
  refine wpAny_execs_nil (hq h₃ tk₃ dx ⟨fun b o hb e => k₃ b o hb (k₂ b o hb (k₁ b o e)), ⟨_, hx₃⟩, fun dx' e => ?_⟩)
  cases e
  have z1 : s.heap.objs.size < h₁.objs.size := hns'.lt
  have z2 : s.heap.objs.size < h₂.objs.size := hns₂.lt
  exact ⟨Nat.le_of_lt (Nat.lt_of_lt_of_le z2 dn), dne, hn₃⟩
theorem init2 {qual y1 f1 y2 f2 : Str} {c1 c2 : Int} {j1 j2 : Nat} {a0 a1 a2 b0 b1 b2 a3 p0 p1 p2 p3 p4 p5 p6 p7 q1 q2 q3 q4 r1 r2 r3 r4 : Pos} {x t0 : Addr} {v u : Value} (T : ErrC prog K C)
    (F : ErrF prog K C fI qual (args_ [arg_ "self" p5, arg_ f1 p6, arg_ f2 p7]) [supCall (txt2 y1 c1 f1 y2 c2 f2 j1 j2 a0 a1 a2 b0 b1 b2 a3) p0 p1 p2 p3 p4, setSelf f1 q1 q2 q3 q4, setSelf f2 r1 r2 r3 r4] (scope2 f1 f2)) (S : ErrS K C [f1, f2]) (nf : NmOk f1) (nf2 : NmOk f2) (ne : (f1 == f2) = false) (ne2 : (f2 == f1) = false)
    (M : ModS K mg s.heap) (hx : s.heap.get? x = some (excO C t0)) (hnx : K.lookup x = none) (hroom : A.depth < recursionLimit) (hpos : (p2.endLine == p3.line) = true) (fm : FmV c1 v) (fm2 : FmV c2 u) (hy : y1.length ≤ 1000) (hy2 : y2.length ≤ 1000)
    (hbd : ∀ (kV doc pm : Value) (an : Option Addr) (cda : Addr) (ct : Value) (cc : Addr) (x v u : Value), bindArgs (ksFn "__init__" qual (args_ [arg_ "self" p5, arg_ f1 p6, arg_ f2 p7]) [supCall (txt2 y1 c1 f1 y2 c2 f2 j1 j2 a0 a1 a2 b0 b1 b2 a3) p0 p1 p2 p3 p4, setSelf f1 q1 q2 q3 q4, setSelf f2 r1 r2 r3 r4] (scope2 f1 f2) .none kV doc pm an (.ref cda) ct cc) ⟨[x, v, u], []⟩ = pure [(("self" : Str), x), (f1, v), (f2, u)])
    (hq : ∀ h' tk d, InitEnd s.heap h' x C (some d) [(f2, u), (f1, v)] → R (.ok (.ret .none)) { s with heap := h', toks := tk }) :
    codeAny (model prog w) A (.call (.ref fI) ⟨[.ref x, v, u], []⟩) R s := by
  obtain ⟨oc, od, doc, pm, an, cda, ct, cc, osl, kV, ho, hcd, ⟨ccl, cdd, vs, ccs, file, tf, hcode, hvs, hfile⟩, ⟨cl, cld, csl, hcell⟩⟩ := F.fn
  obtain ⟨nm, q, N, bs, bm, sn, sub, ab, col, dd, k0, k1, k2, k3, k5, hC, hbm⟩ := T.cls
  have X := M.kin
  have hxC : x ≠ C := fun z => by
    rw [z, X _ _ hC] at hx
    cases hx
  have lsc : List.lookup f1 (scope2 f1 f2).names = some .local := by simp [scope2, List.lookup, nf.a]
  have lsc2 : List.lookup f2 (scope2 f1 f2).names = some .local := by simp [scope2, List.lookup, nf2.a, ne2]
  have lsp : List.lookup ("super" : Str) (scope2 f1 f2).names = some .globalImplicit := by
    have e1 : (("super" : Str) == ("self" : Str)) = false := by decide
    have e2 : (("super" : Str) == ("__class__" : Str)) = false := by decide
    simp [scope2, List.lookup, nf.c, nf2.c, e1, e2]
  have lcl : List.lookup ("__class__" : Str) (scope2 f1 f2).names = some .free := by
    have e1 : (("__class__" : Str) == ("self" : Str)) = false := by decide
    simp [scope2, List.lookup, nf.d, nf2.d, e1]
  have lse : List.lookup ("self" : Str) (scope2 f1 f2).names = some .local := by simp [scope2, List.lookup]
  refine ks_codeAny_call_defAt (fd := ksFn "__init__" qual (args_ [arg_ "self" p5, arg_ f1 p6, arg_ f2 p7]) [supCall (txt2 y1 c1 f1 y2 c2 f2 j1 j2 a0 a1 a2 b0 b1 b2 a3) p0 p1 p2 p3 p4, setSelf f1 q1 q2 q3 q4, setSelf f2 r1 r2 r3 r4] (scope2 f1 f2) .none kV doc pm an (.ref cda) ct cc)
    (body := [supCall (txt2 y1 c1 f1 y2 c2 f2 j1 j2 a0 a1 a2 b0 b1 b2 a3) p0 p1 p2 p3 p4, setSelf f1 q1 q2 q3 q4, setSelf f2 r1 r2 r3 r4]) (binds := [("self", .ref x), (f1, v), (f2, u)]) hroom (X _ _ ho) rfl M.lim (codeRec_of X hcd) rfl
    (BindsTo.of_eq (hbd _ _ _ _ _ _ _ _ _ _)) ?_ ?_ (fun h₁ hns k₁ => ?_) rfl rfl rfl
  · intro y hy'
    simp [scope2] at hy'
    rcases hy' with rfl | rfl | rfl | rfl | rfl <;> (intro z; cases z)
  · intro y hy'
    simp at hy'
    rcases hy' with rfl | rfl | rfl
    · exact lse
    · exact lsc
    · exact lsc2
  have M₁ : ModS K mg h₁ := M.keeps k₁
  have m1 : (fun y => List.lookup y [(f2, u), (f1, v), (("self" : Str), Value.ref x)]) "self" = some (.ref x) := by simp [List.lookup, nf.b, nf2.b]
  have m2 : (fun y => List.lookup y [(f2, u), (f1, v), (("self" : Str), Value.ref x)]) f1 = some v := by simp [List.lookup, ne]
  have m3 : (fun y => List.lookup y [(f2, u), (f1, v), (("self" : Str), Value.ref x)]) f2 = some u := by simp [List.lookup]
  have hx₁ := k₁ _ _ hx
  show _root_.PySem.wpAt _ _ _ (execs _ (ksEnv qual (scope2 f1 f2) s.heap.objs.size fI (.ref cda) cc)) _ _ _
  have hns' : h₁.Ns s.heap.objs.size (fun y => List.lookup y [(f2, u), (f1, v), (("self" : Str), Value.ref x)]) := hns
  refine ks_wpAt_execs_cons (sup_init (mg := mg) (ar := arg_ "self" p5) (C := C) (x := x) (t0 := t0) (m := fun y => List.lookup y [(f2, u), (f1, v), (("self" : Str), Value.ref x)]) T M₁.kin M₁.glob M.sup M₁.blt hns' m1 hx₁ hxC ho rfl hcode hvs hfile hcell rfl lsp lcl lse
    (fun h' tk k => joined2 (env := ksEnv qual (scope2 f1 f2) s.heap.objs.size fI (.ref cda) cc) (m := fun y => List.lookup y [(f2, u), (f1, v), (("self" : Str), Value.ref x)]) fm fm2 hy hy2 m2 m3 rfl lsc lsc2 nf.e nf2.e (hns'.at fun o q => k _ _ q)) rfl (hev_of hpos rfl) (by first | rfl | with_unfolding_all rfl) (fun h₂ tk₂ t₂ k₂ hx₂ => ?_))
  have L1 : s.heap.objs.size ≠ x := Nat.ne_of_gt (Heap.lt_size hx)
  have kx : ∀ b o, K.lookup b = some o → b ≠ x := fun b o z e => by rw [e, hnx] at z; cases z
  have X₂ : K.In h₂ := fun b o z => k₂ b o (kx b o z) (M₁.kin b o z)
  have hns₂ : h₂.Ns s.heap.objs.size (fun y => List.lookup y [(f2, u), (f1, v), (("self" : Str), Value.ref x)]) := hns'.at fun o q => k₂ _ _ L1 q
  show _root_.PySem.wpAt _ _ _ (execs _ (ksEnv qual (scope2 f1 f2) s.heap.objs.size fI (.ref cda) cc)) _ _ _
  refine wpAt_of_wpAny (wpAny_execs_cons (set_first (C := C) (x := x) (t1 := t₂) (m := fun y => List.lookup y [(f2, u), (f1, v), (("self" : Str), Value.ref x)]) T S.sa (S.no f1 (by simp)) X₂ hns₂ m1 m2 hx₂ rfl lse lsc nf.e rfl (fun h₃ tk₃ dx k₃ dn dne hx₃ hn₃ => ?_)))
  have X₃ : K.In h₃ := fun b o z => k₃ b o (kx b o z) (X₂ b o z)
  have hns₃ : h₃.Ns s.heap.objs.size (fun y => List.lookup y [(f2, u), (f1, v), (("self" : Str), Value.ref x)]) := hns₂.at fun o q => k₃ _ _ L1 q
  have z1 : s.heap.objs.size < h₁.objs.size := hns'.lt
  have z2 : s.heap.objs.size < h₂.objs.size := hns₂.lt
  have z3 : s.heap.objs.size < dx := Nat.lt_of_lt_of_le z2 dn
  show wpAny _ _ (execs _ (ksEnv qual (scope2 f1 f2) s.heap.objs.size fI (.ref cda) cc)) _ _ _
  refine wpAny_execs_cons (set_more (C := C) (x := x) (t1 := t₂) (dx := dx) (m := fun y => List.lookup y [(f2, u), (f1, v), (("self" : Str), Value.ref x)]) T S.sa (S.no f2 (by simp)) X₃ hns₃ m1 m3 hx₃ hn₃ rfl lse lsc2 nf2.e rfl (fun h₄ tk₄ k₄ hn₄ => ?_))
  refine wpAny_execs_nil (hq h₄ tk₄ dx ⟨fun b o hb e => k₄ b o (fun z => ?_) (k₃ b o hb (k₂ b o hb (k₁ b o e))), ⟨_, k₄ _ _ (Ne.symm dne) hx₃⟩, fun dx' e => ?_⟩)
  · exact absurd (Heap.lt_size e) (by rw [z]; exact Nat.not_lt.mpr (Nat.le_of_lt z3))
  cases e
  exact ⟨Nat.le_of_lt z3, dne, hn₄⟩
theorem init0 {qual y1 : Str} {j1 : Nat} {a0 p0 p1 p2 p3 p4 p5 : Pos} {x t0 : Addr} (T : ErrC prog K C)
    (F : ErrF prog K C fI qual (args_ [arg_ "self" p5]) [supCall (.Constant (.str y1) j1 a0) p0 p1 p2 p3 p4] scope0)
    (M : ModS K mg s.heap) (hx : s.heap.get? x = some (excO C t0)) (hnx : K.lookup x = none) (hroom : A.depth < recursionLimit) (hpos : (p2.endLine == p3.line) = true)
    (hbd : ∀ (kV doc pm : Value) (an : Option Addr) (cda : Addr) (ct : Value) (cc : Addr) (x : Value), bindArgs (ksFn "__init__" qual (args_ [arg_ "self" p5]) [supCall (.Constant (.str y1) j1 a0) p0 p1 p2 p3 p4] scope0 .none kV doc pm an (.ref cda) ct cc) ⟨[x], []⟩ = pure [(("self" : Str), x)])
    (hq : ∀ h' tk, InitEnd s.heap h' x C none [] → R (.ok (.ret .none)) { s with heap := h', toks := tk }) :
    codeAny (model prog w) A (.call (.ref fI) ⟨[.ref x], []⟩) R s := by
  obtain ⟨oc, od, doc, pm, an, cda, ct, cc, osl, kV, ho, hcd, ⟨ccl, cdd, vs, ccs, file, tf, hcode, hvs, hfile⟩, ⟨cl, cld, csl, hcell⟩⟩ := F.fn
  obtain ⟨nm, q, N, bs, bm, sn, sub, ab, col, dd, k0, k1, k2, k3, k5, hC, hbm⟩ := T.cls
  have X := M.kin
  have hxC : x ≠ C := fun z => by
    rw [z, X _ _ hC] at hx
    cases hx
  refine ks_codeAny_call_defAt (fd := ksFn "__init__" qual (args_ [arg_ "self" p5]) [supCall (.Constant (.str y1) j1 a0) p0 p1 p2 p3 p4] scope0 .none kV doc pm an (.ref cda) ct cc)
    (body := [supCall (.Constant (.str y1) j1 a0) p0 p1 p2 p3 p4]) (binds := [("self", .ref x)]) hroom (X _ _ ho) rfl M.lim (codeRec_of X hcd) rfl
    (BindsTo.of_eq (hbd _ _ _ _ _ _ _ _)) (by show ∀ x ∈ scope0.names, x.2 ≠ .cell; decide) ?_ (fun h₁ hns k₁ => ?_) rfl rfl rfl
  · intro y hy'
    simp at hy'
    subst hy'
    rfl
  have M₁ : ModS K mg h₁ := M.keeps k₁
  have m1 : (fun y => List.lookup y [(("self" : Str), Value.ref x)]) "self" = some (.ref x) := by simp [List.lookup]
  have hx₁ := k₁ _ _ hx
  show _root_.PySem.wpAt _ _ _ (execs _ (ksEnv qual scope0 s.heap.objs.size fI (.ref cda) cc)) _ _ _
  have hns' : h₁.Ns s.heap.objs.size (fun y => List.lookup y [(("self" : Str), Value.ref x)]) := hns
  refine ks_wpAt_execs_cons (sup_init (mg := mg) (ar := arg_ "self" p5) (C := C) (x := x) (t0 := t0) (m := fun y => List.lookup y [(("self" : Str), Value.ref x)]) T M₁.kin M₁.glob M.sup M₁.blt hns' m1 hx₁ hxC ho rfl hcode hvs hfile hcell rfl rfl rfl rfl
    (fun h' tk k => Calls.Constant_str ⟨_, rfl⟩) rfl (hev_of hpos rfl) (by first | rfl | with_unfolding_all rfl) (fun h₂ tk₂ t₂ k₂ hx₂ => ?_))
  refine wpAt_of_wpAny (wpAny_execs_nil (hq h₂ tk₂ ⟨fun b o hb e => k₂ b o hb (k₁ b o e), ⟨_, hx₂⟩, fun dx' e => ?_⟩))
  cases e

/-- a made error -/
structure OwnMade (h h' : Heap) (e C : Addr) (d : Option Addr) (fs : List (Str × Value)) : Prop where
  keep : ∀ b o, h.get? b = some o → h'.get? b = some o
  new : h.objs.size ≤ e
  obj : ∃ oe vs, h'.get? e = some oe ∧ oe.cls = .ref C ∧ oe.dict = d ∧ oe.data = .fields vs ∧ vs[1]? = some .none ∧ vs[2]? = some .none
  own : ∀ dx, d = some dx → h.objs.size ≤ dx ∧ dx ≠ e ∧ h'.Ns1 dx (fun y => fs.lookup y)
/-- __init__ of the class at C, called with rest, leaves the fields fs -/
def InitOk (prog : Program) (w : World) (K : Frag) (mg : Str → Option Value) (C fI : Addr) (rest : List Value) (fs : List (Str × Value)) (own : Bool) : Prop :=
  ∀ (A : Around) (R : Result → Shared → Prop) (s : Shared) (x t0 : Addr), ModS K mg s.heap → s.heap.get? x = some (excO C t0) → K.lookup x = none → A.depth < recursionLimit →
    (∀ h' tk d, InitEnd s.heap h' x C d fs → d.isSome = own → R (.ok (.ret .none)) { s with heap := h', toks := tk }) → codeAny (model prog w) A (.call (.ref fI) ⟨.ref x :: rest, []⟩) R s
theorem made {rest : List Value} {fs : List (Str × Value)} {own : Bool} (T : ErrC prog K C) (iC : findIn K (.ref C) "__init__" = some (some (.ref fI))) (tI : typeIn K (.ref fI) = some (.type "function")) (I : InitOk prog w K mg C fI rest fs own)
    (M : ModS K mg s.heap) (hroom : A.depth + 1 < recursionLimit) (hz : rest.length ≤ sizeLine)
    (hq : ∀ h' tk e d, OwnMade s.heap h' e C d fs → d.isSome = own → R (.ok (.ret (.ref e))) { s with heap := h', toks := tk }) :
    codeAny (model prog w) A (.call (.ref C) ⟨rest, []⟩) R s := by
  obtain ⟨nm, q, N, bs, bm, sn, sub, ab, col, dd, k0, k1, k2, k3, k5, hC, hbm⟩ := T.cls
  obtain ⟨hp, g, dr, tk, os⟩ := s
  have X := M.kin
  have k : ∀ b o, hp.get? b = some o → ((hp.push (kdv_tup rest)).push (excO C hp.objs.size)).get? b = some o := fun b o e => Heap.get?_push_of_some _ (Heap.get?_push_of_some _ e)
  have hget : ((hp.push (kdv_tup rest)).push (excO C hp.objs.size)).get? (hp.objs.size + 1) = some (excO C hp.objs.size) := by heap_get
  have hnx : K.lookup (hp.objs.size + 1) = none := by
    cases e : K.lookup (hp.objs.size + 1) with
    | none => rfl
    | some o =>
      have z : hp.get? (hp.objs.size + 1) = some o := X _ _ e
      exact absurd (Nat.lt_of_succ_lt (Heap.lt_size z)) (Nat.lt_irrefl _)
  refine call_own F.excBase_ValueError (fun Y => refsVE_contains Y bm hbm) (X _ _ hC) (looks_findIn X iC) (fun self => bind_fn X self tI) hz ?_
  refine I _ _ ⟨(hp.push (kdv_tup rest)).push (excO C hp.objs.size), g, dr, tk, os⟩ (hp.objs.size + 1) hp.objs.size (M.keeps k) hget hnx ?_ fun h' tk' d ⟨k', ⟨t1, hx⟩, hd⟩ ho => ?_
  · show A.depth + 1 < recursionLimit
    exact hroom
  · have old : ∀ b o, hp.get? b = some o → h'.get? b = some o := fun b o e => k' b o (Nat.ne_of_lt (Nat.lt_succ_of_lt (Heap.lt_size e))) (k b o e)
    refine ⟨rfl, hq h' tk' (hp.objs.size + 1) d ⟨old, Nat.le_succ _, ⟨_, _, hx, rfl, rfl, rfl, rfl, rfl⟩, fun dx e => ?_⟩ ho⟩
    obtain ⟨dn, dne, hns⟩ := hd dx e
    have z : hp.objs.size + 1 + 1 ≤ dx := by
      first
        | (simpa only [Heap.size_push] using dn)
        | exact dn
        | (have q := dn; rw [Heap.size_push, Heap.size_push] at q; exact q)
    exact ⟨Nat.le_trans (Nat.le_trans (Nat.le_succ _) (Nat.le_succ _)) z, dne, hns⟩
end
end OwnX
end PySem
namespace L2
open PySem PySem.Spec PyProof.Rows
/-- a class of errors of the program, called x, at C, its __init__ at fI -/
structure ErrK (P : Program) (K : PySem.W.Frag) (mg : Str → Option Value) (x : Str) (C fI : Addr) : Prop where
  gC : mg x = some (.ref C)
  T : PySem.OwnX.ErrC P K C
  kC : PySem.W.keepIn K (.ref C) = true
  exC : PySem.W.subIn K (.ref C) (.type "BaseException") = some true
  tyC : PySem.W.typeIn K (.ref C) = some (.type "type")
  iC : PySem.W.findIn K (.ref C) "__init__" = some (some (.ref fI))
  tI : PySem.W.typeIn K (.ref fI) = some (.type "function")
  sup : mg "super" = none
theorem relO_list : ∀ {fs : List (Str × V)} {us : List (Str × Value)}, KV fs us → ∀ f, RelO (fs.lookup f) (us.lookup f)
  | _, _, .nil, f => trivial
  | (a, v) :: fs, (b, u) :: us, .cons ⟨e, r⟩ t, f => by
    have e' : a = b := e
    subst e'
    by_cases h : f = a
    · subst h
      simp only [List.lookup, beq_self_eq_true]
      exact r
    · have z : (f == a) = false := by simpa using h
      simp only [List.lookup, z]
      exact relO_list t f
section
variable {X : Cx} {C fI : Addr} {x : Str}
theorem Inv.modS {pins : List (Addr × Obj)} {σ : St} {H : Hp} {s : Shared} (I : Inv X pins σ H s) (h : X.mg "super" = none) : PySem.OwnX.ModS X.K X.mg s.heap := by
  obtain ⟨mb, b1, b2⟩ := I.ok.mod.blt
  exact ⟨I.kIn, I.nolimit, I.ok.mod.glob.at fun o q => I.bk _ _ q, ⟨mb, b1.at fun o q => I.bk _ _ q, b2⟩, h⟩
/-- x(e, ..): fs tells the fields off the arguments; ok what is asked of them -/
def tMkE (C : Addr) (ok : List V → Prop) (fs : List V → List (Str × V)) (ta : TA) : St → Hp → XK → Prop := fun σ H Q => ta σ H fun vs H1 => ok vs ∧ ∀ d, H1 d = none → Q (.ref C) (some d) (upd H1 d (.xd (fs vs)))
theorem pmk_err {a : Expr} {as : List Expr} {ta : TA} {p pos : Pos} {k : Nat} {ok : List V → Prop} {fs : List V → List (Str × V)} (T : ErrK X.prog X.K X.mg x C fI)
    (hi : ∀ vs us, Vals vs us → ok vs → us.length ≤ sizeLine ∧ ∃ ufs, KV (fs vs) ufs ∧ PySem.OwnX.InitOk X.prog X.w X.K X.mg C fI us ufs true)
    (hr : Room k X.A) (ha : PA X (a :: as) ta) (hg : Gl X x) (hdb : (x == ("__debug__" : Str)) = false := by decide)
    (he : starEach (a :: as) X.env = (false, eval a X.env) :: starEach as X.env := by rfl) (hpl : (backTo pos (starEach as X.env)).any (·.1) = false := by rfl) :
    L2N.PMk X (.Call (.Name x p) (a :: as) [] pos) (tMkE C ok fs ta) := by
  intro pins s σ H Q I h
  refine wpAny_Call_Name_kw (ld_glob I hg T.gC ?_ hdb)
  refine PySem.W.callWith_K (h₀ := X.base) I.ok.mod.kin T.kC (thn (ha.run pos pins s σ H _ I h) fun us s1 hh => ?_) he hpl
  obtain ⟨vs, H1, I1, r1, hok, q1⟩ := hh
  obtain ⟨hz, ufs, kv, hin⟩ := hi vs us r1 hok
  refine ⟨I1.kIn, ?_⟩
  show wpAny _ _ (call (.ref C) us) _ _ _
  have M0 := I1.modS T.sup
  obtain ⟨hp, g, dr, tk, os⟩ := s1
  refine wpAny_call (PySem.OwnX.made T.T T.iC T.tI hin M0 (by have := hr.dp; omega) hz fun h' tk' e d M ho => ?_)
  show L2N.MkP X pins σ Q (.ref e) ⟨h', g, dr, tk', os⟩
  obtain ⟨oe, fv, hoe, hc, hd, hdat, h1, h2⟩ := M.obj
  cases d with
  | none => cases ho
  | some d =>
    obtain ⟨dbig, dne, hns⟩ := M.own d rfl
    obtain ⟨G', g1, g2⟩ := restrict h' fun b => decide (b ≠ e)
    have gk : ∀ b, b ≠ e → G'.get? b = h'.get? b := fun b hb => g1 b (decide_eq_true hb)
    have ge : G'.get? e = none := g2 e (by simp)
    have old : ∀ b o, hp.get? b = some o → G'.get? b = some o := fun b o q => (gk b (Nat.ne_of_lt (Nat.lt_of_lt_of_le (Heap.lt_size q) M.new))).trans (M.keep b o q)
    have ob : ObjOk X.prog X.w (upd H1 d (.xd (fs vs))) G' d (.xd (fs vs)) :=
      ⟨_, hns.at (fun o q => (gk d dne).trans q), fun f => relO_list kv f⟩
    have J : Inv X pins σ (upd H1 d (.xd (fs vs))) ⟨G', g, dr, tk', os⟩ := I1.laid (t' := tk') old dbig ob
    refine ⟨e, oe, fv, ⟨G', g, dr, tk', os⟩, _, .ref C, some d, rfl, J, fun b o q => ?_, ge, hoe, ⟨hc, hd, fun z hz => by rw [hdat] at hz; cases hz; exact h2⟩, hdat, h1, ?_, rfl, I1.bare, raises_own T.exC T.tyC, q1 d (I1.hok.fresh dbig)⟩
    · by_cases hb : b = e
      · have q' : G'.get? b = some o := q
        rw [hb, ge] at q'; cases q'
      · exact (gk b hb).symm.trans q
    · rw [upd_ne (Ne.symm dne)]
      exact I1.hok.fresh M.new
end
end L2

/-! the classes of errors of the program, as a def of the text meets them -/
namespace PySem
namespace OwnX
open PySem.W PySem.Calls PyProof.Rows PySem.HandSPX
/-- what is asked of the text -/
structure ShapeOk (p2 p3 : Pos) (y : Str) : Prop where
  pos : (p2.endLine == p3.line) = true
  len : y.length ≤ 1000
structure Bd1 (qual : Str) (ar : Arguments) (body : List Stmt) (sc : Scope) (f1 : Str) : Prop where
  b : ∀ (kV doc pm : Value) (an : Option Addr) (cda : Addr) (ct : Value) (cc : Addr) (x v : Value), bindArgs (ksFn "__init__" qual ar body sc .none kV doc pm an (.ref cda) ct cc) ⟨[x, v], []⟩ = pure [(("self" : Str), x), (f1, v)]
structure Bd2 (qual : Str) (ar : Arguments) (body : List Stmt) (sc : Scope) (f1 f2 : Str) : Prop where
  b : ∀ (kV doc pm : Value) (an : Option Addr) (cda : Addr) (ct : Value) (cc : Addr) (x v u : Value), bindArgs (ksFn "__init__" qual ar body sc .none kV doc pm an (.ref cda) ct cc) ⟨[x, v, u], []⟩ = pure [(("self" : Str), x), (f1, v), (f2, u)]
structure Bd0 (qual : Str) (ar : Arguments) (body : List Stmt) (sc : Scope) : Prop where
  b : ∀ (kV doc pm : Value) (an : Option Addr) (cda : Addr) (ct : Value) (cc : Addr) (x : Value), bindArgs (ksFn "__init__" qual ar body sc .none kV doc pm an (.ref cda) ct cc) ⟨[x], []⟩ = pure [(("self" : Str), x)]
/-- __init__ with one field: its text -/
def Sh1 (st : Stmt) (f1 : Str) (c1 : Int) (qual : Str) : Prop := ∃ (y1 : Str) (j1 : Nat) (a0 a1 a2 a3 p0 p1 p2 p3 p4 p5 p6 q1 q2 q3 q4 : Pos),
  L2.defArgs st = args_ [arg_ "self" p5, arg_ f1 p6] ∧ L2.defBody st = [supCall (txt1 y1 c1 f1 j1 a0 a1 a2 a3) p0 p1 p2 p3 p4, setSelf f1 q1 q2 q3 q4] ∧ L2.defScope st = scope1 f1 ∧ ShapeOk p2 p3 y1 ∧ Bd1 qual (L2.defArgs st) (L2.defBody st) (L2.defScope st) f1
def Sh2 (st : Stmt) (f1 : Str) (c1 : Int) (f2 : Str) (c2 : Int) (qual : Str) : Prop := ∃ (y1 y2 : Str) (j1 j2 : Nat) (a0 a1 a2 b0 b1 b2 a3 p0 p1 p2 p3 p4 p5 p6 p7 q1 q2 q3 q4 r1 r2 r3 r4 : Pos),
  L2.defArgs st = args_ [arg_ "self" p5, arg_ f1 p6, arg_ f2 p7] ∧ L2.defBody st = [supCall (txt2 y1 c1 f1 y2 c2 f2 j1 j2 a0 a1 a2 b0 b1 b2 a3) p0 p1 p2 p3 p4, setSelf f1 q1 q2 q3 q4, setSelf f2 r1 r2 r3 r4] ∧ L2.defScope st = scope2 f1 f2 ∧ ShapeOk p2 p3 y1 ∧ y2.length ≤ 1000 ∧ Bd2 qual (L2.defArgs st) (L2.defBody st) (L2.defScope st) f1 f2
def Sh0 (st : Stmt) (qual : Str) : Prop := ∃ (y1 : Str) (j1 : Nat) (a0 p0 p1 p2 p3 p4 p5 : Pos),
  L2.defArgs st = args_ [arg_ "self" p5] ∧ L2.defBody st = [supCall (.Constant (.str y1) j1 a0) p0 p1 p2 p3 p4] ∧ L2.defScope st = scope0 ∧ (p2.endLine == p3.line) = true ∧ Bd0 qual (L2.defArgs st) (L2.defBody st) (L2.defScope st)
section
variable {prog : Program} {w : World} {K : Frag} {mg : Str → Option Value} {C fI : Addr} {st : Stmt} {qual f1 f2 : Str} {c1 c2 : Int}
theorem initOk1 (T : ErrC prog K C) (F : ErrF prog K C fI qual (L2.defArgs st) (L2.defBody st) (L2.defScope st)) (S : ErrS K C [f1]) (sh : Sh1 st f1 c1 qual) (nf : NmOk f1) {v : Value} (fm : FmV c1 v) : InitOk prog w K mg C fI [v] [(f1, v)] true := by
  obtain ⟨y1, j1, a0, a1, a2, a3, p0, p1, p2, p3, p4, p5, p6, q1, q2, q3, q4, ea, eb, es, so, bd⟩ := sh
  rw [ea, eb, es] at F bd
  exact fun A R s x t0 M hx hnx hr hq => init1 T F S nf M hx hnx hr so.pos fm so.len bd.b fun h' tk d e => hq h' tk (some d) e rfl
theorem initOk2 (T : ErrC prog K C) (F : ErrF prog K C fI qual (L2.defArgs st) (L2.defBody st) (L2.defScope st)) (S : ErrS K C [f1, f2]) (sh : Sh2 st f1 c1 f2 c2 qual) (nf : NmOk f1) (nf2 : NmOk f2) (ne : (f1 == f2) = false) (ne2 : (f2 == f1) = false) {v u : Value} (fm : FmV c1 v) (fm2 : FmV c2 u) :
    InitOk prog w K mg C fI [v, u] [(f2, u), (f1, v)] true := by
  obtain ⟨y1, y2, j1, j2, a0, a1, a2, b0, b1, b2, a3, p0, p1, p2, p3, p4, p5, p6, p7, q1, q2, q3, q4, r1, r2, r3, r4, ea, eb, es, so, so2, bd⟩ := sh
  rw [ea, eb, es] at F bd
  exact fun A R s x t0 M hx hnx hr hq => init2 T F S nf nf2 ne ne2 M hx hnx hr so.pos fm fm2 so.len so2 bd.b fun h' tk d e => hq h' tk (some d) e rfl
theorem initOk0 (T : ErrC prog K C) (F : ErrF prog K C fI qual (L2.defArgs st) (L2.defBody st) (L2.defScope st)) (sh : Sh0 st qual) : InitOk prog w K mg C fI [] [] false := by
  obtain ⟨y1, j1, a0, p0, p1, p2, p3, p4, p5, ea, eb, es, so, bd⟩ := sh
  rw [ea, eb, es] at F bd
  exact fun A R s x t0 M hx hnx hr hq => init0 T F M hx hnx hr so bd.b fun h' tk e => hq h' tk none e rfl
end
end OwnX
end PySem
namespace L2
open PySem PySem.Spec PyProof.Rows PySem.OwnX
/-- what an f-string may hold of a value -/
def FmX (c : Int) : V → Prop
  | .str z => (c = 114 ∧ (reprText z).length ≤ 7000000) ∨ (c = -1 ∧ z.length ≤ 7000000)
  | .int i => c = -1 ∧ i.natAbs.log2 < 1920
  | _ => False
theorem FmX.v {c : Int} {v : V} {u : Value} (h : FmX c v) (r : RelV v u) : FmV c u := by
  cases v with
  | str z =>
    obtain ⟨t, rfl⟩ := r
    exact h
  | int i =>
    obtain ⟨t, rfl⟩ := r
    exact h
  | _ => exact h.elim
/-- all that is told of a class of errors: C, ForkError-like bases within bm -/
structure ErrA (P : Program) (K : PySem.W.Frag) (mg : Str → Option Value) (x : Str) (C fI : Addr) (fs : List Str) : Prop where
  k : ErrK P K mg x C fI
  s : ErrS K C fs
  x : XfC K C
  i : ExcC K C
structure Err1 (P : Program) (K : PySem.W.Frag) (mg : Str → Option Value) (x : Str) (C : Addr) (f1 : Str) (c1 : Int) : Prop where
  ex : ∃ (fI : Addr) (qual : Str) (st : Stmt), ErrA P K mg x C fI [f1] ∧ ErrF P K C fI qual (defArgs st) (defBody st) (defScope st) ∧ Sh1 st f1 c1 qual
  nf : NmOk f1
structure Err2 (P : Program) (K : PySem.W.Frag) (mg : Str → Option Value) (x : Str) (C : Addr) (f1 : Str) (c1 : Int) (f2 : Str) (c2 : Int) : Prop where
  ex : ∃ (fI : Addr) (qual : Str) (st : Stmt), ErrA P K mg x C fI [f1, f2] ∧ ErrF P K C fI qual (defArgs st) (defBody st) (defScope st) ∧ Sh2 st f1 c1 f2 c2 qual
  nf : NmOk f1 ∧ NmOk f2 ∧ (f1 == f2) = false ∧ (f2 == f1) = false
structure Err0 (P : Program) (K : PySem.W.Frag) (mg : Str → Option Value) (x : Str) (C : Addr) : Prop where
  ex : ∃ (fI : Addr) (qual : Str) (st : Stmt), ErrA P K mg x C fI [] ∧ ErrF P K C fI qual (defArgs st) (defBody st) (defScope st) ∧ Sh0 st qual
section
variable {X : Cx} {C : Addr} {x f1 f2 : Str} {c1 c2 : Int}
def ok1 (c : Int) (vs : List V) : Prop := ∃ v, vs = [v] ∧ FmX c v
def fs1 (f : Str) : List V → List (Str × V)
  | [v] => [(f, v)]
  | _ => []
def ok2 (c d : Int) (vs : List V) : Prop := ∃ v u, vs = [v, u] ∧ FmX c v ∧ FmX d u
def fs2 (f g : Str) : List V → List (Str × V)
  | [v, u] => [(g, u), (f, v)]
  | _ => []
theorem pmk_err1 {a : Expr} {as : List Expr} {ta : TA} {p pos : Pos} {k : Nat} (T : Err1 X.prog X.K X.mg x C f1 c1) (hr : Room k X.A) (ha : PA X (a :: as) ta) (hg : Gl X x := by rfl) (hdb : (x == ("__debug__" : Str)) = false := by decide)
    (he : starEach (a :: as) X.env = (false, eval a X.env) :: starEach as X.env := by rfl) (hpl : (backTo pos (starEach as X.env)).any (·.1) = false := by rfl) : L2N.PMk X (.Call (.Name x p) (a :: as) [] pos) (tMkE C (ok1 c1) (fs1 f1) ta) := by
  obtain ⟨fI, qual, st, EA, F, sh⟩ := T.ex
  refine pmk_err EA.k (fun vs us r hok => ?_) hr ha hg hdb he hpl
  obtain ⟨v, rfl, fm⟩ := hok
  cases r with
  | cons r1 r2 =>
    cases r2
    exact ⟨one_size _, _, .cons ⟨rfl, r1⟩ .nil, initOk1 EA.k.T F EA.s sh T.nf (fm.v r1)⟩
theorem pmk_err2 {a : Expr} {as : List Expr} {ta : TA} {p pos : Pos} {k : Nat} (T : Err2 X.prog X.K X.mg x C f1 c1 f2 c2) (hr : Room k X.A) (ha : PA X (a :: as) ta) (hg : Gl X x := by rfl) (hdb : (x == ("__debug__" : Str)) = false := by decide)
    (he : starEach (a :: as) X.env = (false, eval a X.env) :: starEach as X.env := by rfl) (hpl : (backTo pos (starEach as X.env)).any (·.1) = false := by rfl) : L2N.PMk X (.Call (.Name x p) (a :: as) [] pos) (tMkE C (ok2 c1 c2) (fs2 f1 f2) ta) := by
  obtain ⟨fI, qual, st, EA, F, sh⟩ := T.ex
  refine pmk_err EA.k (fun vs us r hok => ?_) hr ha hg hdb he hpl
  obtain ⟨v, u, rfl, fm, fm2⟩ := hok
  cases r with
  | cons r1 r2 =>
    cases r2 with
    | cons r2 r3 =>
      cases r3
      exact ⟨by rw [sizeLine_eq]; show 2 ≤ 16777216; decide, _, .cons ⟨rfl, r2⟩ (.cons ⟨rfl, r1⟩ .nil), initOk2 EA.k.T F EA.s sh T.nf.1 T.nf.2.1 T.nf.2.2.1 T.nf.2.2.2 (fm.v r1) (fm2.v r2)⟩
/-- x() -/
theorem pmk_err0 {p pos : Pos} {k : Nat} (T : Err0 X.prog X.K X.mg x C) (hr : Room k X.A) (hg : Gl X x := by rfl) (hdb : (x == ("__debug__" : Str)) = false := by decide) : L2N.PMk X (.Call (.Name x p) [] [] pos) (fun _ H Q => Q (.ref C) none H) := by
  obtain ⟨fI, qual, st, EA, F, sh⟩ := T.ex
  intro pins s σ H Q I h
  refine wpAny_Call_Name_kw (ld_glob I hg EA.k.gC ?_ hdb)
  have M0 := I.modS EA.k.sup
  have hin := initOk0 (w := X.w) (mg := X.mg) EA.k.T F sh
  refine PySem.W.callWith_K0 I.kIn EA.k.kC ?_
  obtain ⟨hp, g, dr, tk, os⟩ := s
  refine wpAny_call (PySem.OwnX.made EA.k.T EA.k.iC EA.k.tI hin M0 (by have := hr.dp; omega) (Nat.zero_le _) fun h' tk' e d M ho => ?_)
  show L2N.MkP X pins σ Q (.ref e) ⟨h', g, dr, tk', os⟩
  obtain ⟨oe, fv, hoe, hc, hd, hdat, h1, h2⟩ := M.obj
  cases d with
  | some d => cases ho
  | none =>
    obtain ⟨G', g1, g2⟩ := restrict h' fun b => decide (b ≠ e)
    have gk : ∀ b, b ≠ e → G'.get? b = h'.get? b := fun b hb => g1 b (decide_eq_true hb)
    have ge : G'.get? e = none := g2 e (by simp)
    have old : ∀ b o, hp.get? b = some o → G'.get? b = some o := fun b o q => (gk b (Nat.ne_of_lt (Nat.lt_of_lt_of_le (Heap.lt_size q) M.new))).trans (M.keep b o q)
    have J : Inv X pins σ H ⟨G', g, dr, tk', os⟩ := I.kept (t' := tk') old
    refine ⟨e, oe, fv, ⟨G', g, dr, tk', os⟩, _, .ref C, none, rfl, J, fun b o q => ?_, ge, hoe, ⟨hc, hd, fun z hz => by rw [hdat] at hz; cases hz; exact h2⟩, hdat, h1, I.hok.fresh M.new, rfl, I.bare, raises_own EA.k.exC EA.k.tyC, h⟩
    by_cases hb : b = e
    · have q' : G'.get? b = some o := q
      rw [hb, ge] at q'; cases q'
    · exact (gk b hb).symm.trans q
end
/-- isinstance(e, c), e the exception that the suite holds, with a dict of its own -/
def rIsED (K : PySem.W.Frag) (D a : Addr) (d : Option Addr) : List V → Hp → VK → Prop := fun xs H Q => ∃ (c : V) (cv : Value) (b : Bool), xs = [.ref a, c] ∧ (∀ u, RelV c u → u = cv) ∧ PySem.W.kitOne K (.ref D) cv = some b ∧ (∀ dd, d = some dd → ∃ fs, H dd = some (.xd fs)) ∧ Q (.bl b) H
theorem call_isED {X : Cx} {a D : Addr} {oe : Obj} {d : Option Addr} {pn : List (Addr × Obj)} (C : ExcC X.K D) (hz : Zc (.ref D) d oe) (hf : ∃ vs, oe.data = .fields vs) : CallR (X.suite a ((a, oe) :: pn)) (.builtin "isinstance") (rIsED X.K D a d) := by
  intro pins s σ H xs us Q I r h
  obtain ⟨c, cv, b, rfl, hcv, e, hd, q⟩ := h
  cases r with
  | cons rx rr =>
    cases rr with
    | cons rt rr =>
      cases rr
      cases rx
      have ec := hcv _ rt
      subst ec
      obtain ⟨hget, _⟩ := I.pin (a, oe) (List.mem_append.mpr (.inl List.mem_cons_self))
      obtain ⟨vs, hv⟩ := hf
      have hcl : (PySem.W.clsIn X.K D).isSome = true := by
        obtain ⟨cd, hc, _⟩ := PySem.W.any_some C.hd
        rw [hc]
        rfl
      obtain ⟨od, J⟩ : ∃ od, PySem.W.InstAt s.heap a oe D od := by
        obtain ⟨oc, od, oda, osl⟩ := oe
        obtain ⟨h1, h2⟩ := hz
        dsimp only at h1 h2 hv
        subst h1 h2 hv
        cases od with
        | none => exact ⟨none, hget, rfl, rfl, trivial⟩
        | some dd =>
          obtain ⟨fs, hdd⟩ := hd dd rfl
          obtain ⟨mA, ⟨o, es, ep, ho, _⟩, _⟩ := I.hok dd _ hdd
          exact ⟨some o, hget, rfl, rfl, ho⟩
      exact PySem.W.kia_one (PySem.W.kitx_exc hcl C.hg C.hk C.hs C.ha C.hn C.ht C.hm) I.kIn J e (fun z => nomatch z) fun tk => ⟨.bl b, H, I.kept (t' := tk) fun _ _ z => z, rfl, q⟩
/-- .. whatever its class: the reading tells it -/
def rIsEA (K : PySem.W.Frag) (cls : Value) (a : Addr) (d : Option Addr) : List V → Hp → VK → Prop := fun xs H Q => ∃ D, cls = .ref D ∧ ExcC K D ∧ rIsED K D a d xs H Q
theorem call_isEA {X : Cx} {a : Addr} {oe : Obj} {cls : Value} {d : Option Addr} {pn : List (Addr × Obj)} (hz : L2N.Zn cls d oe) (hf : ∃ vs, oe.data = .fields vs) : CallR (X.suite a ((a, oe) :: pn)) (.builtin "isinstance") (rIsEA X.K cls a d) := by
  intro pins s σ H xs us Q I r h
  obtain ⟨D, rfl, c, q⟩ := h
  exact call_isED c hz.zc hf pins s σ H xs us Q I r q
/-- e.n, whatever its class -/
def tXfA (K : PySem.W.Frag) (a : Addr) (cls : Value) (d : Option Addr) (n : Str) (te : TE) : TE := fun σ H Q => ∃ C, cls = .ref C ∧ XfC K C ∧ PySem.W.findIn K (.ref C) n = some none ∧ tXf a cls d C n te σ H Q
theorem pe_xfA {X : Cx} {a : Addr} {oe : Obj} {cls : Value} {d : Option Addr} {pn : List (Addr × Obj)} {e : Expr} {te : TE} {pos : Pos} {n : Str} (hz : L2N.Zn cls d oe) (hf : ∃ vs, oe.data = .fields vs) (he : PE (X.suite a ((a, oe) :: pn)) e te) (hb : attributeBase e n X.env (eval e X.env) = eval e X.env := by rfl) :
    PE (X.suite a ((a, oe) :: pn)) (.Attribute e n pos) (tXfA X.K a cls d n te) := by
  refine ⟨fun pins s σ H Q I h => ?_⟩
  obtain ⟨C, rfl, T, no, q⟩ := h
  exact (pe_xf T no hz.zc hf he hb).run pins s σ H Q I q
/-- a def that may raise, as a constant of the module -/
structure CalX (P : Program) (w : World) (K : PySem.W.Frag) (mg : Str → Option Value) (base : Heap) (k : Nat) (x : Str) (sp : Sp) : Prop where
  ex : ∃ (f : Addr) (fd : FuncData) (ps : List Str), FnOk P w K mg base (L2N.CX P w) k f fd ps sp ∧ mg x = some (.ref f) ∧ PySem.W.keepIn K (.ref f) = true ∧ Binds K fd ps []
theorem pe_cX {X : Cx} {j k : Nat} {x : Str} {sp : Sp} {W : WX} {e : Expr} {es : List Expr} {t : TA} {p pos : Pos} (c : CalX X.prog X.w X.K X.mg X.base k x sp) (hr : Room j X.A) (hk : k ≤ j) (hg : Gl X x) (tk : L2N.Takes X W) (ha : PA X (e :: es) t)
    (hdb : (x == ("__debug__" : Str)) = false := by decide) (he : starEach (e :: es) X.env = (false, eval e X.env) :: starEach es X.env := by rfl) (hpl : (backTo pos (starEach es X.env)).any (·.1) = false := by rfl) : PE X (.Call (.Name x p) (e :: es) [] pos) (tCallS sp (WE W) t) := by
  obtain ⟨f, fd, ps, F, hm, kp, b⟩ := c.ex
  exact pe_callS F (hr.mono hk) hg hm kp b (fun σ => L2N.passAt tk σ) ha hdb he hpl
/-- of a class in an except clause or as a value -/
theorem Err1.g {P : Program} {K : PySem.W.Frag} {mg : Str → Option Value} {x f : Str} {C : Addr} {c : Int} (T : Err1 P K mg x C f c) : mg x = some (.ref C) := by
  obtain ⟨fI, q, st, EA, _⟩ := T.ex
  exact EA.k.gC
theorem Err2.g {P : Program} {K : PySem.W.Frag} {mg : Str → Option Value} {x f g : Str} {C : Addr} {c d : Int} (T : Err2 P K mg x C f c g d) : mg x = some (.ref C) := by
  obtain ⟨fI, q, st, EA, _⟩ := T.ex
  exact EA.k.gC
theorem Err0.g {P : Program} {K : PySem.W.Frag} {mg : Str → Option Value} {x : Str} {C : Addr} (T : Err0 P K mg x C) : mg x = some (.ref C) := by
  obtain ⟨fI, q, st, EA, _⟩ := T.ex
  exact EA.k.gC
theorem Err1.a {P : Program} {K : PySem.W.Frag} {mg : Str → Option Value} {x f : Str} {C : Addr} {c : Int} (T : Err1 P K mg x C f c) : XfC K C ∧ ExcC K C ∧ PySem.W.findIn K (.ref C) f = some none := by
  obtain ⟨fI, q, st, EA, _⟩ := T.ex
  exact ⟨EA.x, EA.i, EA.s.no f (by simp)⟩
theorem Err2.a {P : Program} {K : PySem.W.Frag} {mg : Str → Option Value} {x f g : Str} {C : Addr} {c d : Int} (T : Err2 P K mg x C f c g d) : XfC K C ∧ ExcC K C ∧ PySem.W.findIn K (.ref C) f = some none ∧ PySem.W.findIn K (.ref C) g = some none := by
  obtain ⟨fI, q, st, EA, _⟩ := T.ex
  exact ⟨EA.x, EA.i, EA.s.no f (by simp), EA.s.no g (by simp)⟩
theorem Err0.a {P : Program} {K : PySem.W.Frag} {mg : Str → Option Value} {x : Str} {C : Addr} (T : Err0 P K mg x C) : XfC K C ∧ ExcC K C := by
  obtain ⟨fI, q, st, EA, _⟩ := T.ex
  exact ⟨EA.x, EA.i⟩
/-- the promise of a def that may raise, by its body -/
theorem Fun.okN {P : Program} {w : World} {K : PySem.W.Frag} {mg : Str → Option Value} {base : Heap} {x qual : Str} {st : Stmt} {f : Addr} {fd : FuncData} {N ps : List Str} {k : Nat} {sp : Sp} (F : Fun K x qual st f fd) (sc : FnScope N ps (defScope st)) (hl : ∀ vs H Q E, sp vs H Q E → vs.length = ps.length)
    (body : ∀ (cdv : Value) (A : Around) (outer : List Env) (s : Shared) (H : Hp) (vs : List V) (Q : VK) (E : XK), Room k (A.deeper (envOfC qual (defScope st) s.heap.objs.size f cdv)) → sp vs H Q E →
      ∃ t, PSs (cxOf (L2N.CX P w) P w K mg base N qual (defScope st) f cdv A outer s H E) (defBody st) t ∧ t { nx := fun _ H' => Q .non H', rt := Q } (start N vs) H) :
    FnOk P w K mg base (L2N.CX P w) (k + 1) f fd ps sp := by
  obtain ⟨_, _, _, _, _, _, cdv, _, _, rfl, look, code⟩ := F.ex
  exact fn_of look code sc hl (body cdv)
end L2

/-! several except clauses, each with a name or without -/
namespace Fx
open PySem PySem.Spec PyProof.Rows L2
/-- a clause: the class it names, the slot of its name, what its suite asks -/
structure Cl where
  c : Value
  slot : Option Nat
  ts : Addr → Value → Option Addr → TS
def Cl.put (q : Cl) (σ : L2.St) (a : Addr) : L2.St := match q.slot with
  | none => σ
  | some i => σ.set i (some (.ref a))
def Cl.gone (q : Cl) (σ : L2.St) : L2.St := match q.slot with
  | none => σ
  | some i => σ.set i none
def Cl.ends (q : Cl) (D : Ends) : Ends := { nx := fun σ H => D.nx (q.gone σ) H, rt := D.rt, bk := fun σ H => D.bk (q.gone σ) H, ct := fun σ H => D.ct (q.gone σ) H }
/-- what is wished of an exception of the body, clause by clause -/
def wish (K : PySem.W.Frag) (W0 : WX) (D : Ends) : List Cl → WX
  | [] => W0
  | q :: r => fun cls d σ H => ∃ b, PySem.W.exmOne K cls q.c = some b ∧ (b = true → ∀ a, H a = none → q.ts a cls d (q.ends D) (q.put σ a) H) ∧ (b = false → wish K W0 D r cls d σ H)
/-- a try as a statement's reading -/
def tTry (K : PySem.W.Frag) (W0 : WX) (l : List Cl) (tb : WX → TS) : TS := fun D σ H => tb (wish K W0 D l) D σ H
def SuiteOk (X : Cx) (q : Cl) (suite : List Stmt) : Prop := ∀ (a : Addr) (oe : Obj) (cls : Value) (d : Option Addr) (pn : List (Addr × Obj)), L2N.Zn cls d oe → (∃ vs, oe.data = .fields vs) → ∃ t, PSs (X.suite a ((a, oe) :: pn)) suite t ∧ t = q.ts a cls d
inductive ClsOk (X : Cx) : List ExceptHandler → List Cl → Prop
  | nil : ClsOk X [] []
  | bare {x : Str} {c : Value} {ts : Addr → Value → Option Addr → TS} {b0 : Stmt} {suite : List Stmt} {np pos' : Pos} {hs : List ExceptHandler} {l : List Cl} (hc : Names X x c) (hsu : SuiteOk X ⟨c, none, ts⟩ (b0 :: suite)) (r : ClsOk X hs l) :
      ClsOk X (.ExceptHandler (some (.Name x np)) none (b0 :: suite) pos' :: hs) (⟨c, none, ts⟩ :: l)
  | named {x n : Str} {c : Value} {i : Nat} {ts : Addr → Value → Option Addr → TS} {b0 : Stmt} {suite : List Stmt} {np pos' : Pos} {hs : List ExceptHandler} {l : List Cl} (hN : X.N.Nodup) (hi : X.N[i]? = some n) (hl : X.env.kindOf n = some .local) (hc : Names X x c) (hsu : SuiteOk X ⟨c, some i, ts⟩ (b0 :: suite)) (r : ClsOk X hs l) :
      ClsOk X (.ExceptHandler (some (.Name x np)) (some n) (b0 :: suite) pos' :: hs) (⟨c, some i, ts⟩ :: l)
section
variable {X : Cx} {pins : List (Addr × Obj)} {D : Ends} {W0 : WX}
/-- the exception at a, of the class cls, its dict at d, caught by this frame: in flight over the ground B -/
structure Held (X : Cx) (pins : List (Addr × Obj)) (a : Addr) (B : Heap) (cls : Value) (d : Option Addr) (σ : L2.St) (H : Hp) (sI s : Shared) : Prop where
  st : X.stack = X.env :: X.outer
  fr : X.env.frame = some X.env.locals
  inv : Inv X pins σ H sI
  nb : ∀ b o, sI.heap.get? b = some o → b ∉ frs X.stack → B.get? b = some o
  up : sI.heap.UpToSlots s.heap
  fly : HandSPX.FlyingZ B (X.env :: X.outer) a (L2N.Zn cls d) s.heap
  na : H a = none
  os : s.os = sI.os
  ag : AllBare s.gens
variable {a : Addr} {B : Heap} {cls : Value} {d : Option Addr} {σ : L2.St} {H : Hp} {sI s : Shared}
theorem Held.moved {h4 : Heap} (h : Held X pins a B cls d σ H sI s) (f : HandSPX.FlyingZ B (X.env :: X.outer) a (L2N.Zn cls d) h4) (u : s.heap.UpToSlots h4) : Held X pins a B cls d σ H sI { s with heap := h4 } :=
  ⟨h.st, h.fr, h.inv, h.nb, h.up.trans u, f, h.na, h.os, h.ag⟩
/-- what the suite's context asks -/
theorem Held.look (h : Held X pins a B cls d σ H sI s) : ∃ oe vs, s.heap.get? a = some oe ∧ L2N.Zn cls d oe ∧ oe.data = .fields vs ∧ Inv X pins σ H s ∧ Inv (X.suite a ((a, oe) :: (X.pn ++ pins))) [] σ H s := by
  obtain ⟨oe, vs, he, hz, hd⟩ := h.fly.there
  have J := h.inv.landed h.nb h.fly.1 h.up h.os h.ag
  have out : ∀ b ∈ frs (X.env :: X.outer), b ≠ a := fun b hb e => by
    subst e
    obtain ⟨_, o, ho, hn⟩ := h.fly.2.2.1.mem hb
    rw [he] at ho
    cases ho
    exact hn _ hd
  have n1 : a ≠ X.env.locals := fun e => out X.env.locals (List.mem_filterMap.mpr ⟨X.env, List.mem_cons_self, h.fr⟩) e.symm
  have n2 : a ∉ X.fs := fun hm => by
    obtain ⟨e, h1, h2⟩ := List.mem_filterMap.mp hm
    exact out a (List.mem_filterMap.mpr ⟨e, List.mem_cons_of_mem _ h1, h2⟩) rfl
  exact ⟨oe, vs, he, hz, hd, J, J.suite he hd h.na n1 n2⟩
/-- no clause takes it: it flies on -/
theorem Held.on (h : Held X pins a B cls d σ H sI s) (tk : L2N.Takes X W0) (w : W0 cls d σ H) : wpAny (model X.prog X.w) X.A (handleBy (.ref a) X.env []) (SP X pins D) X.xe s := by
  refine wpAny_handleBy_nil ?_
  obtain ⟨oe, vs, T, oT, ts, he, hz, hd, h1, hr⟩ := h.fly.2.2.2
  unfold PySem.passOn
  refine wpAny_bind (wpAny_field he hd h1 ?_)
  rw [if_neg (show ¬ ((Value.ref T == Value.none) = true) by simp)]
  have last : wpAny (model X.prog X.w) X.A (setFlight (.ref a) X.env.frame) (fun _ s4 => wpAny (model X.prog X.w) X.A (throw (.ref a) : Sem Flow) (SP X pins D) X.xe s4) X.xe s := by
    rw [h.fr]
    refine HandSPX.setFlight_upZ h.fly fun h4 k4 u4 => wpAny_throw (tk _ _ ⟨a, B, sI, pins, σ, H, cls, d, rfl, h.inv, h.nb, h.up.trans u4, ?_, h.na, h.os, h.ag, w⟩)
    rw [h.st]
    exact .inr (.inr k4)
  first
    | exact wpAny_bind (wpAny_pure (wpAny_bind last))
    | exact wpAny_bind last
/-- the clause's class is asked -/
theorem Held.test {x : Str} {c : Value} {np : Pos} {b : Bool} {Q : Bool → Shared → Prop} {E : Value → Shared → Prop} (h : Held X pins a B cls d σ H sI s) (hc : Names X x c) : ∃ oe, Inv (X.suite a ((a, oe) :: (X.pn ++ pins))) [] σ H s ∧
    ∀ {Q : Value → Shared → Prop} {E : Value → Shared → Prop}, Q c s → wpAny (model X.prog X.w) (X.A.mark (some (.ref a))) (eval (.Name x np) X.env) Q E s := by
  obtain ⟨oe, vs, he, hz, hd, J, S⟩ := h.look
  refine ⟨oe, S, fun {Q E} q => ?_⟩
  obtain ⟨g, db, m | ⟨m, v, n⟩⟩ := hc
  · exact ld_glob (X := X.suite a ((a, oe) :: (X.pn ++ pins))) S g m q db
  · exact ld_blt (X := X.suite a ((a, oe) :: (X.pn ++ pins))) S g m v q n db
theorem Held.handled {hs : List ExceptHandler} {l : List Cl} (tk : L2N.Takes X W0) (ok : ClsOk X hs l) : ∀ {s : Shared}, Held X pins a B cls d σ H sI s → wish X.K W0 D l cls d σ H → wpAny (model X.prog X.w) X.A (handleBy (.ref a) X.env hs) (SP X pins D) X.xe s := by
  induction ok with
  | nil => exact fun {s} h w => h.on tk w
  | @bare x c ts b0 suite np pos' hs l hc hsu r ih =>
    intro s h w
    obtain ⟨b, hb, yes, no⟩ := w
    obtain ⟨oe, vs, he, hz, hd, J, S⟩ := h.look
    obtain ⟨_, _, test⟩ := Held.test (np := np) (b := b) (Q := fun _ _ => True) (E := fun _ _ => True) h hc
    have LT : PySem.W.Looks (model X.prog X.w) s.heap (typeOf (.ref a)) cls := fun A Q E s' k q => wpAny_typeOf_ref (k _ _ he) (by rw [hz.1]; exact q)
    have LM := PySem.W.exm_one (M := model X.prog X.w) J.kIn LT hb
    refine wpAny_handleBy_cons (codeAny_handlers_test (test (LM.here ?_))) (by intro q; cases q)
    cases b with
    | false => exact ih h (no rfl)
    | true =>
      refine codeAny_handlers_suite (HandSPX.lands_againZ h.fly fun h4 f4 u4 => ?_)
      have h' := h.moved f4 u4
      obtain ⟨oe4, vs4, he4, hz4, hd4, J4, S4⟩ := h'.look
      obtain ⟨t4, ht4, et4⟩ := hsu a oe4 cls d (X.pn ++ pins) hz4 ⟨_, hd4⟩
      rw [et4] at ht4
      refine wpAny_mono (ht4.run [] _ _ H _ S4 (yes rfl a h.na)) (fun f s6 q => ?_) (fun _ _ z => z.elim)
      have ok := h.inv.ok
      cases f with
      | ret u =>
        obtain ⟨v, σ6, H6, S6, r6, q6⟩ := q
        exact ⟨v, σ6, H6, S6.unsuite ok, r6, q6⟩
      | next | brk | cont =>
        obtain ⟨σ6, H6, S6, q6⟩ := q
        exact ⟨σ6, H6, S6.unsuite ok, q6⟩
  | @named x n c i ts b0 suite np pos' hs l hN hi hl hc hsu r ih =>
    intro s h w
    obtain ⟨b, hb, yes, no⟩ := w
    obtain ⟨oe, vs, he, hz, hd, J, S⟩ := h.look
    obtain ⟨_, _, test⟩ := Held.test (np := np) (b := b) (Q := fun _ _ => True) (E := fun _ _ => True) h hc
    have LT : PySem.W.Looks (model X.prog X.w) s.heap (typeOf (.ref a)) cls := fun A Q E s' k q => wpAny_typeOf_ref (k _ _ he) (by rw [hz.1]; exact q)
    have LM := PySem.W.exm_one (M := model X.prog X.w) J.kIn LT hb
    refine wpAny_handleBy_cons (codeAny_handlers_test (test (LM.here ?_))) (by intro q; cases q)
    cases b with
    | false => exact ih h (no rfl)
    | true =>
      refine codeAny_handlers_suite_as (HandSPX.lands_againZ h.fly fun h4 f4 u4 => ?_)
      have h' := h.moved f4 u4
      obtain ⟨oe4, vs4, he4, hz4, hd4, J4, S4⟩ := h'.look
      have ok := h.inv.ok
      refine store_ok (X := X.suite a ((a, oe4) :: (X.pn ++ pins))) (v := .ref a) S4 hN hi (.inl hl) rfl (fun s5 S5 => ?_) (.inr hl)
      obtain ⟨t4, ht4, et4⟩ := hsu a oe4 cls d (X.pn ++ pins) hz4 ⟨_, hd4⟩
      rw [et4] at ht4
      refine wpAny_mono (ht4.run [] s5 _ H _ S5 (yes rfl a h.na)) (fun f s6 q => ?_) (fun _ _ z => z.elim)
      cases f with
      | ret u =>
        obtain ⟨v, σ6, H6, S6, r6, q6⟩ := q
        exact gone_ok (S6.unsuite ok) hN hi hl fun s7 J7 => ⟨_, _, _, J7, r6, q6⟩
      | next | brk | cont =>
        obtain ⟨σ6, H6, S6, q6⟩ := q
        exact gone_ok (S6.unsuite ok) hN hi hl fun s7 J7 => ⟨_, _, J7, q6⟩
/-- try: body, several clauses -/
theorem ps_try_cl {body : List Stmt} {h0 : ExceptHandler} {hs : List ExceptHandler} {l : List Cl} {pos : Pos} {tb : WX → TS} (st : X.stack = X.env :: X.outer) (hf : X.env.frame = some X.env.locals) (tk : L2N.Takes X W0)
    (hb : ∀ (W : WX) (pn : List (Addr × Obj)) (xe : Value → Shared → Prop), L2N.Takes (X.tr pn xe) W → PassesOwn (model X.prog X.w) X.A X.env xe → PSs (X.tr pn xe) body (tb W))
    (hh : ClsOk X (h0 :: hs) l) : PS X (.Try body (h0 :: hs) [] [] pos) (tTry X.K W0 l tb) := by
  refine ⟨fun pins s σ H D I h => ?_⟩
  have ok := I.ok
  refine wpAny_Try_except (wpAny_mono ((hb (wish X.K W0 D l) (X.pn ++ pins) (fun e s1 => wpAny (model X.prog X.w) X.A (noteFrame e X.env) (fun _ s2 => wpAny (model X.prog X.w) X.A (setFlight e none) (fun _ s3 =>
    wpAny (model X.prog X.w) X.A (handleBy e X.env (h0 :: hs)) (SP X pins D) X.xe s3) X.xe s2) X.xe s1) (fun u s' x => ?_) PassesOwn.looking).run [] s σ H D (I.toTry _) h) (fun f s1 q => ?_) fun e s1 z => z)
  · obtain ⟨a, B, sI, pins', σ', H', cls, d, rfl, J', nb, up, sky, na, os, ag, w⟩ := x
    have sky' : Sky B (X.env :: X.outer) a (L2N.Zn cls d) X.env.locals s'.heap := by
      rw [← st]
      exact sky
    have hfr : X.A.frames = some (X.env :: X.outer) := by rw [ok.frames, st]
    refine L2N.Sky.land L2N.Zn.steady hfr hf sky' fun h3 f3 u3 => ?_
    exact Held.handled tk hh ⟨st, hf, J'.ofTry ok, nb, up.trans u3, f3, na, os, ag⟩ w
  · cases f with
    | next =>
      obtain ⟨σ', H', J', r⟩ := q
      exact wpAny_execs_nil ⟨σ', H', J'.ofTry ok, r⟩
    | ret u =>
      obtain ⟨v, σ', H', J', r⟩ := q
      exact ⟨v, σ', H', J'.ofTry ok, r⟩
    | brk | cont =>
      obtain ⟨σ', H', J', r⟩ := q
      exact ⟨σ', H', J'.ofTry ok, r⟩
end
end Fx

/-! a list comprehension over range within an except suite -/
namespace Fx
open PySem PySem.Spec PyProof.Rows L2 L2H
/-- nothing may be let out -/
theorem none0 {X : Cx} : L2N.Takes X (fun _ _ _ _ => False) := by
  rintro u s' ⟨_, _, _, _, _, _, _, _, _, _, _, _, _, _, _, _, no⟩
  exact no.elim
/-- a suite stands where an exception is handled -/
theorem hot_suite {X : Cx} {a : Addr} {oe : Obj} {cls : Value} {d : Option Addr} {pn : List (Addr × Obj)} (hz : L2N.Zn cls d oe) (hf : ∃ vs, oe.data = .fields vs) : HotC (X.suite a ((a, oe) :: pn)) := by
  obtain ⟨vs, e⟩ := hf
  exact ⟨(a, oe), ⟨rfl, vs, e, hz.2.2 vs e⟩, List.mem_cons_self⟩
/-- a block's context that keeps p, the exception that is handled, in sight -/
abbrev hblk (X : Cx) (p : Addr × Obj) (s : Shared) (H : Hp) (scope : Scope) (ce : Env) (fp : List Addr) : Cx := { X.blk s H scope ce fp with pn := [p] }
theorem hblk_in {X : Cx} {p : Addr × Obj} {s s' : Shared} {H H' : Hp} {scope : Scope} {ce : Env} {fp : List Addr} {σ : L2.St} (I : Inv (X.blk s H scope ce fp) [] σ H' s') (g : s'.heap.get? p.1 = some p.2) (n : H' p.1 = none) (l : p.1 ≠ ce.locals)
    (f : p.1 ∉ frs X.stack) (c : ∀ v, p.2.data ≠ .cell v) : Inv (hblk X p s H scope ce fp) [] σ H' s' := by
  have o := I.ok
  refine ⟨⟨o.mod, o.kind, o.glob, o.blt, o.above, o.inj, o.has, o.cab, o.hd, o.frames, o.stk, o.exf, o.bs, o.bsz, o.noex, o.exfs, o.funs, o.frf⟩, I.os, I.bare, I.base, I.loc, I.cell, I.free, I.freeC, ?_, I.hok, I.len⟩
  intro q hq
  obtain rfl : q = p := by simpa using (show q ∈ [p] ++ [] from hq)
  exact ⟨g, n, l, f, c⟩
/-- what the iterator's objects are to a context, whatever is tracked -/
def Apart (B : Cx) (b : Addr) : Prop := ∀ H : Hp, H b = none → FpOk B [] H b
/-- what one turn asks, the n-th of m -/
def Turn1 (J : It) (g : TG) (tt : TT) (te : TE) (vs : List Nat) (τ : L2.St) (D : Addr) (Q : VK) (W : Nat → Nat → Hp → Prop) : Prop :=
  ∀ i m H, W i m H → (J.stop i H ∧ Q (.ref D) H) ∨ (J.go i H ∧ ∃ Nx : Hp → Prop, (∀ H', Nx H' → ∃ m', m' < m ∧ W (i + 1) m' H') ∧ ∀ x H', J.yld i H x H' → g x τ H' fun σ2 H2 => wipe σ2 vs = τ ∧ tt σ2 H2 fun b H3 =>
    if b = true then te σ2 H3 fun y H4 => ∃ acc, H4 D = some (.lst acc) ∧ acc.length < sizeLine ∧ Nx (upd H4 D (.lst (acc ++ [y]))) else Nx H3)
theorem loopH {B : Cx} {J : It} {it D : Addr} {fp : List Addr} {tn : Nat → Heap → Prop} {tg iter elt : Expr} {ifs : List Expr} {scope : Scope} {pos : Pos} {g : TG} {tt : TT} {te : TE} {vs : List Nat} {τ : L2.St} {Q : VK} {W : Nat → Nat → Hp → Prop} {R : Result → Shared → Prop}
    (hx : B.xe = fun _ _ => False) (hot : HotC B) (T : TurnH B.prog B.w B.K tg J fp it tn) (ap : ∀ b ∈ fp, Apart B b) (pg : PG B tg g) (pt : PTs B ifs tt) (pe : PE B elt te) (turns : Turn1 J g tt te vs τ D Q W)
    (fin : ∀ s H, Inv B [] τ H s → Q (.ref D) H → R (.ok .next) s) {m0 : Nat} {s0 : Shared} {H0 : Hp} (I0 : Inv B [] τ H0 s0) (t0 : tn 0 s0.heap) (n0 : ∀ b ∈ fp, H0 b = none) (w0 : W 0 m0 H0) :
    codeAny (model B.prog B.w) B.A (.compLoop (.ListComp elt [⟨tg, iter, ifs, 0⟩] scope pos) 0 (.ref it) (.ref D) B.env) R s0 := by
  refine compLoop_any (fun m s => ∃ i H, Inv B [] τ H s ∧ tn i s.heap ∧ (∀ b ∈ fp, H b = none) ∧ W i m H) (fun m s h => ?_) m0 ⟨0, H0, I0, t0, n0, w0⟩
  obtain ⟨i, H, I, t, nn, w⟩ := h
  have okAll : ∀ {H : Hp}, (∀ b ∈ fp, H b = none) → ∀ b ∈ fp, FpOk B [] H b := fun z b hb => ap b hb _ (z b hb)
  rcases turns i m H w with ⟨hs, q⟩ | ⟨hg, Nx, less, step⟩
  · -- the end
    refine thnF (T.done B rfl rfl rfl hot i [] s τ H (fun _ _ => False) I (okAll nn) t hs) ?_
    rintro _ s1 ⟨rfl, I1⟩
    exact fin s1 H I1 q
  · refine thnF (T.item B rfl rfl rfl hot i [] s τ H (fun _ _ => False) I (okAll nn) t hg) ?_
    rintro _ s1 ⟨u, rfl, h1⟩
    refine thnF h1 ?_
    rintro _ s2 ⟨x, H2, I2, rx, y2, t2, n2⟩
    have Ip := I2.pinned (okAll n2) (T.obj _ _ t2)
    have rg := pg.run _ s2 τ H2 x u _ Ip rx (step x H2 y2)
    rw [hx] at rg
    refine thnF rg ?_
    rintro _ s3 ⟨σ3, H3, I3, e3, q3⟩
    have rt := pt.run _ s3 σ3 H3 _ I3 q3
    rw [hx] at rt
    refine thnF rt ?_
    rintro b s4 ⟨H4, I4, q4⟩
    -- where the turn ends
    have turned : ∀ {s' : Shared} {H' : Hp}, Inv B ([] ++ pinsAt fp s2.heap) σ3 H' s' → Nx H' → ∃ m', m' < m ∧ ∃ i H, Inv B [] τ H s' ∧ tn i s'.heap ∧ (∀ b ∈ fp, H b = none) ∧ W i m' H := by
      intro s' H' I' nx
      obtain ⟨m', lt, w'⟩ := less H' nx
      have see : ∀ b ∈ fp, ∀ o, s2.heap.get? b = some o → s'.heap.get? b = some o ∧ H' b = none := fun b hb o e => by
        have z := I'.pin (b, o) (List.mem_append_right _ (List.mem_append_right _ (mem_pinsAt hb e)))
        exact ⟨z.1, z.2.1⟩
      have len : τ.length = σ3.length := by
        rw [← e3]
        exact wipe_length ..
      refine ⟨m', lt, i + 1, H', ?_, T.keep _ _ _ t2 (fun b hb o e => (see b hb o e).1), (fun b hb => ?_), w'⟩
      · refine (Inv.unpinned (pins := []) I').weak len fun j v e => ?_
        rw [← e3] at e
        exact (wipe_some e).1
      · obtain ⟨o, e, _⟩ := T.obj _ _ t2 b hb
        exact (see b hb o e).2
    cases b with
    | false =>
      exact turned I4 (by simpa using q4)
    | true =>
      have re := pe.run _ s4 σ3 H4 _ I4 (by simpa using q4)
      rw [hx] at re
      refine thnF re ?_
      rintro v s5 ⟨y, H5, I5, ry, acc, hD, small, nx⟩
      exact app_ok (X := B) I5 hD small ry fun s6 I6 => turned I6 nx
/-- [elt for target in range(..) if ..], where an exception is handled -/
theorem pe_lcH {X : Cx} {elt tg iter : Expr} {ifs : List Expr} {scope : Scope} {own : List (Str × Nat)} {pos : Pos} {wi : TI} {g : TG} {tt : TT} {te : TE} (hot : HotC X) (hN : X.N.Nodup) (hi : PIH X tg iter wi) (ok : BlkOk X.N X.env.scope scope own)
    (hg : ∀ (p : Addr × Obj) (s : Shared) (H : Hp) (C : Addr) (cl : List (Str × Addr)) (fp : List Addr), PG (hblk X p s H scope (compEnvC scope cl C X.env) fp) tg g)
    (ht : ∀ (p : Addr × Obj) (s : Shared) (H : Hp) (C : Addr) (cl : List (Str × Addr)) (fp : List Addr), PTs (hblk X p s H scope (compEnvC scope cl C X.env) fp) ifs tt)
    (he : ∀ (p : Addr × Obj) (s : Shared) (H : Hp) (C : Addr) (cl : List (Str × Addr)) (fp : List Addr), PE (hblk X p s H scope (compEnvC scope cl C X.env) fp) elt te) (hs : ∀ x, foldedSetIterable iter X.env x = pure x := by intro _; rfl) :
    PE X (.ListComp elt [⟨tg, iter, ifs, 0⟩] scope pos) (tLc wi g tt te (own.map (·.2))) := by
  refine ⟨fun pins s σ H Q I h => ?_⟩
  rw [eval_ListComp]
  have closed : ∀ z ∈ scope.names, z.2 = .free → ∃ c, X.env.cells.lookup z.1 = some c := fun z hz e => I.ok.has _ (ok.free z hz e)
  refine wpAny_comprehension_free (use := none) rfl hs (closure_ok closed) ok.kind (fun z hz e => by rw [ok.uniq z hz, e]) (thn (hi.run pins s σ H _ I h) fun xv s1 h1 => thn h1 fun itv s2 h2 => ?_)
  obtain ⟨it, fp, tn, J, H2, rfl, I2, T, t2, f2, q⟩ := h2
  obtain ⟨p, hp1, hp2⟩ := hot
  have see := I2.pin p (List.mem_append_left _ hp2)
  refine wpAny_newObj_type (newEnv_comp ?_) (by show 0 ≤ sizeLine; decide)
  obtain ⟨W, ⟨m0, w0⟩, turns⟩ := q s2.heap.objs.size (I2.hok.fresh (Nat.le_refl _))
  -- the list that is filled
  have ID : Inv X pins σ (upd H2 s2.heap.objs.size (.lst [])) { s2 with heap := s2.heap.push { cls := .type "list", data := .seq ([] : List Value).toArray } } :=
    I2.laid (t' := s2.toks) (fun b o e => Heap.get?_push_of_some _ e) (Nat.le_refl _) ⟨Nat.zero_le _, [], 0, .nil, Heap.get?_push_size _ rfl⟩
  have old : ∀ b o, s2.heap.get? b = some o → b ≠ s2.heap.objs.size := fun b o e => Nat.ne_of_lt (Heap.lt_size e)
  have fD : ∀ b ∈ fp, FpOk X pins (upd H2 s2.heap.objs.size (.lst [])) b ∧ b < (s2.heap.push { cls := .type "list", data := .seq ([] : List Value).toArray }).objs.size := by
    intro b hb
    obtain ⟨o, e, _⟩ := T.obj _ _ t2 b hb
    refine ⟨⟨(upd_ne (old b o e)).trans (f2 b hb).1, (f2 b hb).2⟩, ?_⟩
    rw [Heap.size_push]
    exact Nat.lt_succ_of_lt (Heap.lt_size e)
  generalize hsD : ({ s2 with heap := s2.heap.push { cls := .type "list", data := .seq ([] : List Value).toArray } } : Shared) = sD at ID
  have heD : s2.heap.push { cls := .type "list", data := .seq ([] : List Value).toArray } = sD.heap := by rw [← hsD]
  rw [heD] at fD
  have kD : ∀ b o, s2.heap.get? b = some o → sD.heap.get? b = some o := fun b o e => by
    rw [← heD]
    exact Heap.get?_push_of_some _ e
  have nC : (upd H2 s2.heap.objs.size (HO.lst [])) p.1 = none := (upd_ne (old _ _ see.1)).trans see.2.1
  generalize hHD : upd H2 s2.heap.objs.size (HO.lst []) = HD at ID fD w0 nC
  have kB : ∀ b o, sD.heap.get? b = some o → (pushCells (sD.heap.push { cls := .type "dict", data := .dict #[] }) scope.names).get? b = some o := fun b o e => pushCells_keeps _ _ _ _ (Heap.get?_push_of_some _ e)
  have offStack : p.1 ∉ frs X.stack := fun z => (List.mem_cons.mp (ID.stkSub p.1 z)).elim see.2.2.1 see.2.2.2.1
  have IB := hblk_in (p := p) (block_start ID ok hN fD) (kB _ _ (kD _ _ see.1)) nC (Nat.ne_of_lt (Heap.lt_size (kD _ _ see.1))) offStack see.2.2.2.2
  have pg := hg p sD HD sD.heap.objs.size (cellsFrom (sD.heap.objs.size + 1) scope.names (cloFrom X.env.cells scope.names [])) fp
  have pt := ht p sD HD sD.heap.objs.size (cellsFrom (sD.heap.objs.size + 1) scope.names (cloFrom X.env.cells scope.names [])) fp
  have pe := he p sD HD sD.heap.objs.size (cellsFrom (sD.heap.objs.size + 1) scope.names (cloFrom X.env.cells scope.names [])) fp
  have tB : tn 0 (pushCells (sD.heap.push { cls := .type "dict", data := .dict #[] }) scope.names) := T.keep _ _ _ t2 fun b _ o e => kB b o (kD b o e)
  have ap : ∀ b ∈ fp, Apart (hblk X p sD HD scope (compEnvC scope (cellsFrom (sD.heap.objs.size + 1) scope.names (cloFrom X.env.cells scope.names [])) sD.heap.objs.size X.env) fp) b := by
    intro b hb H' n
    refine ⟨n, (IB.ok.exf b hb).1, IB.ok.exfs b hb, .inl hb, (IB.ok.exf b hb).2, fun r hr => ?_⟩
    obtain rfl : r = p := by simpa using (show r ∈ [p] ++ [] from hr)
    exact (f2 b hb).2.2.2.2.2 r (List.mem_append_left _ hp2)
  have go : codeAny (model X.prog X.w) X.A (.compLoop (.ListComp elt [⟨tg, iter, ifs, 0⟩] scope pos) 0 (.ref it) (.ref s2.heap.objs.size) (compEnvC scope (cellsFrom (sD.heap.objs.size + 1) scope.names (cloFrom X.env.cells scope.names [])) sD.heap.objs.size X.env))
      (compPost (model X.prog X.w) X.A X.xe none (EP X pins σ Q) (.ref s2.heap.objs.size) sD.heap.objs.size) { sD with heap := pushCells (sD.heap.push { cls := .type "dict", data := .dict #[] }) scope.names } := by
    refine loopH (B := hblk X p sD HD scope (compEnvC scope (cellsFrom (sD.heap.objs.size + 1) scope.names (cloFrom X.env.cells scope.names [])) sD.heap.objs.size X.env) fp)
      rfl ⟨p, hp1, List.mem_cons_self⟩ T ap pg pt pe (D := s2.heap.objs.size) (vs := own.map Prod.snd) (τ := wipe σ (own.map Prod.snd)) (Q := Q) (W := W) turns (fun s6 H6 I6 q6 => ?_) IB tB (fun b hb => (fD b hb).1.1) w0
    -- back in the def
    have IE : Inv X pins σ H6 s6 := ID.call' (ch := fp) I6.os I6.base I6.hok I6.bare fun b hb => ⟨(fD b hb).1.2.2.2.1, (fD b hb).1.2.1, (fD b hb).1.2.2.2.2.1, (fD b hb).1.2.2.2.2.2⟩
    obtain ⟨m, hn, _⟩ := I6.loc
    refine ⟨m, hn, fun h'' sb => ?_⟩
    obtain ⟨f0, f1, f2, f3, f4, f5⟩ := ID.fpOk (b := sD.heap.objs.size) (Nat.le_refl _) (show H6 sD.heap.objs.size = none from I6.free)
    exact ⟨.ref s2.heap.objs.size, H6, IE.turned (t' := s6.toks) (fun b o hb e => (sb.2 b hb).trans e) f0 f1 f3 f4 f5, rfl, q6⟩
  exact codeAny_compStart_list go (T.self X.A 0 _ _ _ tB go)
end Fx

/-! tuple(d.values()) -/
namespace Fx
open PySem PySem.Spec PyProof.Rows L2
section
variable {prog : Program} {w : World} {A : Around} {E : Value → Shared → Prop} {s : Shared} {T : String} {r d : Addr} {n : Nat} {Pr : Nat → Value → Prop} {OK : Heap → Prop}
/-- all that a source yields, collected -/
theorem gather {Q : List Value → Shared → Prop} (src : PySem.W.KdlSrc prog w T r d n Pr OK) (hh : A.handled = none) (hok : OK s.heap) (small : n ≤ sizeLine)
    (hQ : ∀ (h' : Heap) (tk : Nat) (acc : Array Value), (∀ b o, s.heap.get? b = some o → h'.get? b = some o) → ItemsOf Pr acc n → Q acc.toList { s with heap := h', toks := tk }) : wpAny (model prog w) A (collect (.ref r)) Q E s := by
  have old := src.there _ hok
  unfold collect
  refine wpAny_bind (wpAny_runValue (codeAny_builtin F.entry_proto_collect ?_))
  rw [Around.under_plainId F.plain_proto_collect _]
  show wpAny _ A.in1 (newList [] >>= fun z => again (.builtin "list.__iadd__" ⟨[z, .ref r], []⟩)) _ _ s
  refine wpAny_bind (wpAny_newObj_type (wpAny_pure ⟨plainId_quiet F.plain_list_iadd _, codeAny_builtin F.entry_list_iadd ?_⟩))
  rw [Around.under_plainId F.plain_list_iadd _]
  show wpAny _ A.in1 (Builtin.List.listExtendWith (.ref s.heap.objs.size) (.ref r) (.ref s.heap.objs.size)) _ _ _
  have grown : ∀ b o, s.heap.get? b = some o → (s.heap.push { cls := .type "list", data := .seq ([] : List Value).toArray }).get? b = some o := fun b o e => Heap.get?_push_of_some _ e
  refine wpAny_mono (PySem.W.kdl_extend (s := { s with heap := s.heap.push { cls := .type "list", data := .seq ([] : List Value).toArray } }) (A := A)
    (R := fun q s1 => q = .ok (.ret (.ref s.heap.objs.size)) ∧ ∃ (h' : Heap) (tk : Nat) (acc : Array Value) (c' : Nat), s1 = { s with heap := h', toks := tk } ∧ (∀ b o, s.heap.get? b = some o → h'.get? b = some o) ∧
      h'.get? s.heap.objs.size = some { cls := .type "list", dict := none, data := .seq acc c', slots := #[] } ∧ ItemsOf Pr acc n)
    src hh (src.keep _ _ hok fun b _ o e => grown b o e) s.heap.objs.size (Nat.ne_of_gt old.1) (Nat.ne_of_gt old.2) (.ref s.heap.objs.size) 0 (Heap.get?_push_size _ rfl) (fun h' tk acc c' k e items => ?_) small) (fun fin s1 h => ?_) (fun e s1 h => ?_)
  · exact ⟨rfl, h', tk, acc, c', rfl, fun b o q => k b o (Nat.ne_of_lt (Heap.lt_size q)) (grown b o q), e, items⟩
  · have last : ∀ {h' : Heap} {tk : Nat} {acc : Array Value} {c' : Nat}, (∀ b o, s.heap.get? b = some o → h'.get? b = some o) → h'.get? s.heap.objs.size = some { cls := .type "list", dict := none, data := .seq acc c', slots := #[] } → ItemsOf Pr acc n →
        wpAny (model prog w) A (load s.heap.objs.size >>= fun ob => match ob.data with | .seq a _ => (pure a.toList : Sem (List Value)) | _ => pure []) Q E { s with heap := h', toks := tk } := fun {h' tk acc c'} k e items =>
      wpAny_bind (wpAny_load e (wpAny_pure (hQ h' tk acc k items)))
    cases fin with
    | done f =>
      obtain ⟨e, h', tk, acc, c', rfl, k, hS, items⟩ := h
      cases e
      show wpAny _ A (load s.heap.objs.size >>= _) _ _ _
      exact wpAny_bind (wpAny_load hS (wpAny_pure (hQ h' tk acc k items)))
    | again c2 =>
      refine ⟨h.1, codeAny_mono h.2 fun q s2 hq => ?_⟩
      obtain ⟨rfl, h', tk, acc, c', rfl, k, hS, items⟩ := hq
      show wpAny _ A (load s.heap.objs.size >>= _) _ _ _
      exact wpAny_bind (wpAny_load hS (wpAny_pure (hQ h' tk acc k items)))
  · exact absurd h.1 (by simp)
theorem tup_of {Q : Value → Shared → Prop} (src : PySem.W.KdlSrc prog w T r d n Pr OK) (hT : T = "dict_values") (hh : A.handled = none) (hok : OK s.heap) (small : n ≤ sizeLine)
    (hQ : ∀ (h' : Heap) (tk : Nat) (acc : Array Value), (∀ b o, s.heap.get? b = some o → h'.get? b = some o) → ItemsOf Pr acc n → Q (.ref h'.objs.size) { s with heap := h'.push { cls := .type "tuple", data := .seq acc }, toks := tk }) :
    wpAny (model prog w) A (call (.type "tuple") [.ref r]) Q E s := by
  subst hT
  refine callType_codes (Q₁ := fun v s1 => s1.TypeIs v "tuple" ∧ Q v s1) F.called_tuple (F.typeCall_tuple_1 _) F.entry_object_init (codeAny_of_tree ?_) fun v s1 h1 =>
    ⟨h1.1, F.args_object_init_2 v _, object_init_meets F.called_tuple.init.lookup F.called_tuple.made (by decide) prog w A.in1 _ s1 ⟨h1.1, rfl, h1.2⟩⟩
  show wpAny _ A.in1.in1 (do checkBuiltinCall "tuple.__new__" ⟨[.type "tuple", .ref r], []⟩; again (.builtin "tuple.__new__" ⟨[.type "tuple", .ref r], []⟩)) _ _ s
  refine wpAny_bind (wpAny_of_eq (F.newCall_tuple_1 _) (wpAny_pure ⟨plainId_quiet F.plain_tuple_new _, codeAny_builtin F.entry_tuple_new ?_⟩))
  rw [Around.under_plainId F.plain_tuple_new _]
  have k1 := sub_tuple_self
  have k2 := init_tuple_lookup
  have k3 := madeHere_tuple
  have ty : s.TypeIs (.ref r) "dict_values" := src.type s hok
  have hh1 : A.in1.in1.handled = none := hh
  wp_walk using wpAny_typeOf ty, gather (A := A.in1.in1) src hh1 hok small
  intro h' tk acc k items
  show wpAny _ _ (Builtin.Tuple.tupleExact acc.toList.toArray >>= fun v => ret v) _ _ _
  unfold Builtin.Tuple.tupleExact
  refine wpAny_bind (wpAny_newObj_type (wpAny_pure ?_) (by show acc.toList.toArray.size ≤ sizeLine; rw [Array.toArray_toList, items.1]; exact small))
  rw [show acc.toList.toArray = acc by simp]
  exact ⟨⟨_, Heap.get?_push_size _ rfl, rfl⟩, hQ h' tk acc k items⟩
end
theorem vals_snd {α : Type} : ∀ {kvs : List (α × V)} {vs : List (α × Value)}, Paired (fun a b => a.1 = b.1 ∧ RelV a.2 b.2) kvs vs → Vals (kvs.map (·.2)) (vs.map (·.2))
  | [], [], _ => .nil
  | _ :: _, _ :: _, .cons h r => .cons h.2 (vals_snd r)
/-- tuple(e.values()): e a dict with keys that are numbers or texts -/
def tTupVals (td : TE) : TE := fun σ H Q => td σ H fun x H1 => ∃ d kvs, x = .ref d ∧ H1 d = some (.dK kvs) ∧ ∀ q, H1 q = none → Q (.ref q) (upd H1 q (.tup (kvs.map (·.2))))
theorem pe_tupVals {X : Cx} {e : Expr} {td : TE} {p apos cpos pos : Pos} (calm : X.calm = true) (hg : Gl X "tuple") (hm : X.mg "tuple" = none) (he : PE X e td) (hbase : attributeBase e "values" X.env (eval e X.env) = eval e X.env := by rfl) (hline : (apos.endLine == cpos.line) = true := by rfl)
    (na : starEach [(.Call (.Attribute e "values" apos) [] [] cpos)] X.env = (false, eval (.Call (.Attribute e "values" apos) [] [] cpos) X.env) :: starEach [] X.env := by rfl) : PE X (.Call (.Name "tuple" p) [.Call (.Attribute e "values" apos) [] [] cpos] [] pos) (tTupVals td) := by
  refine ⟨fun pins s σ H Q I h => ?_⟩
  refine Call_ (ld_blt I hg hm boot_tuple (PyProof.Rows.callWith_type1 (args_cons ?_ na) na))
  refine wpAny_Call_method (T := "dict") (id := "dict.values") hbase rfl hline F.plainAttrs_dict F.slot_dict_values F.type_dict_values (thn (he.run pins s σ H _ I h) fun u s1 ⟨x, H1, I1, rx, d, kvs, ex, hd, q⟩ => ?_)
  subst ex
  obtain rfl : u = Value.ref d := rx
  obtain ⟨z, lo, vs, rk, hD⟩ := (show ObjOk X.prog X.w H1 s1.heap d (.dK kvs) from I1.hok d _ hd)
  obtain ⟨ep, hat⟩ := hD.dictAt
  have hl : kvs.length = vs.length := Paired.length rk
  refine ⟨hD.typeIs, hD.mapOf.noDict, ?_⟩
  show wpAny _ _ (callWith cpos (.builtin "dict.values") [.ref d] [] []) _ X.xe s1
  have I2 : Inv X pins σ H1 { s1 with heap := s1.heap.push { cls := .type "dict_values", data := .fields #[.ref d] } } := I1.kept (t' := s1.toks) fun b o e => Heap.get?_push_of_some _ e
  refine method_meetsIn F.slot_dict_values F.entry_dict_values rfl (PySem.evalArgs_none ⟨rfl, hD.typeIs, F.args_dict_values_1 _, _, meets_dict_values (mixKind X.prog X.w) d lo, ⟨vs, hD⟩, ?_⟩)
  refine args_nil ?_
  refine tup_of (PySem.W.kdl_values (knd := mixKind X.prog X.w) (r := s1.heap.objs.size) (d := d) (kvs := vs) (ep := ep)) rfl (I1.ok.hd calm) ⟨⟨_, Heap.get?_push_size _ rfl, rfl, rfl⟩, hat.push _⟩ (by rw [← hl]; exact z) fun h' tk acc keep items => ?_
  have I3 : Inv X pins σ H1 { s1 with heap := h', toks := tk } := I2.kept keep
  have I4 : Inv X pins σ (upd H1 h'.objs.size (.tup (kvs.map (·.2)))) { s1 with heap := h'.push { cls := .type "tuple", data := .seq acc }, toks := tk } := by
    refine I3.laid (t' := tk) (fun b o e => Heap.get?_push_of_some _ e) (Nat.le_refl _) (show ObjOk X.prog X.w _ _ _ (.tup (kvs.map (·.2))) from ⟨by rw [List.length_map]; exact z, acc.toList, ?_, ?_⟩)
    · have e : acc.toList = vs.map (·.2) := PySem.W.kdl_vals_eq acc.toList (by rw [Array.length_toList]; exact items.1) fun j v hj => items.2 j v (by rw [← hj, Array.getElem?_toList])
      rw [e]
      exact vals_snd rk
    · rw [Array.toArray_toList]
      exact IsTup.new _ _
  exact ⟨.ref h'.objs.size, _, I4, rfl, q _ (I3.hok.fresh (Nat.le_refl _))⟩
end Fx

/-! objects of a class of the program: made by an __init__ that may raise, asked by their methods -/
namespace Fx
open PySem PySem.Spec PyProof.Rows L2
/-- the class x at C, its __init__ keeps sp and may raise -/
structure MkX (P : Program) (w : World) (K : PySem.W.Frag) (mg : Str → Option Value) (base : Heap) (k : Nat) (x : Str) (C : Addr) (sp : Sp) : Prop where
  ex : ∃ (f : Addr) (fd : FuncData) (ps : List Str), Mk K C f ∧ FnOk P w K mg base (L2N.CX P w) k f fd ps sp ∧ mg x = some (.ref C) ∧ Binds K fd ps []
/-- x(..): the new object at y, its dict at dy -/
def tMkX (C : Addr) (sp : Sp) (W : WX) (t : TA) : TE := fun σ H Q => t σ H fun vs H1 => ∀ y dy, H1 y = none → H1 dy = none → dy ≠ y → sp (.ref y :: vs) (upd (upd H1 dy (.own y)) y (.ins C dy [])) (fun v H2 => v = .non ∧ Q (.ref y) H2) (WE W σ)
theorem pe_mkX {X : Cx} {j k : Nat} {x : Str} {C : Addr} {sp : Sp} {W : WX} {e : Expr} {es : List Expr} {t : TA} {p pos : Pos} (c : MkX X.prog X.w X.K X.mg X.base k x C sp) (hr : Room j X.A) (hk : k + 1 ≤ j) (hg : Gl X x) (tk : L2N.Takes X W) (ha : PA X (e :: es) t)
    (hdb : (x == ("__debug__" : Str)) = false := by decide) (he : starEach (e :: es) X.env = (false, eval e X.env) :: starEach es X.env := by rfl) (hpl : (backTo pos (starEach es X.env)).any (·.1) = false := by rfl) : PE X (.Call (.Name x p) (e :: es) [] pos) (tMkX C sp W t) := by
  obtain ⟨f, fd, ps, M, F, hm, b⟩ := c.ex
  refine ⟨fun pins s σ H Q I h => ?_⟩
  refine wpAny_Call_Name_kw (ld_glob I hg hm ?_ hdb)
  refine PySem.W.callWith_K (h₀ := X.base) I.ok.mod.kin M.kp (thn (ha.run pos pins s σ H _ I h) fun us s1 ⟨vs, H1, I1, r, q⟩ => ⟨I1.kIn, ?_⟩) he hpl
  have asked := q (s1.heap.objs.size + 1) s1.heap.objs.size (I1.hok.fresh (Nat.le_succ _)) (I1.hok.fresh (Nat.le_refl _)) (Nat.ne_of_lt (Nat.lt_succ_self _))
  have J := Inv.made (C := C) I1
  have rel : Vals (V.ref (s1.heap.objs.size + 1) :: vs) (Value.ref (s1.heap.objs.size + 1) :: us) := .cons rfl r
  have len : (Value.ref (s1.heap.objs.size + 1) :: us).length = ps.length := by rw [← rel.length]; exact F.len _ _ _ _ asked
  have bound := b _ (Value.ref (s1.heap.objs.size + 1) :: us) J.kIn (by rw [List.append_nil]; exact len)
  rw [List.append_nil] at bound
  have ran := F.run _ X.stack _ _ ⟨Value.ref (s1.heap.objs.size + 1) :: us, []⟩ _ _ _ _ ((hr.mono hk).make C us []) (J.env0.make C us []) bound rel asked
  refine wpAny_call (make_map (f := f) I1.kIn M.makes M.init (beq_iff_eq.mp M.fn) (codeAny_mono ran fun r2 s2 got => ?_))
  match r2 with
  | .error e =>
    exact tk e s2 (L2N.XE.of_call J (fun _ _ _ z => z) got)
  | .ok (.ret u) =>
    obtain ⟨v, H2, J2, rv, ev, q2⟩ := J.after got
    subst ev
    exact ⟨rv, ⟨V.ref (s1.heap.objs.size + 1), H2, J2, rfl, q2⟩⟩
  | .ok .next | .ok .brk | .ok .cont => exact got.elim
/-- a method m of the class at C that raises nothing -/
structure MethC (P : Program) (w : World) (K : PySem.W.Frag) (mg : Str → Option Value) (base : Heap) (k : Nat) (C : Addr) (m : Str) (sp : Sp) : Prop where
  ex : ∃ (f : Addr) (fd : FuncData) (ps : List Str), Meth K C m f ∧ FnOk P w K mg base CX0 k f fd ps sp ∧ Binds K fd ps []
theorem pe_mc0 {X : Cx} {j k : Nat} {C : Addr} {m : Str} {sp : Sp} {o : Expr} {to : TE} {apos pos : Pos} {pl : Sem Bool} (c : MethC X.prog X.w X.K X.mg X.base k C m sp) (cl : Cls X.K C) (hr : Room j X.A) (hk : k ≤ j) (ho : PE X o to)
    (ht : eval (.Call (.Attribute o m apos) [] [] pos) X.env = (do
      let v ← eval o X.env
      standAt apos.atName
      let (g, self) ← holding [v] (getMethod v m pl)
      callWith pos g self (backTo pos (starEach [] X.env)) (backToKw pos (keywordEach [] X.env))) := by rfl) : PE X (.Call (.Attribute o m apos) [] [] pos) (tMeth C m sp [] C8.E0 to tNil) := by
  obtain ⟨f, fd, ps, M, F, b⟩ := c.ex
  exact pe_meth0 ho cl M F (hr.mono hk) b .nil pass0 ht
end Fx

/-! operators that a class of the program says by its own methods -/
namespace Fx
open PySem PySem.Spec PyProof.Rows L2
/-- an instance of the class at C stands at p -/
def At (C : Addr) (H : Hp) (p : Addr) : Prop := ∃ dx fs, H p = some (.ins C dx fs)
theorem inst {X : Cx} {pins : List (Addr × Obj)} {σ : L2.St} {H : Hp} {s : Shared} {C p : Addr} (I : Inv X pins σ H s) (h : At C H p) : ∃ o od, PySem.W.InstAt s.heap p o C od := by
  obtain ⟨dx, fs, e⟩ := h
  obtain ⟨mA, O, _⟩ := ins_get I.hok e
  obtain ⟨od, J, _⟩ := O.look
  exact ⟨_, _, J⟩
/-- a method m of the class at C, said for an operator; CX tells what it may let out -/
structure Op (CX : CXT) (P : Program) (w : World) (K : PySem.W.Frag) (mg : Str → Option Value) (base : Heap) (k : Nat) (C : Addr) (m : Str) (sp : Sp) : Prop where
  ex : ∃ (f : Addr) (fd : FuncData) (ps : List Str), PySem.W.findIn K (.ref C) m = some (some (.ref f)) ∧ PySem.W.isFn K (.ref f) = true ∧ PySem.W.fnIn K f = true ∧ FnOk P w K mg base CX k f fd ps sp ∧ Binds K fd ps []
section
variable {X : Cx} {j k : Nat} {C : Addr} {sp : Sp}
theorem at0 {E : XK} {σ : L2.St} : PassesAt CX0 X σ E := fun _ _ _ _ _ _ h => h.elim
/-- a method of the class, called one level deeper -/
theorem run_in1 {CX : CXT} {f : Addr} {fd : FuncData} {ps : List Str} {E : XK} {pins : List (Addr × Obj)} {σ : L2.St} {H : Hp} {s : Shared} {Q : VK} {us : List Value} {vs : List V} (F : FnOk X.prog X.w X.K X.mg X.base CX k f fd ps sp) (hr : Room j X.A) (hk : k + 1 ≤ j) (bd : Binds X.K fd ps [])
    (hx : PassesAt CX X σ E) (I : Inv X pins σ H s) (r : Vals vs us) (h : sp vs H Q E) : wpAny (model X.prog X.w) X.A.in1 (call (.ref f) us) (EP X pins σ Q) X.xe s := by
  have len : us.length = ps.length := by rw [← r.length]; exact F.len _ _ _ _ h
  have bound := bd s us I.kIn (by rw [List.append_nil]; exact len)
  rw [List.append_nil] at bound
  refine wpAny_call (codeAny_mono (F.run X.A.in1 X.stack s H ⟨us, []⟩ us vs Q E (hr.mono hk).in1 I.env0.in1 bound r h) fun r s1 got => ?_)
  match r with
  | .error e => exact hx pins H s e s1 I got
  | .ok (.ret u) => exact I.after got
  | .ok .next | .ok .brk | .ok .cont => exact got.elim
/-- a[b]: __getitem__ may raise -/
def tGetX (C : Addr) (sp : Sp) (W : WX) (ta tb : TE) : TE := fun σ H Q => ta σ H fun x H1 => tb σ H1 fun y H2 => ∃ p, x = .ref p ∧ At C H2 p ∧ sp [.ref p, y] H2 Q (WE W σ)
theorem pe_getX {W : WX} {a b : Expr} {ta tb : TE} {pos : Pos} (c : Op (L2N.CX X.prog X.w) X.prog X.w X.K X.mg X.base k C "__getitem__" sp) (hr : Room j X.A) (hk : k + 1 ≤ j) (tk : L2N.Takes X W) (ha : PE X a ta) (hb : PE X b tb)
    (hs : ∀ o i, subscripted b true o i = runValue (.builtin "lifetime.subscript" ⟨[o, i], []⟩) := by intro _ _; rfl) : PE X (.Subscript a b pos) (tGetX C sp W ta tb) := by
  obtain ⟨f, fd, ps, hf, hfn, kp, F, bd⟩ := c.ex
  refine ⟨fun pins s σ H Q I h => ?_⟩
  refine Subscript_ (binT ha hb I h fun v u s2 x y H2 I2 rx ry q => ?_)
  obtain ⟨p, rfl, hp, q⟩ := q
  obtain rfl : v = Value.ref p := rx
  obtain ⟨o, od, J⟩ := inst I2 hp
  obtain ⟨m, Fr0⟩ := I2.fr
  exact PySem.W.sub_K Fr0 I2.ok.mod.kin J hf kp hfn (run_in1 F hr hk bd (L2N.passAt tk σ) I2 (us := [.ref p, u]) (vs := [.ref p, y]) (.cons rfl (.cons ry .nil)) q) (hs _ _)
/-- b in a, b not in a: __contains__ -/
def rInOwn (C : Addr) (sp : Sp) (neg : Bool) : R2 := fun y x H Q => ∃ p, x = .ref p ∧ At C H p ∧ sp [.ref p, y] H (fun v H' => ∃ b, v = .bl b ∧ Q (.bl (if neg then !b else b)) H') C8.E0
theorem op_inOwn (c : Op CX0 X.prog X.w X.K X.mg X.base k C "__contains__" sp) (hr : Room j X.A) (hk : k ≤ j) : OpR X (compareOp .In) (rInOwn C sp false) := by
  obtain ⟨f, fd, ps, hf, hfn, kp, F, bd⟩ := c.ex
  intro pins s σ H y x u v Q I ry rx h
  obtain ⟨p, rfl, hp, q⟩ := h
  obtain rfl : v = Value.ref p := rx
  obtain ⟨o, od, J⟩ := inst I hp
  obtain ⟨m, Fr0⟩ := I.fr
  refine PySem.W.in_K Fr0 I.ok.mod.kin J hf hfn (thn (run_fnS F (hr.mono hk) bd at0 I (us := [.ref p, u]) (vs := [.ref p, y]) (E := fun _ => C8.E0) (.cons rfl (.cons ry .nil)) q) fun r s1 hr1 => ?_)
  obtain ⟨z, H1, I1, rz, b, rfl, q1⟩ := hr1
  cases rz
  exact wpAny_truthy_bool ⟨.bl b, H1, I1, rfl, q1⟩
theorem op_notInOwn (c : Op CX0 X.prog X.w X.K X.mg X.base k C "__contains__" sp) (hr : Room j X.A) (hk : k ≤ j) : OpR X (compareOp .NotIn) (rInOwn C sp true) := by
  obtain ⟨f, fd, ps, hf, hfn, kp, F, bd⟩ := c.ex
  intro pins s σ H y x u v Q I ry rx h
  obtain ⟨p, rfl, hp, q⟩ := h
  obtain rfl : v = Value.ref p := rx
  obtain ⟨o, od, J⟩ := inst I hp
  obtain ⟨m, Fr0⟩ := I.fr
  refine PySem.W.notIn_K Fr0 I.ok.mod.kin J hf hfn (thn (run_fnS F (hr.mono hk) bd at0 I (us := [.ref p, u]) (vs := [.ref p, y]) (E := fun _ => C8.E0) (.cons rfl (.cons ry .nil)) q) fun r s1 hr1 => ?_)
  obtain ⟨z, H1, I1, rz, b, rfl, q1⟩ := hr1
  cases rz
  exact wpAny_truthy_bool ⟨.bl (!b), H1, I1, rfl, q1⟩
/-- len(a): __len__ -/
def rLenOwn (C : Addr) (sp : Sp) : List V → Hp → VK → Prop := fun xs H Q => ∃ p, xs = [.ref p] ∧ At C H p ∧ sp [.ref p] H (fun v H' => ∃ n : Int, v = .int n ∧ 0 ≤ n ∧ n < 2 ^ 63 ∧ Q (.int n) H') C8.E0
theorem call_lenOwn (c : Op CX0 X.prog X.w X.K X.mg X.base k C "__len__" sp) (hr : Room j X.A) (hk : k + 1 ≤ j) : CallR X (.builtin "len") (rLenOwn C sp) := by
  obtain ⟨f, fd, ps, hf, hfn, kp, F, bd⟩ := c.ex
  intro pins s σ H xs us Q I r h
  obtain ⟨p, rfl, hp, q⟩ := h
  obtain ⟨u, rfl, r1⟩ := vals1 r
  · obtain rfl : u = Value.ref p := r1
    obtain ⟨o, od, J⟩ := inst I hp
    obtain ⟨m, Fr0⟩ := I.fr
    refine PySem.W.len_K Fr0 I.ok.mod.kin J hf hfn (thn (run_in1 F hr hk bd at0 I (us := [.ref p]) (vs := [.ref p]) (E := C8.E0) (.cons rfl .nil) q) fun v s1 hv => ?_)
    obtain ⟨z, H1, I1, rz, n, rfl, n0, n1, q1⟩ := hv
    obtain ⟨t, rfl⟩ := (show ∃ t, v = Value.int n t from rz)
    exact ⟨⟨n0, n1⟩, ⟨.int n, H1, I1.tok _, ⟨_, rfl⟩, q1⟩⟩
/-- len of a text, a list or a tuple, the written part said -/
def rLenK (K : PySem.W.Frag) : List V → Hp → VK → Prop := fun xs H Q => ∃ x n, xs = [x] ∧ LenV K x H n ∧ Q (.int n) H
theorem call_lenK : CallR X (.builtin "len") (rLenK X.K) := call_len
/-- a method that may raise -/
structure MethX (P : Program) (w : World) (K : PySem.W.Frag) (mg : Str → Option Value) (base : Heap) (k : Nat) (C : Addr) (m : Str) (sp : Sp) : Prop where
  ex : ∃ (f : Addr) (fd : FuncData) (ps : List Str), Meth K C m f ∧ FnOk P w K mg base (L2N.CX P w) k f fd ps sp ∧ Binds K fd ps []
def tMethX (C : Addr) (m : Str) (sp : Sp) (W : WX) (ta : TE) (t : TA) : TE := fun σ H Q => ta σ H fun x H1 => ∃ a dx fs, x = .ref a ∧ H1 a = some (.ins C dx fs) ∧ fs.lookup m = none ∧ t σ H1 fun vs H2 => sp (x :: vs) H2 Q (WE W σ)
theorem pe_mx {m : Str} {W : WX} {o e : Expr} {es : List Expr} {to : TE} {t : TA} {apos pos : Pos} {pl : Sem Bool} (c : MethX X.prog X.w X.K X.mg X.base k C m sp) (cl : Cls X.K C) (hr : Room j X.A) (hk : k ≤ j) (tk : L2N.Takes X W) (ho : PE X o to) (ha : PA X (e :: es) t)
    (hst : starEach (e :: es) X.env = (false, eval e X.env) :: starEach es X.env := by rfl) (hpl : (backTo pos (starEach es X.env)).any (·.1) = false := by rfl)
    (ht : eval (.Call (.Attribute o m apos) (e :: es) [] pos) X.env = (do
      let v ← eval o X.env
      standAt apos.atName
      let (g, self) ← holding [v] (getMethod v m pl)
      callWith pos g self (backTo pos (starEach (e :: es) X.env)) (backToKw pos (keywordEach [] X.env))) := by rfl) : PE X (.Call (.Attribute o m apos) (e :: es) [] pos) (tMethX C m sp W to t) := by
  obtain ⟨f, fd, ps, M, F, bd⟩ := c.ex
  refine ⟨fun pins s σ H Q I h => ?_⟩
  refine PySem.W.methodCall_KW (pl := pl) (thn (ho.run pins s σ H _ I h) fun u s1 ⟨x, H1, I1, rx, a, dx, fs, ex, ea, l, q⟩ => ?_) ht
  subst ex
  obtain rfl : u = Value.ref a := rx
  refine getmeth_ok I1 ea cl M l ?_
  refine PySem.W.callWith_K (first := [.ref a]) (h₀ := X.base) I.ok.mod.kin M.kp (thn (ha.run pos pins s1 σ H1 _ I1 q) fun us s2 ⟨vs, H2, I2, r, q2⟩ => ⟨I2.kIn, ?_⟩) hst hpl
  exact run_fnS F (hr.mono hk) bd (L2N.passAt tk σ) I2 (us := .ref a :: us) (vs := .ref a :: vs) (.cons rfl r) q2
end
end Fx

/-! operators of two places, the minus sign, abs and == that a class of the program says by its own methods -/
namespace PySem.OwnB
open PySem PySem.W PySem.Calls PyProof.Rows Builtin
section
variable {prog : Program} {w : World} {A : Around} {E : Value → Shared → Prop} {s : Shared} {K : Frag} {x C L f g : Addr} {h₀ : Heap} {m : Str → Option Value} {dx : Addr} {od : Option Obj}
theorem abs_own {Q : Value → Shared → Prop} (F : Fr h₀ L s.heap m) (X₀ : K.In h₀) (I : InstAt s.heap x (instObj C dx) C od) (hs : findIn K (.ref C) "__abs__" = some (some (.ref f))) (hf : isFn K (.ref f) = true)
    (h : wpAny (model prog w) A.in1 (call (.ref f) [.ref x]) Q E s) : wpAny (model prog w) A (call (.builtin "abs") [.ref x]) Q E s := by
  refine Calls.call_function_entry kind_abs plain_abs entry_abs (args_abs _) ?_
  unfold Builtin.«abs»
  refine wpAny_bind (m := oneArg "abs" _) (wpAny_pure ?_)
  refine wpAny_bind (m := callSpecial? (.ref x) (Str.ofString "__abs__")) (special_fn (X₀.keeps F.keep) I hs (beq_iff_eq.mp hf) (wpAny_mono h (fun r s' hr => ?_) fun _ _ y => y))
  exact wpAny_pure ⟨_, rfl, hr⟩
theorem int_add_ref {M : Model} {n : Int} {t : Tok} {Q : Fin → Shared → Prop} (I : InstAt s.heap x (instObj C dx) C od) (h : Q (.done (.ret .notImplemented)) s) : wpAny M A (Builtin.«int.__add__» ⟨[.int n t, .ref x], []⟩) Q E s := by
  show wpAny M A (asInt? (.ref x) >>= _) Q E s
  refine wpAny_bind ?_
  show wpAny M A (load x >>= _) _ E s
  refine wpAny_bind (wpAny_load I.at_ ?_)
  refine wpAny_pure ?_
  exact wpAny_bind (wpAny_rule (wpAny_pure h))
theorem radd_int {n : Int} {t : Tok} {fo ro : Option Value} {Q : Value → Shared → Prop} (F : Fr h₀ L s.heap m) (X₀ : K.In h₀) (I : InstAt s.heap x (instObj C dx) C od) (hc : selfFirst K C = true)
    (ha : findIn K (.ref C) "__add__" = some (some (.ref g))) (hs : findIn K (.ref C) "__radd__" = some (some (.ref f))) (hf : isFn K (.ref f) = true)
    (h1 : findIn K (.type "int") "__add__" = some fo) (h2 : findIn K (.type "int") "__radd__" = some ro) (hsub : subIn K (.ref C) (.type "int") = some false)
    (h : wpAny (model prog w) A (call (.ref f) [.ref x, .int n t]) (PySem.W.CmpBack Q) E s) : wpAny (model prog w) A (binaryOp .Add (.int n t) (.ref x)) Q E s := by
  have X := X₀.keeps F.keep
  obtain ⟨cd, rest, hcd, hm⟩ := ksp_first hc
  have two : wpAny (model prog w) A (tryMethod (.ref x) "__radd__" (.int n t)) (fun r s' => ∃ v, r = some v ∧ Q v s') E s := ksp_try X I hs hf h
  have one : wpAny (model prog w) A (tryMethod (.int n t) "__add__" (.ref x)) (fun r s' => r = none ∧ s' = s) E s := by
    unfold tryMethod
    refine wpAny_bind (m := callSpecial? (.int n t) (Str.ofString "__add__") _) (wpAny_callSpecial?_slot (name := Str.ofString "__add__") (typeIs_int s n t) PySem.F.slot_int_add
      (wpAny_call_entry PySem.F.slot_int_add (typeIs_int s n t) PySem.F.entry_int_add (int_add_ref I ⟨_, rfl, ?_⟩) (PySem.F.args_int_add_2 _ _)))
    exact wpAny_pure ⟨rfl, rfl⟩
  obtain ⟨hh, gg, d, tt, os⟩ := s
  have L1 : Looks (model prog w) hh (typeOf (.ref x)) (.ref C) := I.type
  have L2 : Looks (model prog w) hh (typeOf (.int n t)) (.type "int") := Looks.of_pure rfl
  have L3 : Looks (model prog w) hh (fillsNumberSlot (.ref C) "add") true := fills_K X hcd hm ha
  have L4 : Looks (model prog w) hh (fillsNumberSlot (.type "int") "add") ((fo.isSome && !isSeqSlot fo) || (ro.isSome && !isSeqSlot ro)) := ksp_fillsT X h1 h2
  have L5 : Looks (model prog w) hh (isSubtype (.ref C) (.type "int")) false := looks_subIn X hsub
  have L7 : Looks (model prog w) hh (numberSlotInPython (.type "int") "add") false := Looks.of_pure rfl
  generalize ((fo.isSome && !isSeqSlot fo) || (ro.isSome && !isSeqSlot ro)) = left at L4
  have hne : (Value.type "int" == Value.ref C) = false := Bool.eq_false_iff.mpr fun q => by cases beq_iff_eq.mp q
  show wpAny (model prog w) A (holding _ _) Q E _
  refine wpAny_holding (wpAny_bind ?_)
  unfold binaryOp1
  refine wpAny_bind (L2.at (wpAny_bind (L1.at (wpAny_bind (L4.at ?_)))))
  simp only [hne, Bool.false_eq_true, if_false]
  cases left with
  | false =>
    ksp_lk
    refine wpAny_mono two (fun r s' hr' => ?_) fun _ _ e => e
    obtain ⟨v, rfl, hq⟩ := hr'
    ksp_lk
    exact hq
  | true =>
    ksp_lk
    refine wpAny_mono one (fun r s' hr' => ?_) fun _ _ e => e
    obtain ⟨rfl, rfl⟩ := hr'
    ksp_lk
    refine wpAny_mono two (fun r s' hr' => ?_) fun _ _ e => e
    obtain ⟨v, rfl, hq⟩ := hr'
    ksp_lk
    exact hq
end
end PySem.OwnB

namespace Fx
open PySem PySem.Spec PyProof.Rows L2
/-- an operator said by the method m of the class at C, met by another of the class, or by a whole number on its right (rc: what stands under the reflected name) -/
structure BinT (K : PySem.W.Frag) (C : Addr) (nm rnm : Str) : Prop where
  first : PySem.W.selfFirst K C = true
  r : ∃ rc, PySem.W.findIn K (.ref C) rnm = some rc ∧ (rc = none ∨ ∃ g : Addr, rc = some (.ref g))
  i1 : ∃ fo, PySem.W.findIn K (.type "int") nm = some fo
  i2 : ∃ ro, PySem.W.findIn K (.type "int") rnm = some ro
  sub : PySem.W.subIn K (.type "int") (.ref C) = some false
section
variable {X : Cx} {j k : Nat} {C : Addr} {sp : Sp}
theorem inst2 {X : Cx} {pins : List (Addr × Obj)} {σ : L2.St} {H : Hp} {s : Shared} {C p : Addr} (I : Inv X pins σ H s) (h : At C H p) : ∃ dx od, PySem.W.InstAt s.heap p (PySem.W.instObj C dx) C od := by
  obtain ⟨dx, fs, e⟩ := h
  obtain ⟨mA, O, _⟩ := ins_get I.hok e
  obtain ⟨od, J, _⟩ := O.look
  exact ⟨_, _, J⟩
/-- what comes back is a thing, or True or False -/
def ThingB (Q : VK) : VK := fun v H => ((∃ q, v = .ref q) ∨ ∃ b, v = .bl b) ∧ Q v H
theorem back_of {X : Cx} {pins : List (Addr × Obj)} {σ : L2.St} {Q : VK} {v : Value} {s : Shared} (h : EP X pins σ (ThingB Q) v s) : PySem.W.CmpBack (EP X pins σ Q) v s := by
  obtain ⟨z, H1, I1, rz, hz, q⟩ := h
  rcases hz with ⟨a, rfl⟩ | ⟨b, rfl⟩
  · obtain rfl : v = Value.ref a := rz
    exact ⟨.ref a, H1, I1, rfl, q⟩
  · obtain rfl : v = Value.bool b := rz
    exact ⟨.bl b, H1, I1, rfl, q⟩
/-- a op n, n a whole number -/
def rBinI (C : Addr) (sp : Sp) : R2 := fun x y H Q => ∃ (p : Addr) (n : Int), x = .ref p ∧ y = .int n ∧ At C H p ∧ sp [.ref p, .int n] H (ThingB Q) C8.E0
theorem op_binI {op : Operator} {m : Str} (c : Op CX0 X.prog X.w X.K X.mg X.base k C m sp) (b : BinT X.K C m (dunderR op.info.2)) (e : PySem.dunder op.info.2 = m) (hr : Room j X.A) (hk : k ≤ j) : OpR X (binaryOp op) (rBinI C sp) := by
  obtain ⟨f, fd, ps, hf, hfn, kp, F, bd⟩ := c.ex
  obtain ⟨h0, ⟨rc, h1, h2⟩, ⟨fo, h3⟩, ⟨ro, h4⟩, h5⟩ := b
  intro pins s σ H x y v u Q I rx ry h
  obtain ⟨p, n, rfl, rfl, hp, q⟩ := h
  obtain rfl : v = Value.ref p := rx
  obtain ⟨t, rfl⟩ := (show ∃ t, u = Value.int n t from ry)
  obtain ⟨dx, od, J⟩ := inst2 I hp
  obtain ⟨m, Fr0⟩ := I.fr
  subst e
  refine PySem.W.ksp_binT Fr0 I.ok.mod.kin J (b := .int n t) (T := "int") rfl h0 hf hfn h1 h2 h3 h4 h5 (thn (run_fnS F (hr.mono hk) bd at0 I (us := [.ref p, .int n t]) (vs := [.ref p, .int n]) (E := fun _ => C8.E0) (.cons rfl (.cons ⟨t, rfl⟩ .nil)) q) fun r s1 hr1 => back_of hr1)
/-- n + a -/
def rRaddI (C : Addr) (sp : Sp) : R2 := fun x y H Q => ∃ (p : Addr) (n : Int), x = .int n ∧ y = .ref p ∧ At C H p ∧ sp [.ref p, .int n] H (ThingB Q) C8.E0
theorem op_raddI {k2 : Nat} {CX : CXT} {sp2 : Sp} (c : Op CX0 X.prog X.w X.K X.mg X.base k C "__radd__" sp) (c2 : Op CX X.prog X.w X.K X.mg X.base k2 C "__add__" sp2) (h0 : PySem.W.selfFirst X.K C = true) (h3 : ∃ fo, PySem.W.findIn X.K (.type "int") "__add__" = some fo) (h4 : ∃ ro, PySem.W.findIn X.K (.type "int") "__radd__" = some ro)
    (h5 : PySem.W.subIn X.K (.ref C) (.type "int") = some false) (hr : Room j X.A) (hk : k ≤ j) : OpR X (binaryOp .Add) (rRaddI C sp) := by
  obtain ⟨f, fd, ps, hf, hfn, kp, F, bd⟩ := c.ex
  obtain ⟨g, _, _, hg, _⟩ := c2.ex
  obtain ⟨fo, h3⟩ := h3
  obtain ⟨ro, h4⟩ := h4
  intro pins s σ H x y v u Q I rx ry h
  obtain ⟨p, n, rfl, rfl, hp, q⟩ := h
  obtain rfl : u = Value.ref p := ry
  obtain ⟨t, rfl⟩ := (show ∃ t, v = Value.int n t from rx)
  obtain ⟨dx, od, J⟩ := inst2 I hp
  obtain ⟨m, Fr0⟩ := I.fr
  exact PySem.OwnB.radd_int Fr0 I.ok.mod.kin J h0 hg hf hfn h3 h4 h5 (thn (run_fnS F (hr.mono hk) bd at0 I (us := [.ref p, .int n t]) (vs := [.ref p, .int n]) (E := fun _ => C8.E0) (.cons rfl (.cons ⟨t, rfl⟩ .nil)) q) fun r s1 hr1 => back_of hr1)
/-- both of the class -/
def rBinO (C : Addr) (sp : Sp) : R2 := fun x y H Q => ∃ (p q : Addr), x = .ref p ∧ y = .ref q ∧ At C H p ∧ At C H q ∧ sp [.ref p, .ref q] H (ThingB Q) C8.E0
theorem op_binO {op : Operator} {m : Str} (c : Op CX0 X.prog X.w X.K X.mg X.base k C m sp) (h0 : PySem.W.selfFirst X.K C = true) (e : PySem.dunder op.info.2 = m) (hr : Room j X.A) (hk : k ≤ j) : OpR X (binaryOp op) (rBinO C sp) := by
  obtain ⟨f, fd, ps, hf, hfn, kp, F, bd⟩ := c.ex
  intro pins s σ H x y v u Q I rx ry h
  obtain ⟨p, q, rfl, rfl, hp, hq, k⟩ := h
  obtain rfl : v = Value.ref p := rx
  obtain rfl : u = Value.ref q := ry
  obtain ⟨dx, od, J⟩ := inst2 I hp
  obtain ⟨dx2, od2, J2⟩ := inst2 I hq
  obtain ⟨m, Fr0⟩ := I.fr
  subst e
  exact PySem.W.binop_K Fr0 I.ok.mod.kin J J2.type h0 hf hfn (thn (run_fnS F (hr.mono hk) bd at0 I (us := [.ref p, .ref q]) (vs := [.ref p, .ref q]) (E := fun _ => C8.E0) (.cons rfl (.cons rfl .nil)) k) fun r s1 hr1 => back_of hr1)
/-- a == b, both of the class -/
theorem op_eqO (c : Op CX0 X.prog X.w X.K X.mg X.base k C "__eq__" sp) (hr : Room j X.A) (hk : k ≤ j) : OpR X (compareOp .Eq) (rBinO C sp) := by
  obtain ⟨f, fd, ps, hf, hfn, kp, F, bd⟩ := c.ex
  intro pins s σ H x y v u Q I rx ry h
  obtain ⟨p, q, rfl, rfl, hp, hq, k⟩ := h
  obtain rfl : v = Value.ref p := rx
  obtain rfl : u = Value.ref q := ry
  obtain ⟨dx, od, J⟩ := inst2 I hp
  obtain ⟨dx2, od2, J2⟩ := inst2 I hq
  obtain ⟨m, Fr0⟩ := I.fr
  exact PySem.W.cmp_K (op := .Eq) (Nat.lt_of_succ_lt (hu_of hr)) Fr0 I.ok.mod.kin J J2.type (by simp [PySem.W.notFirst]) hf hfn (thn (run_fnS F (hr.mono hk) bd at0 I (us := [.ref p, .ref q]) (vs := [.ref p, .ref q]) (E := fun _ => C8.E0) (.cons rfl (.cons rfl .nil)) k) fun r s1 hr1 => back_of hr1)
/-- the minus sign -/
def rNegO (C : Addr) (sp : Sp) : V → Hp → VK → Prop := fun x H Q => ∃ p, x = .ref p ∧ At C H p ∧ sp [.ref p] H Q C8.E0
theorem un_negO (c : Op CX0 X.prog X.w X.K X.mg X.base k C "__neg__" sp) (hr : Room j X.A) (hk : k ≤ j) : UnR X (unaryOp .USub) (rNegO C sp) := by
  obtain ⟨f, fd, ps, hf, hfn, kp, F, bd⟩ := c.ex
  intro pins s σ H x v Q I rx h
  obtain ⟨p, rfl, hp, q⟩ := h
  obtain rfl : v = Value.ref p := rx
  obtain ⟨dx, od, J⟩ := inst2 I hp
  obtain ⟨m, Fr0⟩ := I.fr
  exact PySem.W.ksp_neg Fr0 I.ok.mod.kin J hf hfn (run_fnS F (hr.mono hk) bd at0 I (us := [.ref p]) (vs := [.ref p]) (E := fun _ => C8.E0) (.cons rfl .nil) q)
/-- abs(a) -/
def rAbsO (C : Addr) (sp : Sp) : List V → Hp → VK → Prop := fun xs H Q => ∃ p, xs = [.ref p] ∧ At C H p ∧ sp [.ref p] H Q C8.E0
theorem call_absO (c : Op CX0 X.prog X.w X.K X.mg X.base k C "__abs__" sp) (hr : Room j X.A) (hk : k + 1 ≤ j) : CallR X (.builtin "abs") (rAbsO C sp) := by
  obtain ⟨f, fd, ps, hf, hfn, kp, F, bd⟩ := c.ex
  intro pins s σ H xs us Q I r h
  obtain ⟨p, rfl, hp, q⟩ := h
  obtain ⟨u, rfl, r1⟩ := vals1 r
  obtain rfl : u = Value.ref p := r1
  obtain ⟨dx, od, J⟩ := inst2 I hp
  obtain ⟨m, Fr0⟩ := I.fr
  exact PySem.OwnB.abs_own Fr0 I.ok.mod.kin J hf hfn (run_in1 F hr hk bd at0 I (us := [.ref p]) (vs := [.ref p]) (E := C8.E0) (.cons rfl .nil) q)
/-! ### dicts of whole numbers with the same keys compared -/
def rEqDI : R2 := fun x y H Q => ∃ (a b : Addr) (ks ls : List (Key × V)) (r : Bool), x = .ref a ∧ y = .ref b ∧ H a = some (.dK ks) ∧ H b = some (.dK ls) ∧ ks.length = ls.length ∧
  (∀ p ∈ ks, ∃ i n : Int, p.2 = .int i ∧ valV ls p.1 = some (.int n)) ∧ (r = true ↔ ∀ p ∈ ks, valV ls p.1 = some p.2) ∧ Q (.bl r) H
theorem hits_ints {A : Around} {s : Shared} {ls : List (Key × V)} {vb : List (Key × Value)} (rb : KV ls vb) {ks : List (Key × V)} {va : List (Key × Value)} (ra : KV ks va) :
    (∀ p ∈ ks, ∃ i n : Int, p.2 = .int i ∧ valV ls p.1 = some (.int n)) → ∃ r, PySem.W.KeqHits A s vb va r ∧ (r = true ↔ ∀ p ∈ ks, valV ls p.1 = some p.2) := by
  unfold KV at ra
  induction ra with
  | nil => exact fun _ => ⟨true, .nil, by simp⟩
  | @cons p q ps qs h t ih =>
    intro hp
    obtain ⟨h1, h2⟩ := h
    obtain ⟨i, n, e1, e2⟩ := hp p List.mem_cons_self
    obtain ⟨r, hr, hi⟩ := ih fun p' hm => hp p' (List.mem_cons_of_mem _ hm)
    have rr : RelO (some (.int n)) (valueAt vb p.1) := by rw [← e2]; exact rb.val p.1
    obtain ⟨y, hy, ry⟩ := rr.some_of
    obtain ⟨k, v⟩ := q
    have h1' : p.1 = k := h1
    rw [h1'] at hy
    obtain ⟨t1, rfl⟩ := (show ∃ t, y = Value.int n t from ry)
    rw [e1] at h2
    obtain ⟨t2, rfl⟩ := (show ∃ t, v = Value.int i t from h2)
    refine ⟨(i == n) && r, .hit hy (SeqAt.EqAt.int_int (A := A) (s := s) i t2 n t1) hr, ?_⟩
    rw [Bool.and_eq_true, hi]
    constructor
    · rintro ⟨g1, g2⟩ p' hm
      rcases List.mem_cons.mp hm with rfl | hm
      · rw [e2, e1, beq_iff_eq.mp g1]
      · exact g2 p' hm
    · intro g
      refine ⟨?_, fun p' hm => g p' (List.mem_cons_of_mem _ hm)⟩
      have := g p List.mem_cons_self
      rw [e2, e1] at this
      cases this
      exact beq_self_eq_true _
theorem op_eqDI (hu : X.A.units < cLine) : OpR X (compareOp .Eq) rEqDI := by
  intro pins s σ H x y v u Q I rx ry h
  obtain ⟨a, b, ks, ls, r, rfl, rfl, ea, eb, hlen, hp, hr, q⟩ := h
  obtain rfl : v = Value.ref a := rx
  obtain rfl : u = Value.ref b := ry
  obtain ⟨_, ya, va, ra, da⟩ := (show ObjOk X.prog X.w H s.heap a (.dK ks) from I.hok a _ ea)
  obtain ⟨_, yb, vb, rb, db⟩ := (show ObjOk X.prog X.w H s.heap b (.dK ls) from I.hok b _ eb)
  have hl : va.length = vb.length := by rw [← ra.length, ← rb.length]; exact hlen
  obtain ⟨r2, h2, h3⟩ := hits_ints (A := X.A.in1) (s := s) rb ra hp
  have e : r2 = r := Bool.eq_iff_iff.mpr (h3.trans hr.symm)
  subst e
  exact PySem.W.keq_eq (knd := mixKind X.prog X.w) ya yb da db hu (fun _ => h2) (fin_bl I q (by simp [hl]))
/-! ### max and min of a tuple -/
end
end Fx

/-! an operator of two places that may raise; a loop over an own object whose __iter__ hands back a list's iterator; a dict's copy, told young -/
namespace Fx
open PySem PySem.Spec PyProof.Rows L2
section
variable {X : Cx} {j k : Nat} {C : Addr} {sp : Sp}
/-- a op b, both of the class: the method may raise -/
def tBinOX (C : Addr) (sp : Sp) (W : WX) (ta tb : TE) : TE := fun σ H Q => ta σ H fun x H1 => tb σ H1 fun y H2 => ∃ p q, x = .ref p ∧ y = .ref q ∧ At C H2 p ∧ At C H2 q ∧ sp [.ref p, .ref q] H2 (ThingB Q) (WE W σ)
theorem pe_binOX {W : WX} {op : Operator} {m : Str} {a b : Expr} {ta tb : TE} {pos : Pos} (c : Op (L2N.CX X.prog X.w) X.prog X.w X.K X.mg X.base k C m sp) (h0 : PySem.W.selfFirst X.K C = true) (e : PySem.dunder op.info.2 = m) (hr : Room j X.A) (hk : k ≤ j) (tk : L2N.Takes X W) (ha : PE X a ta) (hb : PE X b tb) :
    PE X (.BinOp a op b pos) (tBinOX C sp W ta tb) := by
  obtain ⟨f, fd, ps, hf, hfn, kp, F, bd⟩ := c.ex
  constructor
  intro pins s σ H Q I h
  apply wpAny_BinOp
  refine binT ha hb I h fun v u s2 x y H2 I2 rx ry q => ?_
  obtain ⟨p, q, rfl, rfl, hp, hq, k⟩ := q
  obtain rfl : v = Value.ref p := rx
  obtain rfl : u = Value.ref q := ry
  obtain ⟨dx, od, J⟩ := inst2 I2 hp
  obtain ⟨dx2, od2, J2⟩ := inst2 I2 hq
  obtain ⟨m, Fr0⟩ := I2.fr
  subst e
  exact PySem.W.binop_K Fr0 I2.ok.mod.kin J J2.type h0 hf hfn (thn (run_fnS F (hr.mono hk) bd (L2N.passAt tk σ) I2 (us := [.ref p, .ref q]) (vs := [.ref p, .ref q]) (E := fun σ => WE W σ) (.cons rfl (.cons rfl .nil)) k) fun r s1 hr1 => back_of hr1)
/-- iter(l): the iterator is younger than all that is told -/
def rIterA (K : PySem.W.Frag) : List V → Hp → VK → Prop := fun xs H Q => ∃ (l : Addr) (zs : List V), xs = [.ref l] ∧ SqL K H l zs ∧ ∀ it, H it = none → (∀ a o, H a = some o → a < it) → Q (.ref it) (upd H it (ItO l it 0))
theorem told_old {pins : List (Addr × Obj)} {σ : L2.St} {H : Hp} {s : Shared} (I : Inv X pins σ H s) {a : Addr} {o : HO} (e : H a = some o) : a < s.heap.objs.size := by
  apply Nat.lt_of_not_le
  intro z
  rw [I.hok.fresh z] at e
  cases e
theorem call_iterA : CallR X (.builtin "iter") (rIterA X.K) := by
  rintro pins s σ H xs us Q I r ⟨l, zs, rfl, hq, q⟩
  have e := Vals.ref1 r
  subst e
  obtain ⟨its, rv, pl, hz⟩ := I.list hq
  apply GNX.call_iter pl.isList
  have q := q s.heap.objs.size (I.hok.fresh (Nat.le_refl _)) fun a o e => told_old I e
  exact ⟨.ref _, _, I.laid (t' := s.toks) (fun b u e => Heap.get?_push_of_some _ e) (Nat.le_refl _) (itO_ok (Heap.get?_push_size _ rfl)), rfl, q⟩
/-- for x in a: a's __iter__ hands back the iterator of the list at l -/
def iOwn (C : Addr) (sp : Sp) (K : PySem.W.Frag) (n : Nat) (te : TE) : TI := fun σ H R => te σ H fun x H1 => ∃ p a o, x = .ref p ∧ At C H1 p ∧ H1 a = some o ∧ n ≤ a ∧
  sp [.ref p] H1 (fun v H2 => ∃ it l, v = .ref it ∧ H2 it = some (ItO l it 0) ∧ a < it ∧ R (Itl K l) (ItX.dropH H2 it)) C8.E0
theorem pi_own {tg e : Expr} {te : TE} (c : Op CX0 X.prog X.w X.K X.mg X.base k C "__iter__" sp) (hr : Room j X.A) (hk : k ≤ j) (he : PE X e te) : PI X tg e (iOwn C sp X.K X.s_0.heap.objs.size te) := by
  obtain ⟨f, fd, ps, hf, hfn, kp, F, bd⟩ := c.ex
  constructor
  intro pins s σ H R I h
  refine thn (he.run pins s σ H _ I h) fun v s1 ⟨x, H1, I1, r1, q1⟩ => ?_
  obtain ⟨p, a, o, rfl, hp, h0, hn, q⟩ := q1
  cases r1
  obtain ⟨dx, od, J⟩ := inst2 I1 hp
  obtain ⟨m, Fr0⟩ := I1.fr
  refine PySem.W.owit_iter Fr0 I1.ok.mod.kin J hf hfn (thn (run_fnS F (hr.mono hk) bd at0 I1 (us := [.ref p]) (vs := [.ref p]) (E := fun _ => C8.E0) (.cons rfl .nil) q) fun r s2 hr2 => ?_)
  obtain ⟨z, H2, I2, rz, it, l, rfl, hi, ha, hR⟩ := hr2
  obtain rfl : r = Value.ref it := rz
  have eo := itO_get I2 hi
  refine wpAny_specialOf (T := "list_iterator") ⟨_, eo, rfl⟩ slot_listiter_next.lookup ?_
  have st : s2.heap.IsListIter it l 0 := ⟨_, eo, rfl, rfl⟩
  have hi' := hi
  unfold ItO at hi'
  refine ⟨it, [it], _, _, ItX.dropH H2 it, rfl, ItX.inv_drop I2 hi', turn_list l it, st, fun b hb => ?_, hR⟩
  have e : b = it := by simpa using hb
  rw [e]
  exact ItX.inv_fp I2 hi (Nat.le_trans hn (Nat.le_of_lt ha))
/-- dict(d): the copy is younger than the frame -/
def rDictN (n : Nat) : List V → Hp → VK → Prop := fun xs H Q => ∃ (a : Addr) (kvs : List (Key × V)), xs = [.ref a] ∧ H a = some (.dK kvs) ∧ ∀ p, H p = none → n ≤ p → Q (.ref p) (upd H p (.dK kvs))
theorem call_dictN : CallR X (.type "dict") (rDictN X.s_0.heap.objs.size) := by
  rintro pins s σ H xs us Q I r ⟨a, kvs, rfl, hd, q⟩
  have e := Vals.ref1 r
  subst e
  obtain ⟨z, low, vs, rel, dd⟩ := (show ObjOk X.prog X.w H s.heap a (.dK kvs) from I.hok a _ hd)
  have small : vs.length ≤ sizeLine := by rw [← rel.length]; exact z
  refine kt_call_dict low dd small fun h' d' hs => ?_
  have big : (s.heap.objs.size == sysModules) = false := beq_eq_false_iff_ne.mpr (Nat.ne_of_gt I.big)
  have kept : ∀ b u, s.heap.get? b = some u → h'.get? b = some u := fun b u e => by
    rw [hs.2 b (Nat.ne_of_lt (Heap.lt_size e))]
    exact Heap.get?_push_of_some _ e
  have okd : ∀ G, ObjOk X.prog X.w G h' s.heap.objs.size (.dK kvs) := fun G => ⟨z, big, vs, rel, d'⟩
  exact ⟨.ref _, _, I.laid (t' := s.toks) kept (Nat.le_refl _) (okd _), rfl, q _ (I.hok.fresh (Nat.le_refl _)) I.sz⟩
/-- list(e.values()): e a dict with keys that are numbers or texts -/
def tListVals (td : TE) : TE := fun σ H Q => td σ H fun x H1 => ∃ d kvs, x = .ref d ∧ H1 d = some (.dK kvs) ∧ ∀ q, H1 q = none → Q (.ref q) (upd H1 q (.lst (kvs.map (·.2))))
theorem pe_listVals {e : Expr} {td : TE} {p apos cpos pos : Pos} (calm : X.calm = true) (hg : Gl X "list") (hm : X.mg "list" = none) (hv : bootBuiltins "list" = some (.type "list")) (he : PE X e td) (hbase : attributeBase e "values" X.env (eval e X.env) = eval e X.env := by rfl) (hline : (apos.endLine == cpos.line) = true := by rfl)
    (na : starEach [(.Call (.Attribute e "values" apos) [] [] cpos)] X.env = (false, eval (.Call (.Attribute e "values" apos) [] [] cpos) X.env) :: starEach [] X.env := by rfl) : PE X (.Call (.Name "list" p) [.Call (.Attribute e "values" apos) [] [] cpos] [] pos) (tListVals td) := by
  constructor
  intro pins s σ H Q I h
  refine Call_ (ld_blt I hg hm hv (PyProof.Rows.callWith_type1 (args_cons ?_ na) na))
  refine wpAny_Call_method (T := "dict") (id := "dict.values") hbase rfl hline F.plainAttrs_dict F.slot_dict_values F.type_dict_values (thn (he.run pins s σ H _ I h) fun u s1 ⟨x, H1, I1, rx, d, kvs, ex, hd, q⟩ => ?_)
  subst ex
  obtain rfl : u = Value.ref d := rx
  obtain ⟨z, low, vs, rk, hD⟩ := (show ObjOk X.prog X.w H1 s1.heap d (.dK kvs) from I1.hok d _ hd)
  obtain ⟨ep, hat⟩ := hD.dictAt
  have hl : kvs.length = vs.length := Paired.length rk
  refine ⟨hD.typeIs, hD.mapOf.noDict, ?_⟩
  show wpAny _ _ (callWith cpos (.builtin "dict.values") [.ref d] [] []) _ X.xe s1
  have I2 : Inv X pins σ H1 { s1 with heap := s1.heap.push { cls := .type "dict_values", data := .fields #[.ref d] } } := I1.kept (t' := s1.toks) fun b o e => Heap.get?_push_of_some _ e
  refine method_meetsIn F.slot_dict_values F.entry_dict_values rfl (PySem.evalArgs_none ⟨rfl, hD.typeIs, F.args_dict_values_1 _, _, meets_dict_values (mixKind X.prog X.w) d low, ⟨vs, hD⟩, ?_⟩)
  apply args_nil
  refine PySem.W.kdl_call (PySem.W.kdl_values (knd := mixKind X.prog X.w) (r := s1.heap.objs.size) (d := d) (kvs := vs) (ep := ep)) (I1.ok.hd calm) ⟨⟨_, Heap.get?_push_size _ rfl, rfl, rfl⟩, hat.push _⟩ (by rw [← hl]; exact z) fun h' tk acc c' keep hS items => ?_
  have e2 : acc.toList = vs.map (·.2) := PySem.W.kdl_vals_eq acc.toList (by rw [Array.length_toList]; exact items.1) fun j v hj => items.2 j v (by rw [← hj, Array.getElem?_toList])
  have okl : ∀ G a, h'.get? a = some { cls := .type "list", dict := none, data := .seq acc c', slots := #[] } → ObjOk X.prog X.w G h' a (.lst (kvs.map (·.2))) := fun G a ha =>
    ⟨by rw [List.length_map]; exact z, acc.toList, c', by rw [e2]; exact vals_snd rk, by rw [Array.toArray_toList]; exact ha⟩
  exact ⟨.ref _, _, I2.laid (t' := tk) keep (Nat.le_refl _) (okl _ _ hS), rfl, q _ (I2.hok.fresh (Nat.le_refl _))⟩
end
end Fx

/-! a classmethod with keywords gathered in a dict, called by keywords alone; a class held by a local name, called -/
namespace Fx
open PySem PySem.Spec PyProof.Rows L2 StX ClX
/-! ### a dict of keywords, filled -/
section
variable {prog : Program} {w : World} {A : Around} {E : Value → Shared → Prop} {d : Addr}
theorem raw_put {s : Shared} {es : List DictEntry} {n : Nat} {k : Str} {v : Value} {Q : Unit → Shared → Prop} (D : s.heap.get? d = some (PySem.W.dictOf es n)) (hs : ∀ e ∈ es, e.key.isStr k = false) (hr : ∀ e ∈ es, e.refKey = false)
    (h : ∀ h', h'.get? d = some (PySem.W.dictOf (es ++ [⟨PyData.keyHash w.params k, .str k s.toks, v⟩]) (n + 1)) → (∀ b, b ≠ d → h'.get? b = s.heap.get? b) → h'.objs.size = s.heap.objs.size → Q () { s with heap := h', toks := s.toks + 1 }) :
    wpAny (model prog w) A (nsSet d k v) Q E s := by
  have none1 : es.any (·.key.isStr k) = false := List.any_eq_false.mpr fun e he => by rw [hs e he]; decide
  have none2 : es.any (·.refKey) = false := List.any_eq_false.mpr fun e he => by rw [hr e he]; decide
  have same : Obj.putName k (PyData.keyHash w.params k) (.str k s.toks) v (PySem.W.dictOf es n) = PySem.W.dictOf (es ++ [⟨PyData.keyHash w.params k, .str k s.toks, v⟩]) (n + 1) := by
    rw [PySem.W.putName_dict, PySem.W.putL_new hs]
    unfold PySem.W.putN
    rw [none1]
    rfl
  have ok : aRefKeyMayBeTheName k es.toArray = false := by
    rw [aRefKeyMayBeTheName_at, ← Array.any_toList, ← Array.any_toList]
    show (!es.any (·.key.isStr k) && es.any (·.refKey)) = false
    rw [none2, Bool.and_false]
  unfold nsSet
  refine wpAny_bind (wpAny_bind (wpAny_askSetting (wpAny_pure (wpAny_bind (wpAny_mkText (wpAny_bind (wpAny_loadPart D ?_)))))))
  show wpAny (model prog w) A (if aRefKeyMayBeTheName k es.toArray = true then _ else _) Q E _
  rw [ok]
  have G := Heap.get?_update_self (Obj.putName k (PyData.keyHash w.params k) (.str k s.toks) v) D (by rw [same]; rfl)
  rw [same] at G
  exact wpAny_updatePart D (h _ G (fun b hb => Heap.get?_update_other _ _ (Ne.symm hb)) (Heap.size_update ..))
theorem raw_fill {Q : PUnit → Shared → Prop} : ∀ (ex : List (Str × Value)) (s : Shared) (es : List DictEntry) (n : Nat), s.heap.get? d = some (PySem.W.dictOf es n) → (∀ e ∈ es, ∀ x ∈ ex, e.key.isStr x.1 = false) → (∀ e ∈ es, e.refKey = false) → (ex.map (·.1)).Nodup →
    (∀ h', h'.get? d = some (PySem.W.dictOf (es ++ PySem.W.kwEs w.params s.toks ex) (n + ex.length)) → (∀ b, b ≠ d → h'.get? b = s.heap.get? b) → h'.objs.size = s.heap.objs.size → Q ⟨⟩ { s with heap := h', toks := s.toks + ex.length }) →
    wpAny (model prog w) A (forIn ex PUnit.unit fun x _ => (nsSet d x.1 x.2 >>= fun _ => pure (ForInStep.yield PUnit.unit))) Q E s
  | [], s, es, n, D, _, _, _, h => by
    rw [List.forIn_nil]
    exact wpAny_pure (h s.heap (by rw [show es ++ PySem.W.kwEs w.params s.toks [] = es from List.append_nil es]; exact D) (fun _ _ => rfl) rfl)
  | x :: r, s, es, n, D, hs, hr, hn, h => by
    obtain ⟨n1, n2⟩ := List.nodup_cons.mp (show (x.1 :: r.map (·.1)).Nodup from hn)
    rw [List.forIn_cons]
    refine wpAny_bind (wpAny_bind (raw_put D (fun e he => hs e he x List.mem_cons_self) hr fun h1 D1 k1 z1 => wpAny_pure ?_))
    show wpAny (model prog w) A (forIn r PUnit.unit _) Q E { s with heap := h1, toks := s.toks + 1 }
    refine raw_fill r { s with heap := h1, toks := s.toks + 1 } _ _ D1 (fun e he y hy => ?_) (fun e he => ?_) n2 fun h2 D2 k2 z2 => ?_
    · rcases List.mem_append.mp he with he | he
      · exact hs e he y (List.mem_cons_of_mem _ hy)
      · cases List.mem_singleton.mp he
        show (x.1 == y.1) = false
        exact beq_eq_false_iff_ne.mpr fun q => n1 (q ▸ List.mem_map_of_mem hy)
    · rcases List.mem_append.mp he with he | he
      · exact hr e he
      · cases List.mem_singleton.mp he
        rfl
    · have a1 : s.toks + 1 + r.length = s.toks + (x :: r).length := by rw [List.length_cons]; omega
      have a2 : n + 1 + r.length = n + (x :: r).length := by rw [List.length_cons]; omega
      rw [a2, List.append_assoc] at D2
      have z := h h2 D2 (fun b hb => (k2 b hb).trans (k1 b hb)) (z2.trans z1)
      rw [← a1] at z
      exact z
theorem kw_pairs (P : Program) (w : World) : ∀ (ex : List (Str × Value)) (t : Tok), Pairs (mixKind P w) (PySem.W.kwEs w.params t ex) (ex.map fun x => ((Sum.inr x.1 : Key), x.2))
  | [], _ => .nil
  | x :: r, t => .cons (by show Value.isStrOf x.1 (.str x.1 t) = true; simp [Value.isStrOf]) rfl (kw_pairs P w r (t + 1))
theorem kw_ok {P : Program} {w : World} {H : Hp} {h : Heap} {t : Tok} {ks : List Str} {us : List Value} {zs : List V} (hn : ks.Nodup) (hl : us.length = ks.length) (r : Vals zs us) (small : ks.length ≤ sizeLine) (big : sysModules < d) {n : Nat}
    (D : h.get? d = some (PySem.W.dictOf (PySem.W.kwEs w.params t (ks.zip us)) n)) : ObjOk P w H h d (.dK ((ks.map fun z => (Sum.inr z : Key)).zip zs)) := by
  have hz : zs.length = ks.length := r.length.trans hl
  refine ⟨by rw [List.length_zip, List.length_map]; omega, beq_eq_false_iff_ne.mpr (Nat.ne_of_gt big), (ks.zip us).map fun x => ((Sum.inr x.1 : Key), x.2), ?_, _, _, _, D, ⟨rfl, rfl, rfl⟩, rfl, fun e he => ?_, by simpa using kw_pairs P w (ks.zip us) t, ?_⟩
  · clear D hn small
    unfold KV
    induction ks generalizing zs us with
    | nil => exact .nil
    | cons z ks ih =>
      cases r with
      | nil => simp at hl
      | cons rx r => exact .cons ⟨rfl, rx⟩ (ih (by simpa using hl) r (by simpa using hz))
  · obtain ⟨k, u, e1, e2⟩ := PySem.W.kwEs_key _ _ e (Array.mem_def.mp he)
    exact ⟨Sum.inr k, by rw [e1]; show Value.isStrOf k (.str k u) = true; simp [Value.isStrOf], e2⟩
  · rw [List.map_map]
    have e : ((fun x : Key × Value => x.1) ∘ fun x : Str × Value => ((Sum.inr x.1 : Key), x.2)) = (fun z => (Sum.inr z : Key)) ∘ Prod.fst := rfl
    rw [e, ← List.map_map, List.map_fst_zip (by omega)]
    exact List.Pairwise.map _ (fun a b hab q => hab (Sum.inr.inj q)) hn
end
/-! ### the def with its dict -/
theorem cxUpN {P : Program} {w : World} : CXUp (L2N.CX P w) := by
  intro outer s H s2 H2 E e s' un kp ho h
  obtain ⟨a, B, H', cls, d, ea, fl, hok, ub, na, os, ag, he⟩ := h
  have up : UB (frs outer) H H' s.heap B s'.heap := by
    constructor
    · exact fun b o q n hb => ub.keep b o (kp b o q) (un.free b o q n (by simp)) hb
    · exact fun b o q hb => ub.slot b o (kp b o q) hb
    · exact fun b o q n => ub.free b o (kp b o q) (un.free b o q n (by simp))
    · exact fun b o q hb => ub.there b o (kp b o q) hb
    · exact fun b xs q => ub.tups b xs (un.tups b xs q)
    · exact fun b o u q => ub.frzs b o u (un.frzs b o u q)
    · intro b ps q
      obtain ⟨m1, e1⟩ := un.tbls b ps q
      obtain ⟨m2, e2⟩ := ub.tbls b _ e1
      rw [Array.append_assoc] at e2
      exact ⟨_, e2⟩
  exact ⟨a, B, H', cls, d, ea, fl, hok, up, na, os.trans ho, ag, he⟩
section
variable {CX : CXT} {P : Program} {w : World} {K : PySem.W.Frag} {mg : Str → Option Value} {base : Heap} {k : Nat} {f : Addr} {name qual : Str} {params : Arguments} {body : List Stmt} {scope : Scope} {dV kV doc pm cdv ct oc : Value} {an od : Option Addr}
  {osl : Array (Option Value)} {N : List Str} {sp : Sp}
/-- one parameter, and keywords gathered -/
def KBd (fd : FuncData) (ks : List Str) (pc pk : Str) : Prop := ∀ (u : Value) (ws : List Value), ws.length = ks.length → bindArgs fd ⟨[u], ks.zip ws⟩ =
  ((alloc ({ cls := .type "dict", data := .dict #[] } : Obj) : Sem Addr) >>= fun d => (forIn (ks.zip ws) PUnit.unit fun x _ => (nsSet d x.1 x.2 >>= fun _ => pure (ForInStep.yield PUnit.unit))) >>= fun _ => pure [(pc, u), (pk, Value.ref d)])
/-- .. its promise: the dict stands at d -/
def KwR (CX : CXT) (P : Program) (w : World) (K : PySem.W.Frag) (mg : Str → Option Value) (base : Heap) (k : Nat) (f : Addr) (ks : List Str) (sp : Sp) : Prop :=
  ∀ (A : Around) (outer : List Env) (s : Shared) (H : Hp) (u : Value) (x : V) (ws : List Value) (zs : List V) (Q : VK) (E : XK), Room k A → Env0 P w K mg base A outer s H → RelV x u → Vals zs ws → zs.length = ks.length →
    (∀ d, H d = none → sp [x, .ref d] (upd H d (.dK ((ks.map fun z => (Sum.inr z : Key)).zip zs))) Q E) → codeAny (model P w) A (.call (.ref f) ⟨[u], ks.zip ws⟩) (CR CX outer P w H s Q E) s
theorem env0_grow {A : Around} {outer : List Env} {s : Shared} {H : Hp} {h' : Heap} {t' : Tok} {u : HO} (e0 : Env0 P w K mg base A outer s H) (kp : ∀ b x, s.heap.get? b = some x → h'.get? b = some x) (sz : s.heap.objs.size ≤ h'.objs.size) (new : ObjOk P w (upd H s.heap.objs.size u) h' s.heap.objs.size u) :
    Env0 P w K mg base A outer { s with heap := h', toks := t' } (upd H s.heap.objs.size u) := by
  constructor
  · exact e0.frames
  · exact e0.mod
  · intro b x e
    refine ⟨kp b x (e0.bs b x e).1, ?_⟩
    rw [upd_ne (Nat.ne_of_lt (Heap.lt_size (e0.bs b x e).1))]
    exact (e0.bs b x e).2
  · exact Nat.le_trans e0.bsz sz
  · exact Heap.FunFrames.of_keeps (fun b x e _ => ⟨x, kp b x e, rfl⟩) e0.funs
  · intro b hb
    obtain ⟨_, x, hx, _⟩ := e0.funs.mem hb
    rw [upd_ne (Nat.ne_of_lt (Heap.lt_size hx))]
    exact e0.frf b hb
  · exact e0.hok.laid kp (Nat.le_refl _) new
  · exact e0.bare
theorem fn_kw {pc pk : Str} {ks : List Str} (lk : K.lookup f = some ⟨oc, od, .func (PySem.W.fnOf name qual params body scope dV kV doc pm an cdv ct), osl⟩) (hcd : PySem.W.codeIn K cdv qual = true) (S : FnScope N [pc, pk] scope) (hCX : CXUp CX)
    (hb : KBd (PySem.W.fnOf name qual params body scope dV kV doc pm an cdv ct) ks pc pk) (hn : ks.Nodup) (small : ks.length ≤ sizeLine)
    (hbody : ∀ (A : Around) (outer : List Env) (s : Shared) (H : Hp) (vs : List V) (Q : VK) (E : XK), Room k (A.deeper (envOfC qual scope s.heap.objs.size f cdv)) → sp vs H Q E →
      ∃ t, PSs (cxOf CX P w K mg base N qual scope f cdv A outer s H E) body t ∧ t { nx := fun _ H' => Q .non H', rt := Q } (start N vs) H) : KwR CX P w K mg base (k + 1) f ks sp := by
  intro A outer s H u x ws zs Q E hr e0 rx rz hz hq
  have hw : ws.length = ks.length := rz.length.symm.trans hz
  have fresh : H s.heap.objs.size = none := e0.hok.fresh (Nat.le_refl _)
  refine run_bnd lk hcd S hr e0 (G := fun xs H2 => ∃ d, H d = none ∧ xs = [x, V.ref d] ∧ H2 = upd H d (.dK ((ks.map fun z => (Sum.inr z : Key)).zip zs))) (fun A' Ex Q' h => ?_) fun s2 H2 xs ⟨d, hd, ex, eH⟩ hr' => ?_
  · rw [hb u ws hw]
    refine wpAny_bind (wpAny_alloc (wpAny_bind (raw_fill (ks.zip ws) { s with heap := s.heap.push { cls := .type "dict", data := .dict #[] } } [] 0 (Heap.get?_push_size _ rfl) (fun _ he => nomatch he) (fun _ he => nomatch he) (by rw [List.map_fst_zip (by omega)]; exact hn) fun h' D k1 z1 => wpAny_pure ?_)))
    have kp : ∀ b o, s.heap.get? b = some o → h'.get? b = some o := fun b o e => by
      rw [k1 b (Nat.ne_of_lt (Heap.lt_size e))]
      exact Heap.get?_push_of_some _ e
    have sz : s.heap.objs.size ≤ h'.objs.size := by
      rw [z1]
      show _ ≤ (s.heap.push _).objs.size
      rw [Heap.size_push]
      exact Nat.le_succ _
    have new := fun G => kw_ok (P := P) (w := w) (H := G) hn hw rz small (env0_big e0) D
    have un : Un (frs outer) [] H (upd H s.heap.objs.size (.dK ((ks.map fun z => (Sum.inr z : Key)).zip zs))) s.heap h' := Un.laid kp (Nat.le_refl _) fresh
    exact h { s with heap := h', toks := s.toks + (ks.zip ws).length } (upd H s.heap.objs.size (.dK ((ks.map fun z => (Sum.inr z : Key)).zip zs))) [x, V.ref s.heap.objs.size] [u, Value.ref s.heap.objs.size] (env0_grow e0 kp sz (new _)) un rfl (fun e s' => hCX outer s H _ _ E e s' un kp rfl) (.cons rx (.cons rfl .nil)) rfl ⟨_, fresh, rfl, rfl⟩
  · subst ex eH
    exact hbody A outer s2 _ _ Q E hr' (hq d hd)
end
/-! ### C.m(k = v, ..) -/
section
variable {X : Cx} {j k : Nat} {C g : Addr} {m : Str} {sp : Sp}
structure KwM (P : Program) (w : World) (K : PySem.W.Frag) (mg : Str → Option Value) (base : Heap) (k : Nat) (C : Addr) (m : Str) (ks : List Str) (sp : Sp) : Prop where
  ex : ∃ (p g : Addr) (mc : Value), CRead K C mc ∧ CMet K C mc m p g ∧ KwR (L2N.CX P w) P w K mg base k g ks sp
def tKwM (C : Addr) (ks : List Str) (sp : Sp) (W : WX) (to : TE) (tk : TA) : TE := fun σ H Q => to σ H fun x H1 => x = .ref C ∧ tk σ H1 fun zs H2 => zs.length = ks.length ∧ ∀ d, H2 d = none → sp [.ref C, .ref d] (upd H2 d (.dK ((ks.map fun z => (Sum.inr z : Key)).zip zs))) Q (WE W σ)
theorem pe_kwM {W : WX} {ks : List Str} {o : Expr} {kws : List Keyword} {to : TE} {tk : TA} {apos pos : Pos} {pl : Sem Bool} (c : KwM X.prog X.w X.K X.mg X.base k C m ks sp) (hr : Room j X.A) (hk : k ≤ j) (tw : L2N.Takes X W) (ho : PE X o to) (hkw : PK X kws tk)
    (hall : (backToKw pos (keywordEach kws X.env)).all (·.1.isSome) = true := by rfl) (hks : (backToKw pos (keywordEach kws X.env)).filterMap (·.1) = ks := by rfl)
    (hpl : ((backTo pos (starEach [] X.env)).any (·.1) || (backToKw pos (keywordEach kws X.env)).any (·.1.isNone)) = false := by rfl)
    (ht : eval (.Call (.Attribute o m apos) [] kws pos) X.env = (do
      let ov ← eval o X.env
      standAt apos.atName
      let (f, first) ← holding [ov] (getMethod ov m pl)
      callWith pos f first (backTo pos (starEach [] X.env)) (backToKw pos (keywordEach kws X.env))) := by rfl) :
    PE X (.Call (.Attribute o m apos) [] kws pos) (tKwM C ks sp W to tk) := by
  obtain ⟨p, g, mc, r, cm, F⟩ := c.ex
  constructor
  intro pins s σ H Q I h
  refine PySem.W.methodCall_KW (pl := pl) (thn (ho.run pins s σ H _ I h) fun u s1 ⟨x, H1, I1, rx, ex, q⟩ => ?_) ht
  subst ex
  obtain rfl : u = Value.ref C := rx
  refine getmethcm_ok I1 r cm fun s2 I2 => ?_
  refine PySem.W.callWith_of hpl (PySem.W.keeps_M (K := X.K) (self := .ref C) cm.fi) (evalArgs_kw2_nil hall ?_)
  refine thn (hkw.run pos _ s2 σ H1 _ I2 q) fun ws s3 ⟨zs, H2, I3, rz, lz, q2⟩ => ⟨⟨pin_at I3, I3.kIn⟩, ?_⟩
  rw [hks]
  have ran : wpAny (model X.prog X.w) X.A (call (.ref s1.heap.objs.size) [] (ks.zip ws)) (EP X ((s1.heap.objs.size, PySem.W.methodObj (.ref g) (.ref C)) :: pins) σ Q) X.xe s3 := by
    refine wpAny_call (PySem.W.method_call (pin_at I3) (codeAny_mono (F X.A X.stack s3 H2 (.ref C) (.ref C) ws zs Q (WE W σ) (hr.mono hk) I3.env0 rfl rz lz q2) fun r s4 got => ?_))
    match r with
    | .error e => exact L2N.passAt tw σ _ H2 s3 e s4 I3 got
    | .ok (.ret u) => exact I3.after got
    | .ok .next | .ok .brk | .ok .cont => exact got.elim
  exact thn ran fun _ _ y => unpinE y
/-- c(e, ..), c a local name that holds the class at C -/
def tMkV (i : Nat) (C : Addr) (sp : Sp) (W : WX) (t : TA) : TE := fun σ H Q => σ[i]? = some (some (.ref C)) ∧ tMkX C sp W t σ H Q
structure MkM (P : Program) (w : World) (K : PySem.W.Frag) (mg : Str → Option Value) (base : Heap) (k : Nat) (C : Addr) (sp : Sp) : Prop where
  ex : ∃ (f : Addr) (fd : FuncData) (ps : List Str), Mk K C f ∧ FnOk P w K mg base (L2N.CX P w) k f fd ps sp ∧ Binds K fd ps []
theorem pe_mkV {x : Str} {i : Nat} {W : WX} {e : Expr} {es : List Expr} {t : TA} {p pos : Pos} (c : MkM X.prog X.w X.K X.mg X.base k C sp) (hr : Room j X.A) (hk : k + 1 ≤ j) (tw : L2N.Takes X W) (ha : PA X (e :: es) t)
    (hN : X.N[i]? = some x := by rfl) (hv : Vis X.env.scope x := by first | exact Or.inl rfl | exact Or.inr (Or.inl rfl) | exact Or.inr (Or.inr rfl)) (hd : (x == ("__debug__" : Str)) = false := by decide) (hcd : (x == ("__classdict__" : Str)) = false := by decide)
    (he : starEach (e :: es) X.env = (false, eval e X.env) :: starEach es X.env := by rfl) (hpl : (backTo pos (starEach es X.env)).any (·.1) = false := by rfl) : PE X (.Call (.Name x p) (e :: es) [] pos) (tMkV i C sp W t) := by
  obtain ⟨f, fd, ps, M, F, b⟩ := c.ex
  constructor
  intro pins s σ H Q I h
  obtain ⟨hs, h⟩ := h
  refine wpAny_Call_Name_kw (thn ((pe_var (pos := p) (i := i) hN hv hd hcd).run pins s σ H (fun v H1 => v = .ref C ∧ H1 = H) I ⟨.ref C, hs, rfl, rfl⟩) fun u0 s0 ⟨v0, H0, I0, r0, e0, eH⟩ => ?_)
  subst e0
  rw [eH] at I0
  cases r0
  refine PySem.W.callWith_K (h₀ := X.base) I0.ok.mod.kin M.kp (thn (ha.run pos pins s0 σ H _ I0 h) fun us s1 ⟨vs, H1, I1, r, q⟩ => ⟨I1.kIn, ?_⟩) he hpl
  have asked := q (s1.heap.objs.size + 1) s1.heap.objs.size (I1.hok.fresh (Nat.le_succ _)) (I1.hok.fresh (Nat.le_refl _)) (Nat.ne_of_lt (Nat.lt_succ_self _))
  have J := Inv.made (C := C) I1
  have rel : Vals (V.ref (s1.heap.objs.size + 1) :: vs) (Value.ref (s1.heap.objs.size + 1) :: us) := .cons rfl r
  have len : (Value.ref (s1.heap.objs.size + 1) :: us).length = ps.length := by rw [← rel.length]; exact F.len _ _ _ _ asked
  have bound := b _ (Value.ref (s1.heap.objs.size + 1) :: us) J.kIn (by rw [List.append_nil]; exact len)
  rw [List.append_nil] at bound
  have ran := F.run _ X.stack _ _ ⟨Value.ref (s1.heap.objs.size + 1) :: us, []⟩ _ _ _ _ ((hr.mono hk).make C us []) (J.env0.make C us []) bound rel asked
  refine wpAny_call (make_map (f := f) I1.kIn M.makes M.init (beq_iff_eq.mp M.fn) (codeAny_mono ran fun r2 s2 got => ?_))
  match r2 with
  | .error e => exact tw e s2 (L2N.XE.of_call J (fun _ _ _ z => z) got)
  | .ok (.ret u) =>
    obtain ⟨v, H2, J2, rv, ev, q2⟩ := J.after got
    subst ev
    exact ⟨rv, ⟨V.ref (s1.heap.objs.size + 1), H2, J2, rfl, q2⟩⟩
  | .ok .next | .ok .brk | .ok .cont => exact got.elim
end
end Fx

/-! a[b] of an own object within an except suite, where the method raises nothing -/
namespace Fx
open PySem PySem.Spec PyProof.Rows L2
/-- a statement that is never met -/
theorem ps_dead {X : Cx} {st : Stmt} : PS X st (fun _ _ _ => False) := by
  constructor
  intros
  rename_i h
  exact h.elim
structure OpH (P : Program) (w : World) (K : PySem.W.Frag) (mg : Str → Option Value) (base : Heap) (k : Nat) (C : Addr) (m : Str) (sp : Sp) : Prop where
  ex : ∃ (f : Addr) (fd : FuncData) (ps : List Str), PySem.W.findIn K (.ref C) m = some (some (.ref f)) ∧ PySem.W.isFn K (.ref f) = true ∧ PySem.W.fnIn K f = true ∧ L2H.FnH P w K mg base CX0 k f fd ps sp ∧ Binds K fd ps []
/-- a suite has the room that its block has -/
theorem roomH_suite {X : Cx} {j : Nat} {a : Addr} {pn : List (Addr × Obj)} (r : Room j X.A) : L2H.RoomH j (X.suite a pn).A := ⟨r.dp, r.un⟩
section
variable {X : Cx} {j k : Nat} {C : Addr} {sp : Sp}
def tGetH (C : Addr) (sp : Sp) (ta tb : TE) : TE := fun σ H Q => ta σ H fun x H1 => tb σ H1 fun y H2 => ∃ p, x = .ref p ∧ At C H2 p ∧ sp [.ref p, y] H2 Q C8.E0
theorem pe_getH {a b : Expr} {ta tb : TE} {pos : Pos} (c : OpH X.prog X.w X.K X.mg X.base k C "__getitem__" sp) (hc : L2H.HotC X) (hr : L2H.RoomH j X.A) (hk : k + 1 ≤ j) (ha : PE X a ta) (hb : PE X b tb)
    (hs : ∀ o i, subscripted b true o i = runValue (.builtin "lifetime.subscript" ⟨[o, i], []⟩) := by intro _ _; rfl) : PE X (.Subscript a b pos) (tGetH C sp ta tb) := by
  obtain ⟨f, fd, ps, hf, hfn, kp, F, bd⟩ := c.ex
  constructor
  intro pins s σ H Q I h
  refine Subscript_ (binT ha hb I h fun v u s2 x y H2 I2 rx ry q => ?_)
  obtain ⟨p, rfl, hp, q⟩ := q
  obtain rfl : v = Value.ref p := rx
  obtain ⟨o, od, J⟩ := inst I2 hp
  obtain ⟨m, Fr0⟩ := I2.fr
  have rel : Vals [V.ref p, y] [Value.ref p, u] := .cons rfl (.cons ry .nil)
  have len : [Value.ref p, u].length = ps.length := by rw [← rel.length]; exact F.len _ _ _ _ q
  have bound := bd s2 [Value.ref p, u] I2.kIn (by rw [List.append_nil]; exact len)
  rw [List.append_nil] at bound
  obtain ⟨e, hot, he⟩ := hc
  have P1 := I2.pin e (List.mem_append_left _ he)
  have pin : L2H.PinOk X.stack H2 s2 e := ⟨P1.1, P1.2.1, fun hm => (List.mem_cons.mp (I2.stkSub e.1 hm)).elim P1.2.2.1 P1.2.2.2.1, P1.2.2.2.2⟩
  have room : L2H.RoomH k X.A.in1 := ⟨by have := hr.dp; show X.A.depth + 3 * k + 5 < _; omega, by have := hr.un; show X.A.units + 1 + 16 * k + 200 < _; omega⟩
  have hot1 : L2H.Hot1 X.A.in1 e := hot
  have ran : wpAny (model X.prog X.w) X.A.in1 (call (.ref f) [.ref p, u]) (EP X pins σ Q) X.xe s2 := by
    refine wpAny_call (codeAny_mono (F.run X.A.in1 X.stack s2 H2 ⟨[.ref p, u], []⟩ _ _ Q C8.E0 e room hot1 pin I2.env0.in1 bound rel q) fun r s3 got => ?_)
    match r with
    | .error e => exact got.elim
    | .ok (.ret u) => exact I2.after got
    | .ok .next | .ok .brk | .ok .cont => exact got.elim
  exact PySem.W.sub_K Fr0 I2.ok.mod.kin J hf kp hfn ran (hs _ _)
end
end Fx

/-! a class whose __init__ has a default: C(), C(e), C(k = e); properties; methods with arguments that raise nothing -/
namespace Fx
open PySem PySem.Spec PyProof.Rows L2 ClX
/-- C(): the defaults are filled in -/
structure MkD (P : Program) (w : World) (K : PySem.W.Frag) (mg : Str → Option Value) (base : Heap) (k : Nat) (x : Str) (C : Addr) (dvs : List V) (sp : Sp) : Prop where
  ex : ∃ (f : Addr) (fd : FuncData) (ps : List Str) (ds : List Value), Mk K C f ∧ FnOk P w K mg base (L2N.CX P w) k f fd ps sp ∧ mg x = some (.ref C) ∧ Vals dvs ds ∧ Binds K fd ps ds
def tMkD0 (C : Addr) (sp : Sp) (dvs : List V) (W : WX) : TE := fun σ H Q => ∀ y dy, H y = none → H dy = none → dy ≠ y → sp (.ref y :: dvs) (upd (upd H dy (.own y)) y (.ins C dy [])) (fun v H2 => v = .non ∧ Q (.ref y) H2) (WE W σ)
theorem pe_mkD0 {X : Cx} {j k : Nat} {x : Str} {C : Addr} {sp : Sp} {W : WX} {dvs : List V} {p pos : Pos} (c : MkD X.prog X.w X.K X.mg X.base k x C dvs sp) (hr : Room j X.A) (hk : k + 1 ≤ j) (hg : Gl X x) (tk : L2N.Takes X W)
    (hdb : (x == ("__debug__" : Str)) = false := by decide) : PE X (.Call (.Name x p) [] [] pos) (tMkD0 C sp dvs W) := by
  obtain ⟨f, fd, ps, ds, M, F, hm, rd, b⟩ := c.ex
  refine ⟨fun pins s σ H Q I h => ?_⟩
  refine wpAny_Call_Name_kw (ld_glob I hg hm ?_ hdb)
  refine PySem.W.callWith_K0 I.kIn M.kp ?_
  have asked := h (s.heap.objs.size + 1) s.heap.objs.size (I.hok.fresh (Nat.le_succ _)) (I.hok.fresh (Nat.le_refl _)) (Nat.ne_of_lt (Nat.lt_succ_self _))
  have J := Inv.made (C := C) I
  have rel : Vals (V.ref (s.heap.objs.size + 1) :: dvs) (Value.ref (s.heap.objs.size + 1) :: ds) := .cons rfl rd
  have len : (Value.ref (s.heap.objs.size + 1) :: ds).length = ps.length := by rw [← rel.length]; exact F.len _ _ _ _ asked
  have bound := b _ [Value.ref (s.heap.objs.size + 1)] J.kIn len
  have ran := F.run _ X.stack _ _ ⟨[Value.ref (s.heap.objs.size + 1)], []⟩ (Value.ref (s.heap.objs.size + 1) :: ds) _ _ _ ((hr.mono hk).make C [] []) (J.env0.make C [] []) bound rel asked
  refine wpAny_call (make_map (f := f) I.kIn M.makes M.init (beq_iff_eq.mp M.fn) (codeAny_mono ran fun r2 s2 got => ?_))
  match r2 with
  | .error e => exact tk e s2 (L2N.XE.of_call J (fun _ _ _ z => z) got)
  | .ok (.ret u) =>
    obtain ⟨v, H2, J2, rv, ev, q2⟩ := J.after got
    subst ev
    exact ⟨rv, ⟨V.ref (s.heap.objs.size + 1), H2, J2, rfl, q2⟩⟩
  | .ok .next | .ok .brk | .ok .cont => exact got.elim
/-- C(k = e) -/
structure MkW (P : Program) (w : World) (K : PySem.W.Frag) (mg : Str → Option Value) (base : Heap) (k : Nat) (x : Str) (C : Addr) (ks : List Str) (sp : Sp) : Prop where
  ex : ∃ (f : Addr) (fd : FuncData) (ps : List Str) (g : List Value → List Value → List Value), Mk K C f ∧ FnOk P w K mg base (L2N.CX P w) k f fd ps sp ∧ mg x = some (.ref C) ∧ KBn K fd ps 1 ks g (fun vs zs => vs ++ zs)
def tMkW (C : Addr) (m : Nat) (sp : Sp) (W : WX) (tk : TA) : TE := fun σ H Q => tk σ H fun zs H1 => zs.length = m ∧ ∀ y dy, H1 y = none → H1 dy = none → dy ≠ y → sp (.ref y :: zs) (upd (upd H1 dy (.own y)) y (.ins C dy [])) (fun v H2 => v = .non ∧ Q (.ref y) H2) (WE W σ)
theorem pe_mkW {X : Cx} {j k : Nat} {x : Str} {C : Addr} {sp : Sp} {W : WX} {ks : List Str} {kws : List Keyword} {tkw : TA} {p pos : Pos} (c : MkW X.prog X.w X.K X.mg X.base k x C ks sp) (hr : Room j X.A) (hk : k + 1 ≤ j) (hg : Gl X x) (tk : L2N.Takes X W) (hkw : PK X kws tkw)
    (hall : (backToKw pos (keywordEach kws X.env)).all (·.1.isSome) = true := by rfl) (hks : (backToKw pos (keywordEach kws X.env)).filterMap (·.1) = ks := by rfl) (hdb : (x == ("__debug__" : Str)) = false := by decide)
    (hpl : ((backTo pos (starEach [] X.env)).any (·.1) || (backToKw pos (keywordEach kws X.env)).any (·.1.isNone)) = false := by rfl) : PE X (.Call (.Name x p) [] kws pos) (tMkW C ks.length sp W tkw) := by
  obtain ⟨f, fd, ps, g, M, F, hm, hb⟩ := c.ex
  refine ⟨fun pins s σ H Q I h => ?_⟩
  refine wpAny_Call_Name_kw (ld_glob I hg hm ?_ hdb)
  refine PySem.W.callWith_KW0 (h₀ := X.base) I.ok.mod.kin M.kp hall ?_ hpl
  refine thn (hkw.run pos pins s σ H _ I h) fun ws s2 ⟨zs, H2, I2, rz, l2, q2⟩ => ⟨I2.kIn, ?_⟩
  rw [hks]
  have asked := q2 (s2.heap.objs.size + 1) s2.heap.objs.size (I2.hok.fresh (Nat.le_succ _)) (I2.hok.fresh (Nat.le_refl _)) (Nat.ne_of_lt (Nat.lt_succ_self _))
  have J := Inv.made (C := C) I2
  have r1 : Vals [V.ref (s2.heap.objs.size + 1)] [Value.ref (s2.heap.objs.size + 1)] := .cons rfl .nil
  have rel := hb.rel r1 rz
  have bound := hb.to _ [Value.ref (s2.heap.objs.size + 1)] ws J.kIn rfl (rz.length.symm.trans l2)
  have ran := F.run _ X.stack _ _ ⟨[Value.ref (s2.heap.objs.size + 1)], ks.zip ws⟩ (g [Value.ref (s2.heap.objs.size + 1)] ws) _ _ _ ((hr.mono hk).make C [] (ks.zip ws)) (J.env0.make C [] (ks.zip ws)) bound rel asked
  refine wpAny_call (make_map (f := f) I2.kIn M.makes M.init (beq_iff_eq.mp M.fn) (codeAny_mono ran fun r2 s3 got => ?_))
  match r2 with
  | .error e => exact tk e s3 (L2N.XE.of_call J (fun _ _ _ z => z) got)
  | .ok (.ret u) =>
    obtain ⟨v, H3, J2, rv, ev, q3⟩ := J.after got
    subst ev
    exact ⟨rv, ⟨V.ref (s2.heap.objs.size + 1), H3, J2, rfl, q3⟩⟩
  | .ok .next | .ok .brk | .ok .cont => exact got.elim
/-- a property -/
structure PropC (P : Program) (w : World) (K : PySem.W.Frag) (mg : Str → Option Value) (base : Heap) (k : Nat) (C : Addr) (f : Str) (sp : Sp) : Prop where
  ex : ∃ (p g : Addr) (fd : FuncData) (ps : List Str), PropOf K C f p g ∧ FnOk P w K mg base CX0 k g fd ps sp ∧ Binds K fd ps []
theorem pe_propC {X : Cx} {j k : Nat} {C : Addr} {f : Str} {sp : Sp} {e : Expr} {te : TE} {pos : Pos} (c : PropC X.prog X.w X.K X.mg X.base k C f sp) (cl : Cls X.K C) (hr : Room j X.A) (hk : k + 1 ≤ j) (he : PE X e te) (hab : attributeBase e f X.env (eval e X.env) = eval e X.env := by rfl) :
    PE X (.Attribute e f pos) (tProp C sp [] C8.E0 te) := by
  obtain ⟨p, g, fd, ps, hp, F, b⟩ := c.ex
  exact pe_prop he cl hp F (hr.mono hk) b .nil pass0 hab
/-- o.m(e, ..): it raises nothing -/
theorem pe_mc {X : Cx} {j k : Nat} {C : Addr} {m : Str} {sp : Sp} {o e : Expr} {es : List Expr} {to : TE} {t : TA} {apos pos : Pos} {pl : Sem Bool} (c : MethC X.prog X.w X.K X.mg X.base k C m sp) (cl : Cls X.K C) (hr : Room j X.A) (hk : k ≤ j) (ho : PE X o to) (ha : PA X (e :: es) t)
    (hst : starEach (e :: es) X.env = (false, eval e X.env) :: starEach es X.env := by rfl) (hpl : (backTo pos (starEach es X.env)).any (·.1) = false := by rfl)
    (ht : eval (.Call (.Attribute o m apos) (e :: es) [] pos) X.env = (do
      let v ← eval o X.env
      standAt apos.atName
      let (g, self) ← holding [v] (getMethod v m pl)
      callWith pos g self (backTo pos (starEach (e :: es) X.env)) (backToKw pos (keywordEach [] X.env))) := by rfl) : PE X (.Call (.Attribute o m apos) (e :: es) [] pos) (tMeth C m sp [] C8.E0 to t) := by
  obtain ⟨f, fd, ps, M, F, b⟩ := c.ex
  exact pe_meth ho cl M F (hr.mono hk) b .nil pass0 ha hst hpl ht
/-- the same without places; it may raise -/
theorem pe_mx0 {X : Cx} {j k : Nat} {C : Addr} {sp : Sp} {m : Str} {W : WX} {o : Expr} {to : TE} {apos pos : Pos} {pl : Sem Bool} (c : MethX X.prog X.w X.K X.mg X.base k C m sp) (cl : Cls X.K C) (hr : Room j X.A) (hk : k ≤ j) (tk : L2N.Takes X W) (ho : PE X o to)
    (ht : eval (.Call (.Attribute o m apos) [] [] pos) X.env = (do
      let v ← eval o X.env
      standAt apos.atName
      let (g, self) ← holding [v] (getMethod v m pl)
      callWith pos g self (backTo pos (starEach [] X.env)) (backToKw pos (keywordEach [] X.env))) := by rfl) : PE X (.Call (.Attribute o m apos) [] [] pos) (tMethX C m sp W to tNil) := by
  obtain ⟨f, fd, ps, M, F, bd⟩ := c.ex
  refine ⟨fun pins s σ H Q I h => ?_⟩
  refine PySem.W.methodCall_KW (pl := pl) (thn (ho.run pins s σ H _ I h) fun u s1 ⟨x, H1, I1, rx, a, dx, fs, ex, ea, l, q⟩ => ?_) ht
  subst ex
  obtain rfl : u = Value.ref a := rx
  refine getmeth_ok I1 ea cl M l ?_
  exact PySem.W.callWith_K0 I1.kIn M.kp (run_fnS F (hr.mono hk) bd (L2N.passAt tk σ) I1 (us := .ref a :: []) (vs := .ref a :: []) (.cons rfl .nil) q)
/-! ### binding with one default -/
section
variable {K : PySem.W.Frag} {x qual : Str} {params : Arguments} {body : List Stmt} {scope : Scope} {d : V} {f : Addr} {fd : FuncData} {ps : List Str}
end
end Fx

/-! methods and defs with a star parameter -/
namespace Fx
open PySem PySem.Spec PyProof.Rows L2 StX
/-- a method that takes any number of places; it may raise -/
structure MethR (P : Program) (w : World) (K : PySem.W.Frag) (mg : Str → Option Value) (base : Heap) (k : Nat) (C : Addr) (m : Str) (sp : Sp) : Prop where
  ex : ∃ f : Addr, Meth K C m f ∧ FnR P w K mg base (L2N.CX P w) k f sp
section
variable {X : Cx} {j k : Nat} {C : Addr} {sp : Sp}
theorem run_fnRS {CX : CXT} {f : Addr} {E : XK} {pins : List (Addr × Obj)} {σ : L2.St} {H : Hp} {s : Shared} {Q : VK} {us : List Value} {vs : List V} (F : FnR X.prog X.w X.K X.mg X.base CX k f sp) (hr : Room k X.A) (hx : PassesAt CX X σ E) (I : Inv X pins σ H s) (r : Vals vs us) (h : sp vs H Q E) :
    wpAny (model X.prog X.w) X.A (call (.ref f) us) (EP X pins σ Q) X.xe s := by
  refine wpAny_call (codeAny_mono (F X.A X.stack s H us vs Q E hr I.env0 r h) fun r s1 got => ?_)
  match r with
  | .error e => exact hx pins H s e s1 I got
  | .ok (.ret u) => exact I.after got
  | .ok .next | .ok .brk | .ok .cont => exact got.elim
theorem pe_mr {m : Str} {W : WX} {o e : Expr} {es : List Expr} {to : TE} {t : TA} {apos pos : Pos} {pl : Sem Bool} (c : MethR X.prog X.w X.K X.mg X.base k C m sp) (cl : Cls X.K C) (hr : Room j X.A) (hk : k ≤ j) (tk : L2N.Takes X W) (ho : PE X o to) (ha : PA X (e :: es) t)
    (hst : starEach (e :: es) X.env = (false, eval e X.env) :: starEach es X.env := by rfl) (hpl : (backTo pos (starEach es X.env)).any (·.1) = false := by rfl)
    (ht : eval (.Call (.Attribute o m apos) (e :: es) [] pos) X.env = (do
      let v ← eval o X.env
      standAt apos.atName
      let (g, self) ← holding [v] (getMethod v m pl)
      callWith pos g self (backTo pos (starEach (e :: es) X.env)) (backToKw pos (keywordEach [] X.env))) := by rfl) : PE X (.Call (.Attribute o m apos) (e :: es) [] pos) (tMethX C m sp W to t) := by
  obtain ⟨f, M, F⟩ := c.ex
  refine ⟨fun pins s σ H Q I h => ?_⟩
  refine PySem.W.methodCall_KW (pl := pl) (thn (ho.run pins s σ H _ I h) fun u s1 ⟨x, H1, I1, rx, a, dx, fs, ex, ea, l, q⟩ => ?_) ht
  subst ex
  obtain rfl : u = Value.ref a := rx
  refine getmeth_ok I1 ea cl M l ?_
  refine PySem.W.callWith_K (first := [.ref a]) (h₀ := X.base) I.ok.mod.kin M.kp (thn (ha.run pos pins s1 σ H1 _ I1 q) fun us s2 ⟨vs, H2, I2, r, q2⟩ => ⟨I2.kIn, ?_⟩) hst hpl
  exact run_fnRS F (hr.mono hk) (L2N.passAt tk σ) I2 (us := .ref a :: us) (vs := .ref a :: vs) (.cons rfl r) q2
theorem pe_mr0 {m : Str} {W : WX} {o : Expr} {to : TE} {apos pos : Pos} {pl : Sem Bool} (c : MethR X.prog X.w X.K X.mg X.base k C m sp) (cl : Cls X.K C) (hr : Room j X.A) (hk : k ≤ j) (tk : L2N.Takes X W) (ho : PE X o to)
    (ht : eval (.Call (.Attribute o m apos) [] [] pos) X.env = (do
      let v ← eval o X.env
      standAt apos.atName
      let (g, self) ← holding [v] (getMethod v m pl)
      callWith pos g self (backTo pos (starEach [] X.env)) (backToKw pos (keywordEach [] X.env))) := by rfl) : PE X (.Call (.Attribute o m apos) [] [] pos) (tMethX C m sp W to tNil) := by
  obtain ⟨f, M, F⟩ := c.ex
  refine ⟨fun pins s σ H Q I h => ?_⟩
  refine PySem.W.methodCall_KW (pl := pl) (thn (ho.run pins s σ H _ I h) fun u s1 ⟨x, H1, I1, rx, a, dx, fs, ex, ea, l, q⟩ => ?_) ht
  subst ex
  obtain rfl : u = Value.ref a := rx
  refine getmeth_ok I1 ea cl M l ?_
  exact PySem.W.callWith_K0 I1.kIn M.kp (run_fnRS F (hr.mono hk) (L2N.passAt tk σ) I1 (us := .ref a :: []) (vs := .ref a :: []) (.cons rfl .nil) q)
/-- a def of the module with a star parameter, called with a star; it raises nothing -/
structure CalR (P : Program) (w : World) (K : PySem.W.Frag) (mg : Str → Option Value) (base : Heap) (k : Nat) (x : Str) (sp : Sp) : Prop where
  ex : ∃ f : Addr, FnR P w K mg base CX0 k f sp ∧ mg x = some (.ref f) ∧ PySem.W.keepIn K (.ref f) = true
def tCalR (sp : Sp) (t : TA) : TE := fun σ H Q => t σ H fun vs H1 => sp vs H1 Q C8.E0
theorem pe_cR {x : Str} {e : Expr} {es : List Expr} {t : TA} {p pos : Pos} (c : CalR X.prog X.w X.K X.mg X.base k x sp) (hr : Room j X.A) (hk : k ≤ j) (hg : Gl X x) (ha : PA X (e :: es) t) (hd : (x == ("__debug__" : Str)) = false := by decide)
    (he : starEach (e :: es) X.env = (false, eval e X.env) :: starEach es X.env := by rfl) (hst : (backTo pos (starEach es X.env)).any (·.1) = true := by rfl) : PE X (.Call (.Name x p) (e :: es) [] pos) (tCalR sp t) := by
  obtain ⟨f, F, hm, kp⟩ := c.ex
  exact pe_callS2 F (hr.mono hk) kp hg hm pass0 ha hd he hst
/-- y = {k: v for ..} -/
theorem ps_setDc {i : Nat} {y : Str} {py : Pos} {kx vx tg iter : Expr} {ifs : List Expr} {scope : Scope} {own : List (Str × Nat)} {pos spos : Pos} {wi : TI} {g : TG} {tt : TT} {tk tv : TE} (hc : X.calm = true) (hN : X.N.Nodup) (hy : X.N[i]? = some y) (hyl : X.env.scope.names.lookup y = some .local)
    (hsw : swapsWith (.DictComp kx vx [⟨tg, iter, ifs, 0⟩] scope pos) (some (.Name y py)) spos.line X.env = pure true) (hi : PI X tg iter wi) (ok : BlkOk X.N X.env.scope scope own)
    (hg : ∀ (s : Shared) (H : Hp) (C : Addr) (cl : List (Str × Addr)) (fp : List Addr), PG (X.blk s H scope (compEnvC scope cl C X.env) fp) tg g) (ht : ∀ (s : Shared) (H : Hp) (C : Addr) (cl : List (Str × Addr)) (fp : List Addr), PTs (X.blk s H scope (compEnvC scope cl C X.env) fp) ifs tt)
    (hk : ∀ (s : Shared) (H : Hp) (C : Addr) (cl : List (Str × Addr)) (fp : List Addr), PE (X.blk s H scope (compEnvC scope cl C X.env) fp) kx tk)
    (he : ∀ (s : Shared) (H : Hp) (C : Addr) (cl : List (Str × Addr)) (fp : List Addr), PE (X.blk s H scope (compEnvC scope cl C X.env) fp) vx tv) (hs : ∀ x, foldedSetIterable iter X.env x = pure x := by intro _; rfl) :
    PS X (.Assign [.Name y py] (.DictComp kx vx [⟨tg, iter, ifs, 0⟩] scope pos) spos) (tAsg (tDc wi g tt tk tv (own.map (·.2))) (gName i)) := by
  refine ⟨fun pins s σ H D I h => ?_⟩
  rw [exec_Assign_Name_used _ _ _ _ hsw]
  refine wpAny_bind (wpAny_standAt (wpAny_bind ?_))
  show wpAny _ X.A (do let _ ← comprehension (.DictComp kx vx [⟨tg, iter, ifs, 0⟩] scope pos) scope X.env (firstIterPos [⟨tg, iter, ifs, 0⟩] pos) newDict false (eval iter X.env) (some (assign (.Name y py) X.env))) _ _ s
  have h : tDc wi g tt tk tv (own.map (·.2)) σ H (fun x H1 => gName i x σ H1 D.nx) := h
  refine wpAny_bind (thn (dc_core (Qf := fun _ s' => SP X pins D .next s') hc hN I hi ok hg ht hk he hs h fun L C s' m H' I' q hn f => ?_) fun _ s' hq => wpAny_pure (wpAny_pure hq))
  show wpAny _ _ (assign (.Name y py) X.env (.ref L)) _ _ _
  refine wpAny_assign_Name (store_ok2 (v := V.ref L) I' hN hy (.inl hyl) rfl (fun s2 I2 ⟨a, sb, ha⟩ => ?_) (.inr hyl))
  obtain ⟨f0, f1, f2, f3, f4, f5⟩ := f
  have haC : C ≠ a := by
    rcases ha with z | z
    · rw [z]; exact f1
    · exact fun e => f4 y a z e.symm
  refine ⟨m, hn.sameBut sb haC, fun h3 sb3 => ?_⟩
  exact ⟨_, H', I2.turned (t' := s2.toks) (fun b o hb e => (sb3.2 b hb).trans e) f0 f1 f3 f4 f5, q⟩
theorem sw_trueD {kx vx : Expr} {gs : List Comprehension} {scope : Scope} {pos py : Pos} {y : Str} {l : Nat} {env : Env} (hk : env.scope.kind = .function) (hy : env.scope.names.lookup y = some .local) (hl : (py.line == pos.line) = true)
    (ha : (scope.names.any fun (n, k) => n == y && (k == .local || k == .cell)) = false) : swapsWith (.DictComp kx vx gs scope pos) (some (.Name y py)) l env = pure true := by
  have ky : env.kindOf y = some .local := hy
  have hb : env.blockKind = .function := by unfold Env.blockKind; rw [hk]; rfl
  unfold swapsWith
  simp only [hb, ky, ha, Expr.pos, hl]
  rfl
end
end Fx

/-! a text times 1 -/
namespace Fx
open PySem PySem.Spec PyProof.Rows L2
def rRep1 : R2 := fun x y H Q => ∃ z, x = .str z ∧ y = .int 1 ∧ 0 < z.length ∧ z.length ≤ 1000 ∧ Q (.str z) H
theorem op_rep1 {X : Cx} : OpR X (binaryOp .Mult) rRep1 := by
  intro pins s σ H x y v u Q I rx ry h
  obtain ⟨z, rfl, rfl, h3, h4, q⟩ := h
  obtain ⟨t, rfl⟩ := rx
  obtain ⟨t2, rfl⟩ := ry
  refine PySem.P.mul_str ?_ (fun _ _ => ?_) (fun _ _ => ?_) ?_
  · decide
  · have : (z.length : Int) ≤ 1000 := by omega
    omega
  · exact decide_eq_false (by rw [sizeLine_eq, show Int.toNat 1 = 1 from rfl]; omega)
  · rw [if_neg (by decide)]
    refine ⟨.str _, H, I, ⟨_, rfl⟩, q⟩
end Fx

namespace Fx
open PySem L2
/-! ### rows of texts, ints and None as data -/
/-- a flat thing -/
inductive FD where
  | s (z : Str)
  | i (n : Int)
  | no
deriving DecidableEq
def FD.v : FD → V
  | .s z => .str z
  | .i n => .int n
  | .no => .non
def FD.d : FD → PyData
  | .s z => .str z
  | .i n => .int n
  | .no => .none
def FD.ok : FD → Prop
  | .s z => PyData.strOk z = true
  | _ => True
theorem FD.dp {K : PySem.W.Frag} {H : Hp} : ∀ x : FD, Dp K H x.v x.d
  | .s z => .str z
  | .i n => .int n
  | .no => .non
theorem FD.eqv (x y : FD) : PyData.eqv x.d y.d = decide (x = y) := by
  cases x <;> cases y <;> simp [FD.d, PyData.eqv, Bool.beq_eq_decide_eq]
theorem FD.lay {x : FD} (h : x.ok) : PyData.canLay0 x.d = true ∧ PyData.depth x.d = 0 := by
  cases x with
  | s z =>
    have h : PyData.strOk z = true := h
    simp [FD.d, PyData.canLay0, PyData.depth, h]
  | i n => simp [FD.d, PyData.canLay0, PyData.depth]
  | no => simp [FD.d, PyData.canLay0, PyData.depth]
/-- rows of flat things -/
def fds (r : List FD) : List PyData := r.map FD.d
theorem fds_dp {K : PySem.W.Frag} {H : Hp} : ∀ r : List FD, DpAll K H (r.map FD.v) (fds r)
  | [] => .nil
  | x :: r => .cons x.dp (fds_dp r)
theorem fds_eqv : ∀ r q : List FD, PyData.eqvAll (fds r) (fds q) = decide (r = q)
  | [], [] => by simp [fds, PyData.eqvAll]
  | [], _ :: _ => by simp [fds, PyData.eqvAll]
  | _ :: _, [] => by simp [fds, PyData.eqvAll]
  | x :: r, y :: q => by
    have ih := fds_eqv r q
    unfold fds at ih ⊢
    rw [List.map_cons, List.map_cons, PyData.eqvAll, ih, FD.eqv]
    by_cases h : x = y
    · subst h
      simp
    · simp [h]
theorem fds_lay : ∀ {r : List FD}, (∀ x ∈ r, x.ok) → PyData.canLayAll0 (fds r) = true ∧ PyData.depthAll (fds r) = 0
  | [], _ => by simp [fds, PyData.canLayAll0, PyData.depthAll]
  | x :: r, h => by
    obtain ⟨a, b⟩ := fds_lay fun y hy => h y (List.mem_cons_of_mem _ hy)
    obtain ⟨c, d⟩ := FD.lay (h x List.mem_cons_self)
    unfold fds at a b ⊢
    rw [List.map_cons, PyData.canLayAll0, PyData.depthAll, a, b, c, d]
    exact ⟨rfl, rfl⟩
theorem fdT_sh {r : List FD} (h : ∀ x ∈ r, x.ok) : SeqAt.shaped (.tuple (fds r)) = true := by
  obtain ⟨a, b⟩ := fds_lay h
  simp [SeqAt.shaped, PyData.canLay0, PyData.depth, a, b]
theorem fdL_sh {r : List FD} (h : ∀ x ∈ r, x.ok) : SeqAt.shaped (.list (fds r)) = true := by
  obtain ⟨a, b⟩ := fds_lay h
  simp [SeqAt.shaped, PyData.canLay0, PyData.depth, a, b]
theorem fdT_eqv (r q : List FD) : PyData.eqv (.tuple (fds r)) (.tuple (fds q)) = decide (r = q) := by
  rw [PyData.eqv, fds_eqv]
theorem fdL_eqv (r q : List FD) : PyData.eqv (.list (fds r)) (.list (fds q)) = decide (r = q) := by
  rw [PyData.eqv, fds_eqv]
/-! ### lists of tuples of flat things -/
def fdr (rs : List (List FD)) : List PyData := rs.map fun r => .tuple (fds r)
/-- tuples at their places -/
def RowsAt (K : PySem.W.Frag) (H : Hp) : List Addr → List (List FD) → Prop
  | [], [] => True
  | a :: as, r :: rs => SqT K H a (r.map FD.v) ∧ RowsAt K H as rs
  | _, _ => False
theorem fdr_dp {K : PySem.W.Frag} {H : Hp} : ∀ {as : List Addr} {rs : List (List FD)}, RowsAt K H as rs → DpAll K H (as.map V.ref) (fdr rs)
  | [], [], _ => .nil
  | a :: as, r :: rs, h => .cons (.tup h.1 (fds_dp r)) (fdr_dp h.2)
  | [], _ :: _, h => h.elim
  | _ :: _, [], h => h.elim
theorem fdr_eqv : ∀ rs qs : List (List FD), PyData.eqvAll (fdr rs) (fdr qs) = decide (rs = qs)
  | [], [] => by simp [fdr, PyData.eqvAll]
  | [], _ :: _ => by simp [fdr, PyData.eqvAll]
  | _ :: _, [] => by simp [fdr, PyData.eqvAll]
  | x :: r, y :: q => by
    have ih := fdr_eqv r q
    unfold fdr at ih ⊢
    rw [List.map_cons, List.map_cons, PyData.eqvAll, ih, fdT_eqv]
    by_cases h : x = y
    · subst h
      simp
    · simp [h]
theorem fdr_lay : ∀ {rs : List (List FD)}, (∀ r ∈ rs, ∀ x ∈ r, x.ok) → PyData.canLayAll0 (fdr rs) = true ∧ PyData.depthAll (fdr rs) ≤ 1
  | [], _ => by simp [fdr, PyData.canLayAll0, PyData.depthAll]
  | r :: rs, h => by
    obtain ⟨a, b⟩ := fdr_lay fun y hy => h y (List.mem_cons_of_mem _ hy)
    obtain ⟨c, d⟩ := fds_lay (h r List.mem_cons_self)
    unfold fdr at a b ⊢
    rw [List.map_cons, PyData.canLayAll0, PyData.depthAll, a]
    refine ⟨?_, ?_⟩
    · simp [PyData.canLay0, c]
    · simp [PyData.depth, d]
      omega
theorem fdr_sh {rs : List (List FD)} (h : ∀ r ∈ rs, ∀ x ∈ r, x.ok) : SeqAt.shaped (.list (fdr rs)) = true := by
  obtain ⟨a, b⟩ := fdr_lay h
  simp [SeqAt.shaped, PyData.canLay0, PyData.depth, a]
  omega
theorem fdr_eqvL (r q : List (List FD)) : PyData.eqv (.list (fdr r)) (.list (fdr q)) = decide (r = q) := by
  rw [PyData.eqv, fdr_eqv]
theorem RowsAt.len {K : PySem.W.Frag} {H : Hp} : ∀ {as : List Addr} {rs : List (List FD)}, RowsAt K H as rs → as.length = rs.length
  | [], [], _ => rfl
  | _ :: _, _ :: _, h => congrArg Nat.succ (RowsAt.len h.2)
  | [], _ :: _, h => h.elim
  | _ :: _, [], h => h.elim
theorem RowsAt.append {K : PySem.W.Frag} {H : Hp} : ∀ {as : List Addr} {rs : List (List FD)} {a : Addr} {r : List FD}, RowsAt K H as rs → SqT K H a (r.map FD.v) → RowsAt K H (as ++ [a]) (rs ++ [r])
  | [], [], _, _, _, h => ⟨h, trivial⟩
  | _ :: _, _ :: _, _, _, h, q => ⟨h.1, RowsAt.append h.2 q⟩
  | [], _ :: _, _, _, h, _ => h.elim
  | _ :: _, [], _, _, h, _ => h.elim
theorem RowsAt.get {K : PySem.W.Frag} {H : Hp} : ∀ {as : List Addr} {rs : List (List FD)} {i : Nat} {r : List FD}, RowsAt K H as rs → rs[i]? = some r → ∃ a, as[i]? = some a ∧ SqT K H a (r.map FD.v)
  | [], [], _, _, _, h => by simp at h
  | a :: _, _ :: _, 0, _, h, e => by
    simp at e
    subst e
    exact ⟨a, rfl, h.1⟩
  | _ :: _, _ :: _, i + 1, _, h, e => by
    simp at e
    obtain ⟨a, e1, e2⟩ := RowsAt.get h.2 e
    exact ⟨a, by simpa using e1, e2⟩
  | [], _ :: _, _, _, h, _ => h.elim
  | _ :: _, [], _, _, h, _ => h.elim
section
variable {K : PySem.W.Frag} {H : Hp} {a b : Addr} {r q : List FD} {rs qs : List (List FD)} {as bs : List Addr} {Q : VK}
theorem eq_rowT (ha : SqT K H a (r.map FD.v)) (hb : SqT K H b (q.map FD.v)) (h1 : ∀ x ∈ r, x.ok) (h2 : ∀ x ∈ q, x.ok) (k : Q (.bl (decide (r = q))) H) : rEqD K (.ref a) (.ref b) H Q :=
  ⟨_, _, .tup ha (fds_dp r), .tup hb (fds_dp q), fdT_sh h1, fdT_sh h2, by rw [fdT_eqv]; exact k⟩
theorem ne_rowT (ha : SqT K H a (r.map FD.v)) (hb : SqT K H b (q.map FD.v)) (h1 : ∀ x ∈ r, x.ok) (h2 : ∀ x ∈ q, x.ok) (k : Q (.bl (decide (r ≠ q))) H) : rNeD K (.ref a) (.ref b) H Q :=
  ⟨_, _, .tup ha (fds_dp r), .tup hb (fds_dp q), fdT_sh h1, fdT_sh h2, by
    rw [fdT_eqv, show (!decide (r = q)) = decide (r ≠ q) by simp]
    exact k⟩
theorem eq_rowL (ha : SqL K H a (r.map FD.v)) (hb : SqL K H b (q.map FD.v)) (h1 : ∀ x ∈ r, x.ok) (h2 : ∀ x ∈ q, x.ok) (k : Q (.bl (decide (r = q))) H) : rEqD K (.ref a) (.ref b) H Q :=
  ⟨_, _, .lst ha (fds_dp r), .lst hb (fds_dp q), fdL_sh h1, fdL_sh h2, by rw [fdL_eqv]; exact k⟩
theorem ne_rowL (ha : SqL K H a (r.map FD.v)) (hb : SqL K H b (q.map FD.v)) (h1 : ∀ x ∈ r, x.ok) (h2 : ∀ x ∈ q, x.ok) (k : Q (.bl (decide (r ≠ q))) H) : rNeD K (.ref a) (.ref b) H Q :=
  ⟨_, _, .lst ha (fds_dp r), .lst hb (fds_dp q), fdL_sh h1, fdL_sh h2, by
    rw [fdL_eqv, show (!decide (r = q)) = decide (r ≠ q) by simp]
    exact k⟩
theorem eq_rows (ha : SqL K H a (as.map V.ref)) (hb : SqL K H b (bs.map V.ref)) (h1 : RowsAt K H as rs) (h2 : RowsAt K H bs qs) (o1 : ∀ r ∈ rs, ∀ x ∈ r, x.ok) (o2 : ∀ r ∈ qs, ∀ x ∈ r, x.ok) (k : Q (.bl (decide (rs = qs))) H) : rEqD K (.ref a) (.ref b) H Q :=
  ⟨_, _, .lst ha (fdr_dp h1), .lst hb (fdr_dp h2), fdr_sh o1, fdr_sh o2, by rw [fdr_eqvL]; exact k⟩
theorem ne_rows (ha : SqL K H a (as.map V.ref)) (hb : SqL K H b (bs.map V.ref)) (h1 : RowsAt K H as rs) (h2 : RowsAt K H bs qs) (o1 : ∀ r ∈ rs, ∀ x ∈ r, x.ok) (o2 : ∀ r ∈ qs, ∀ x ∈ r, x.ok) (k : Q (.bl (decide (rs ≠ qs))) H) : rNeD K (.ref a) (.ref b) H Q :=
  ⟨_, _, .lst ha (fdr_dp h1), .lst hb (fdr_dp h2), fdr_sh o1, fdr_sh o2, by
    rw [fdr_eqvL, show (!decide (rs = qs)) = decide (rs ≠ qs) by simp]
    exact k⟩
end
end Fx

namespace Fx
open PySem PySem.Spec L2
/-! ### a comprehension of two clauses -/
/-- the inner loop's turns, from which Nx is reached -/
def InL (J1 : It) (D : Addr) (g1 : TG) (tt1 : TT) (te : TE) (vs1 : List Nat) (σ2 : St) (H4 : Hp) (Nx : Hp → Prop) : Prop :=
  ∃ W1 : Nat → Nat → Hp → Prop, (∃ m, W1 0 m H4) ∧ ∀ j k H, W1 j k H →
      (J1.stop j H ∧ Nx H) ∨ (J1.go j H ∧ ∃ Nx1 : Hp → Prop, (∀ H', Nx1 H' → ∃ k', k' < k ∧ W1 (j + 1) k' H') ∧ ∀ x H', J1.yld j H x H' → g1 x (wipe σ2 vs1) H' fun σ3 H5 => wipe σ3 vs1 = wipe σ2 vs1 ∧ tt1 σ3 H5 fun b H6 =>
        if b = true then te σ3 H6 fun y H7 => ∃ acc, H7 D = some (.lst acc) ∧ acc.length < sizeLine ∧ Nx1 (upd H7 D (.lst (acc ++ [y]))) else Nx1 H6)
section
variable {J : It} {n : Nat} {G : Hp → Prop} {Y : Nat → Hp → V → Hp → Prop}
theorem in_it (w : Walk J n G Y) {D : Addr} {g1 : TG} {tt1 : TT} {te : TE} {vs1 : List Nat} {σ2 : St} {H4 : Hp} {Nx : Hp → Prop} (Pv : Nat → Hp → Prop) (h0 : Pv 0 H4) (hG : ∀ i H, i ≤ n → Pv i H → G H)
    (hs : ∀ i x H H', i < n → Pv i H → Y i H x H' → g1 x (wipe σ2 vs1) H' fun σ3 H5 => wipe σ3 vs1 = wipe σ2 vs1 ∧ tt1 σ3 H5 fun b H6 =>
      if b = true then te σ3 H6 fun y H7 => ∃ acc, H7 D = some (.lst acc) ∧ acc.length < sizeLine ∧ Pv (i + 1) (upd H7 D (.lst (acc ++ [y]))) else Pv (i + 1) H6) (hd : ∀ H, Pv n H → Nx H) : InL J D g1 tt1 te vs1 σ2 H4 Nx := by
  refine ⟨fun i m H => m = n - i ∧ i ≤ n ∧ Pv i H, ⟨n, by simp, Nat.zero_le _, h0⟩, ?_⟩
  rintro i m H ⟨rfl, hi, p⟩
  have q := hG i H hi p
  by_cases hlt : i < n
  · refine .inr ⟨w.goes i H hlt q, Pv (i + 1), fun H' p' => ⟨n - (i + 1), by omega, rfl, hlt, p'⟩, fun x H' y => hs i x H H' hlt p (w.yields i H x H' hlt q y)⟩
  · have e : i = n := by omega
    subst e
    exact .inl ⟨w.stops H q, hd H p⟩
theorem lc2_it (w : Walk J n G Y) {g : TG} {tt : TT} {wi1 : TI} {g1 : TG} {tt1 : TT} {te : TE} {vs vs1 : List Nat} {σ : St} {H1 : Hp} {D : Addr} {Qd : Hp → Prop} (Pv : Nat → Hp → Prop) (h0 : Pv 0 (upd H1 D (.lst []))) (hG : ∀ i H, i ≤ n → Pv i H → G H)
    (hs : ∀ i x H H', i < n → Pv i H → Y i H x H' → g x (wipe σ vs) H' fun σ2 H2 => wipe σ2 vs = wipe σ vs ∧ tt σ2 H2 fun b H3 =>
      if b = true then wi1 σ2 H3 fun J1 H4 => InL J1 D g1 tt1 te vs1 σ2 H4 (Pv (i + 1)) else Pv (i + 1) H3) (hd : ∀ H, Pv n H → Qd H) :
    ∃ W : Nat → Nat → Hp → Prop, (∃ m, W 0 m (upd H1 D (.lst []))) ∧ ∀ i m H, W i m H →
      (J.stop i H ∧ Qd H) ∨ (J.go i H ∧ ∃ Nx : Hp → Prop, (∀ H', Nx H' → ∃ m', m' < m ∧ W (i + 1) m' H') ∧ ∀ x H', J.yld i H x H' → g x (wipe σ vs) H' fun σ2 H2 => wipe σ2 vs = wipe σ vs ∧ tt σ2 H2 fun b H3 =>
        if b = true then wi1 σ2 H3 fun J1 H4 => InL J1 D g1 tt1 te vs1 σ2 H4 Nx else Nx H3) := by
  refine ⟨fun i m H => m = n - i ∧ i ≤ n ∧ Pv i H, ⟨n, by simp, Nat.zero_le _, h0⟩, ?_⟩
  rintro i m H ⟨rfl, hi, p⟩
  have q := hG i H hi p
  by_cases hlt : i < n
  · refine .inr ⟨w.goes i H hlt q, Pv (i + 1), fun H' p' => ⟨n - (i + 1), by omega, rfl, hlt, p'⟩, fun x H' y => hs i x H H' hlt p (w.yields i H x H' hlt q y)⟩
  · have e : i = n := by omega
    subst e
    exact .inl ⟨w.stops H q, hd H p⟩
end
/-! ### what is walked is a list or a tuple -/
def SqA (K : PySem.W.Frag) (H : Hp) (a : Addr) (xs : List V) : Prop := SqL K H a xs ∨ SqT K H a xs
end Fx
namespace Fx
open PySem L2
/-! ### what a loop keeps: the list that grows at D, all else stands -/
def Gro (D : Addr) (H1 : Hp) (out : Nat → List V) (i : Nat) (H : Hp) : Prop := H D = some (.lst (out i)) ∧ Same H1 H
theorem Gro.start {D : Addr} {H1 : Hp} {out : Nat → List V} (nD : H1 D = none) (e : out 0 = []) : Gro D H1 out 0 (upd H1 D (.lst [])) := by
  refine ⟨by rw [upd_same, e], fun a o h => ?_⟩
  rw [upd_ne (ne_of_none h nD)]
  exact h
theorem Gro.put {D : Addr} {H1 H4 : Hp} {out : Nat → List V} {i : Nat} {y : V} (nD : H1 D = none) (hD : H4 D = some (.lst (out i))) (hs : Same H1 H4) (hl : (out i).length < sizeLine) (e : out (i + 1) = out i ++ [y]) :
    ∃ acc, H4 D = some (.lst acc) ∧ acc.length < sizeLine ∧ Gro D H1 out (i + 1) (upd H4 D (.lst (acc ++ [y]))) := by
  refine ⟨_, hD, hl, by rw [upd_same, e], fun a o h => ?_⟩
  rw [upd_ne (ne_of_none h nD)]
  exact hs a o h
end Fx
namespace Fx
open PySem PySem.Spec L2
theorem Same.seqT {K : PySem.W.Frag} {H H' : Hp} {a : Addr} {xs : List V} (e : Same H H') (h : SqT K H a xs) : SqT K H' a xs := by
  rcases h with (h | ⟨o, h⟩) | h
  · exact .inl (.inl (e _ _ h))
  · exact .inl (.inr ⟨o, e _ _ h⟩)
  · exact .inr h
theorem SqA.same {K : PySem.W.Frag} {H H' : Hp} {a : Addr} {xs : List V} (h : SqA K H a xs) (s : Same H H') : SqA K H' a xs := by
  rcases h with h | h
  · exact .inl (s.seq h)
  · exact .inr (Same.seqT s h)
def iSeq (K : PySem.W.Frag) (tl : TE) : TI := fun σ H R => tl σ H fun x H1 => ∃ (a : Addr) (xs : List V) (H0 : Hp), x = .ref a ∧ SqA K H0 a xs ∧ Same H0 H1 ∧ ∀ J, Walk J xs.length (Same H0) (YAt xs) → R J H1
theorem pi_seq {X : Cx} {tg l : Expr} {tl : TE} (hl : PE X l tl) : PI X tg l (iSeq X.K tl) := by
  refine ⟨fun pins s σ H R I h => ?_⟩
  refine thn (hl.run pins s σ H _ I h) fun v s1 ⟨x, H1, I1, r1, q1⟩ => ?_
  obtain ⟨a, xs, H0, e, hq, sm, q⟩ := q1
  subst e
  cases r1
  have fin : ∀ b ∈ [s1.heap.objs.size], FpOk X pins H1 b := fun b hb => by
    have e : b = s1.heap.objs.size := by simpa using hb
    subst e
    exact I1.fpOk (Nat.le_refl _) (I1.hok.fresh (Nat.le_refl _))
  rcases hq with hq | hq
  · obtain ⟨its, rv, p, hz⟩ := I1.list (sm.seq hq)
    refine wpAny_pyIter_list p.isList ?_
    exact ⟨s1.heap.objs.size, [s1.heap.objs.size], _, _, H1, rfl, I1.kept (t' := s1.toks) fun b o e => Heap.get?_push_of_some _ e, turn_list a _, ⟨_, Heap.get?_push_size _ rfl, rfl, rfl⟩, fin, q _ (walk_list.mono (fun H e => e.seq hq) fun _ _ _ _ _ _ y => y)⟩
  · obtain ⟨its, rv, p, hz⟩ := I1.tuple (Same.seqT sm hq)
    refine wpAny_pyIter_tuple (show s1.heap.IsTuple a its.toArray from p) ?_
    exact ⟨s1.heap.objs.size, [s1.heap.objs.size], _, _, H1, rfl, I1.kept (t' := s1.toks) fun b o e => Heap.get?_push_of_some _ e, turn_tuple a _, ⟨_, Heap.get?_push_size _ rfl, rfl, rfl⟩, fin, q _ (walk_tup.mono (fun H e => Same.seqT e hq) fun _ _ _ _ _ _ y => y)⟩
theorem cutV_to (xs : List V) (k : Nat) : cutV xs none (some (k : Int)) = xs.take k := by
  unfold cutV
  rw [HT.sIx_none, HT.sIx_nat, List.drop_zero, Nat.sub_zero]
  by_cases h : k ≤ xs.length
  · rw [Nat.min_eq_left h]
  · rw [Nat.min_eq_right (by omega), List.take_of_length_le (Nat.le_refl _), List.take_of_length_le (by omega)]
end Fx

/-! str(a) of an own object; a staticmethod that may raise, called off its class -/
namespace Fx
open PySem PySem.Spec PyProof.Rows L2 ClX
section
variable {X : Cx} {j k : Nat} {C : Addr} {sp : Sp}
def rStrO (C : Addr) (sp : Sp) : List V → Hp → VK → Prop := fun xs H Q => ∃ p, xs = [.ref p] ∧ At C H p ∧ sp [.ref p] H (fun v H' => ∃ z : Str, v = .str z ∧ Q (.str z) H') C8.E0
theorem call_strO (c : Op CX0 X.prog X.w X.K X.mg X.base k C "__str__" sp) (hr : Room j X.A) (hk : k + 2 ≤ j) : CallR X (.type "str") (rStrO C sp) := by
  obtain ⟨f, fd, ps, hf, hfn, kp, F, bd⟩ := c.ex
  intro pins s σ H xs us Q I r h
  obtain ⟨p, rfl, hp, q⟩ := h
  obtain ⟨u, rfl, r1⟩ := vals1 r
  obtain rfl : u = Value.ref p := r1
  obtain ⟨o, od, J⟩ := inst I hp
  have room : Room k X.A.in1.in1 := (hr.mono hk).in1.in1
  refine PySem.W.kso_call (by have := room.un; omega) I.kIn J hf hfn ?_
  have len : [Value.ref p].length = ps.length := F.len _ _ _ _ q
  have bound := bd s [Value.ref p] I.kIn (by rw [List.append_nil]; exact len)
  rw [List.append_nil] at bound
  refine wpAny_call (codeAny_mono (F.run X.A.in1.in1 X.stack s H ⟨[.ref p], []⟩ [.ref p] [.ref p] _ C8.E0 room I.env0.in1.in1 bound (.cons rfl .nil) q) fun r s1 got => ?_)
  match r with
  | .error e => exact at0 (X := X) (E := C8.E0) (σ := σ) pins H s e s1 I got
  | .ok (.ret u) =>
    obtain ⟨v, H2, I2, rv, z, ev, q2⟩ := I.after got
    subst ev
    obtain ⟨t, rfl⟩ := (show ∃ t, u = Value.str z t from rv)
    exact ⟨.str z, H2, I2, ⟨_, rfl⟩, q2⟩
  | .ok .next | .ok .brk | .ok .cont => exact got.elim
theorem none1 {X : Cx} : L2.Takes X (fun _ _ _ _ => False) := by
  rintro u s' ⟨_, _, _, _, _, _, _, _, _, _, _, _, _, _, _, _, no⟩
  exact no.elim
/-- a text with places -/
def tJ (ts : List TE) : TE := fun σ H Q => tJs ts Str.empty σ H fun out H1 => Q (.str out) H1
theorem pe_joinedD {v1 v2 : Expr} {rest : List Expr} {ts : List TE} {pos : Pos} (h : PJ X (v1 :: v2 :: rest) ts) : PE X (.JoinedStr (v1 :: v2 :: rest) pos) (tJ ts) := pe_joined h
/-- C.m is a staticmethod: its record at p, its def at g -/
structure SMet (K : PySem.W.Frag) (C : Addr) (mc : Value) (m : Str) (p g : Addr) : Prop where
  at_ : PySem.W.findCls K (.ref C) mc m = some (.get (.builtin "staticmethod.__get__") (.ref p) .none (.ref C))
  rc : ∃ rest, PySem.W.recIn K p "staticmethod" = some (.ref g :: rest)
  kp : PySem.W.keepIn K (.ref g) = true
theorem getmethsm_ok {pins : List (Addr × Obj)} {σ : L2.St} {H : Hp} {s : Shared} {m : Str} {mc : Value} {p g : Addr} {A : Around} {E : Value → Shared → Prop} {pl : Sem Bool} {Q : Value × List Value → Shared → Prop} (I : Inv X pins σ H s) (r : CRead X.K C mc) (k : SMet X.K C mc m p g)
    (h : ∀ s', Inv X pins σ H s' → Q (.ref g, []) s') : wpAny (model X.prog X.w) A (getMethod (.ref C) m pl) Q E s := by
  obtain ⟨rest, hp⟩ := k.rc
  refine PySem.W.method_cls I.kIn r.ga (PySem.W.cls_bind I.kIn r.rd k.at_ ?_)
  refine wpAny_call (PySem.W.sm_get (s := { s with toks := s.toks + 1 }) I.kIn hp (PySem.W.handed_on rfl ?_))
  exact h _ (I.tok _)
structure SmX (P : Program) (w : World) (K : PySem.W.Frag) (mg : Str → Option Value) (base : Heap) (k : Nat) (C : Addr) (m : Str) (sp : Sp) : Prop where
  ex : ∃ (p g : Addr) (mc : Value) (fd : FuncData) (ps : List Str), CRead K C mc ∧ SMet K C mc m p g ∧ FnOk P w K mg base (L2N.CX P w) k g fd ps sp ∧ Binds K fd ps []
def tSmX (C : Addr) (sp : Sp) (W : WX) (to : TE) (t : TA) : TE := fun σ H Q => to σ H fun x H1 => x = .ref C ∧ t σ H1 fun vs H2 => sp vs H2 Q (WE W σ)
theorem pe_smX {m : Str} {W : WX} {o e : Expr} {es : List Expr} {to : TE} {t : TA} {apos pos : Pos} {pl : Sem Bool} (c : SmX X.prog X.w X.K X.mg X.base k C m sp) (hr : Room j X.A) (hk : k ≤ j) (tk : L2N.Takes X W) (ho : PE X o to) (ha : PA X (e :: es) t)
    (hst : starEach (e :: es) X.env = (false, eval e X.env) :: starEach es X.env := by rfl) (hpl : (backTo pos (starEach es X.env)).any (·.1) = false := by rfl)
    (ht : eval (.Call (.Attribute o m apos) (e :: es) [] pos) X.env = (do
      let v ← eval o X.env
      standAt apos.atName
      let (g, self) ← holding [v] (getMethod v m pl)
      callWith pos g self (backTo pos (starEach (e :: es) X.env)) (backToKw pos (keywordEach [] X.env))) := by rfl) : PE X (.Call (.Attribute o m apos) (e :: es) [] pos) (tSmX C sp W to t) := by
  obtain ⟨p, g, mc, fd, ps, cr, M, F, bd⟩ := c.ex
  refine ⟨fun pins s σ H Q I h => ?_⟩
  refine PySem.W.methodCall_KW (pl := pl) (thn (ho.run pins s σ H _ I h) fun u s1 ⟨x, H1, I1, rx, ex, q⟩ => ?_) ht
  subst ex
  obtain rfl : u = Value.ref C := rx
  refine getmethsm_ok I1 cr M fun s2 I2 => ?_
  refine PySem.W.callWith_K (first := []) (h₀ := X.base) I.ok.mod.kin M.kp (thn (ha.run pos pins s2 σ H1 _ I2 q) fun us s3 ⟨vs, H2, I3, r, q2⟩ => ⟨I3.kIn, ?_⟩) hst hpl
  exact run_fnS F (hr.mono hk) bd (L2N.passAt tk σ) I3 (us := us) (vs := vs) r q2
end
end Fx

namespace Tx
open PySem PySem.W PyProof.Rows PySem.Builtin PySem.Builtin.Str PySem.NumText PySem.StrLaws
/-- a whole number's text -/
def dec (n : Int) : Str := Str.ofString (toString n)
def digs (m : Nat) : List Nat := (Nat.toDigits 10 m).map Char.toNat
theorem dec_pos (m : Nat) : (dec (m : Int)).cps.toList = digs m := KIN.signs_num m
theorem dec_neg (m : Nat) : (dec (Int.negSucc m)).cps.toList = 45 :: digs (m + 1) := by
  unfold dec
  rw [signs_ofString]
  show ("-" ++ Nat.repr (m + 1)).toList.map Char.toNat = _
  rw [String.toList_append, Nat.toList_repr]
  rfl
theorem digs_all (m : Nat) : AllDigits (digs m) := by
  intro c hc
  obtain ⟨ch, hch, e⟩ := List.mem_map.mp hc
  rw [← e]
  exact digit_range (Nat.isDigit_of_mem_toDigits (by decide) (by decide) hch)
theorem digs_ne (m : Nat) : digs m ≠ [] := by
  intro e
  have h := toDigits_len_ge 10 m
  rw [List.map_eq_nil_iff.mp e] at h
  exact absurd h (by decide)
theorem digs_len {m : Nat} (h : m < 10 ^ 40) : (digs m).length ≤ 40 := by
  unfold digs
  rw [List.length_map]
  exact toDigits_len_pow (by decide) (by decide) h
theorem digit_one : ∀ m : Nat, m < 10 → m ≠ 0 → (Nat.digitChar m).toNat ≠ 48 := by decide
theorem digs_step {m : Nat} (h : ¬ m < 10) : digs m = digs (m / 10) ++ [(Nat.digitChar (m % 10)).toNat] := by
  have hm : m % 10 < 10 := Nat.mod_lt m (by decide)
  have t : Nat.toDigits 10 (m / 10) ++ Nat.toDigits 10 (m % 10) = Nat.toDigits 10 (10 * (m / 10) + m % 10) := Nat.toDigits_append_toDigits (by decide) (by omega) hm
  rw [Nat.div_add_mod] at t
  unfold digs
  rw [← t, List.map_append, Nat.toDigits_of_lt_base hm]
  rfl
theorem digs_head : ∀ m : Nat, m ≠ 0 → ∃ c l, digs m = c :: l ∧ c ≠ 48 := by
  intro m
  induction m using Nat.strongRecOn with
  | _ m ih =>
    intro h0
    by_cases h : m < 10
    · refine ⟨(Nat.digitChar m).toNat, [], ?_, digit_one m h h0⟩
      unfold digs
      rw [Nat.toDigits_of_lt_base h]
      rfl
    · obtain ⟨c, l, e, hc⟩ := ih (m / 10) (by omega) (by omega)
      exact ⟨c, l ++ [(Nat.digitChar (m % 10)).toNat], by rw [digs_step h, e]; rfl, hc⟩
theorem digs_zero : digs 0 = [48] := rfl
theorem back_digs (m : Nat) : digitsVal (digs m) = m := KIN.val_back m
theorem len_of (x : Str) : x.length = x.cps.toList.length := by simp [Str.length]
theorem dec_len {n : Int} (h : n.natAbs < 10 ^ 40) : (dec n).length ≤ 41 := by
  cases n with
  | ofNat m =>
    have := digs_len (m := m) h
    rw [len_of, show dec (Int.ofNat m) = dec ((m : Nat) : Int) from rfl, dec_pos]
    omega
  | negSucc m =>
    have := digs_len (m := m + 1) h
    rw [len_of, dec_neg]
    show (digs (m + 1)).length + 1 ≤ 41
    omega
theorem dec_signs (n : Int) : ∀ c ∈ (dec n).cps.toList, c = 45 ∨ (48 ≤ c ∧ c ≤ 57) := by
  cases n with
  | ofNat m =>
    rw [show dec (Int.ofNat m) = dec ((m : Nat) : Int) from rfl, dec_pos]
    exact fun c hc => .inr (digs_all m c hc)
  | negSucc m =>
    rw [dec_neg]
    intro c hc
    rcases List.mem_cons.mp hc with h | h
    · exact .inl h
    · exact .inr (digs_all (m + 1) c h)
theorem dec_free {n : Int} {c : Nat} (h1 : c ≠ 45) (h2 : ¬ (48 ≤ c ∧ c ≤ 57)) : c ∉ (dec n).cps.toList := fun h => by
  rcases dec_signs n c h with e | e
  · exact h1 e
  · exact h2 e
theorem dec_reads {n : Int} (h : n.natAbs < 10 ^ 40) : PySem.intText? (dec n) = some n := by
  have hl := dec_len h
  cases n with
  | ofNat m =>
    have e : (dec (Int.ofNat m)).cps.toList = digs m := dec_pos m
    have r := intText_digits (x := dec (Int.ofNat m)) (by rw [e]; exact digs_all m) (by rw [e]; exact digs_ne m) (by omega)
    rw [e, back_digs] at r
    exact r
  | negSucc m =>
    have r := intText_neg (x := dec (Int.negSucc m)) (dec_neg m) (digs_all _) (digs_ne _) (by omega)
    rw [back_digs] at r
    exact r
/-- .. what the program asks of it -/
def rest (n : Int) : Str := ⟨(digs n.natAbs).toArray⟩
theorem eq_of_list {a b : Str} (h : a.cps.toList = b.cps.toList) : a = b := Str.ext' (Array.toList_inj.mp h)
theorem minus_is : Str.ofString "-" = ⟨#[45]⟩ := by decide +kernel
theorem sub_minus (x : Str) : subAt x "-" 0 = (x.cps.toList.take 1 == [45]) := by
  rw [subAt_eq]
  show ((x.cps.toList.drop 0).take (Str.length (Str.ofString "-")) == (Str.ofString "-").cps.toList) = _
  rw [minus_is]
  rfl
theorem dec_rest (n : Int) : Txt.removeprefix (dec n) "-" = rest n := by
  rw [removeprefix_eq, sub_minus]
  cases n with
  | ofNat m =>
    have e : (dec (Int.ofNat m)).cps.toList = digs m := dec_pos m
    have no : ((digs m).take 1 == [45]) = false := by
      cases hd : digs m with
      | nil => exact absurd hd (digs_ne m)
      | cons c l =>
        have hc := digs_all m c (by rw [hd]; exact List.mem_cons_self)
        show ([c] == [45]) = false
        exact beq_eq_false_iff_ne.mpr fun q => by
          injection q with q
          omega
    rw [e, no, Bool.and_false, if_neg (by decide)]
    exact eq_of_list e
  | negSucc m =>
    have e := dec_neg m
    rw [e, show ((45 :: digs (m + 1)).take 1 == [45]) = true from rfl, Bool.and_true, if_pos (by
      rw [decide_eq_true_eq, len_of (dec (Int.negSucc m)), e]
      show 0 + Str.length (Str.ofString "-") ≤ _
      rw [minus_is]
      show 0 + 1 ≤ (digs (m + 1)).length + 1
      omega)]
    refine eq_of_list ?_
    show (((45 :: digs (m + 1)).drop (Str.length (Str.ofString "-"))).take _).toArray.toList = _
    rw [minus_is, len_of, e]
    show ((digs (m + 1)).take ((digs (m + 1)).length + 1 - 1)) = digs (m + 1)
    rw [Nat.add_sub_cancel, List.take_length]
theorem rest_len {n : Int} (h : n.natAbs < 10 ^ 40) : (rest n).length ≤ 40 := by
  rw [len_of]
  have := digs_len h
  show (digs n.natAbs).length ≤ 40
  omega
theorem rest_ascii (n : Int) : Txt.isascii (rest n) = true := by
  unfold Txt.isascii
  rw [← Array.all_toList, List.all_eq_true]
  intro c hc
  have := digs_all n.natAbs c hc
  exact decide_eq_true (by omega)
theorem rest_digit (n : Int) : Txt.isdigit (rest n) = true := by
  unfold Txt.isdigit
  rw [Bool.and_eq_true, decide_eq_true_eq]
  refine ⟨?_, ?_⟩
  · rw [len_of]
    exact List.length_pos_iff.mpr (digs_ne n.natAbs)
  · rw [← Array.all_toList, List.all_eq_true]
    intro c hc
    have h := digs_all n.natAbs c hc
    have : ∀ c, c < 58 → 48 ≤ c → Unicode.isDigit c = true := by decide +kernel
    exact this c (by omega) h.1
theorem zero_is : Str.ofString "0" = ⟨#[48]⟩ := by decide +kernel
/-- no zero leads, or it is zero -/
theorem rest_lead (n : Int) : rest n = "0" ∨ Txt.startswith (rest n) "0" = false := by
  by_cases h : n.natAbs = 0
  · refine .inl (eq_of_list ?_)
    show digs n.natAbs = (Str.ofString "0").cps.toList
    rw [h, zero_is]
    rfl
  · obtain ⟨c, l, e, hc⟩ := digs_head n.natAbs h
    refine .inr ?_
    unfold Txt.startswith
    rw [subAt_eq]
    show (_ && (((digs n.natAbs).drop 0).take (Str.length (Str.ofString "0")) == (Str.ofString "0").cps.toList)) = false
    rw [zero_is, e]
    show (_ && ([c] == [48])) = false
    rw [show ([c] == [48]) = false from beq_eq_false_iff_ne.mpr fun q => by injection q with q; exact hc q, Bool.and_false]
theorem mz_is : Str.ofString "-0" = ⟨#[45, 48]⟩ := by decide +kernel
theorem dec_mz (n : Int) : dec n ≠ "-0" := by
  intro h
  have e : (dec n).cps.toList = [45, 48] := by
    rw [h]
    show (Str.ofString "-0").cps.toList = _
    rw [mz_is]
  cases n with
  | ofNat m =>
    have e2 : (dec (Int.ofNat m)).cps.toList = digs m := dec_pos m
    rw [e2] at e
    have := digs_all m 45 (by rw [e]; exact List.mem_cons_self)
    omega
  | negSucc m =>
    rw [dec_neg] at e
    injection e with _ e
    obtain ⟨c, l, e2, hc⟩ := digs_head (m + 1) (by omega)
    rw [e] at e2
    injection e2 with e2 _
    exact hc e2.symm
/-! ### texts put together and cut again -/
theorem free_cut {c : Nat} : ∀ {x y A B : List Nat}, c ∉ x → c ∉ y → x ++ c :: A = y ++ c :: B → x = y ∧ A = B
  | [], [], _, _, _, _, h => ⟨rfl, by injection h⟩
  | [], d :: y, _, _, _, hy, h => by
    injection h with h _
    exact absurd (h ▸ List.mem_cons_self) hy
  | d :: x, [], _, _, hx, _, h => by
    injection h with h _
    exact absurd (h ▸ List.mem_cons_self) hx
  | d :: x, e :: y, A, B, hx, hy, h => by
    injection h with h1 h2
    obtain ⟨r1, r2⟩ := free_cut (fun q => hx (List.mem_cons_of_mem _ q)) (fun q => hy (List.mem_cons_of_mem _ q)) h2
    exact ⟨by rw [h1, r1], r2⟩
theorem join_two (c : Nat) (x y : Str) (r : List Str) : (Str.join ⟨#[c]⟩ (x :: y :: r)).cps.toList = x.cps.toList ++ c :: (Str.join ⟨#[c]⟩ (y :: r)).cps.toList := by
  show (x ++ ⟨#[c]⟩ ++ Str.join ⟨#[c]⟩ (y :: r)).cps.toList = _
  rw [Str.cps_append, Str.cps_append, Array.toList_append, Array.toList_append, List.append_assoc]
  rfl
theorem join_inj {c : Nat} : ∀ {a b : List Str}, a ≠ [] → b ≠ [] → (∀ z ∈ a, c ∉ z.cps.toList) → (∀ z ∈ b, c ∉ z.cps.toList) → Str.join ⟨#[c]⟩ a = Str.join ⟨#[c]⟩ b → a = b
  | [], _, h, _, _, _, _ => absurd rfl h
  | _, [], _, h, _, _, _ => absurd rfl h
  | [x], [y], _, _, _, _, h => by rw [show x = y from h]
  | [x], y :: y2 :: r, _, _, ha, _, h => by
    have e := congrArg (fun s : Str => s.cps.toList) h
    simp only [join_two] at e
    exact absurd (show c ∈ x.cps.toList from by rw [show x.cps.toList = _ from e]; exact List.mem_append_right _ List.mem_cons_self) (ha x List.mem_cons_self)
  | x :: x2 :: r, [y], _, _, _, hb, h => by
    have e := congrArg (fun s : Str => s.cps.toList) h
    simp only [join_two] at e
    exact absurd (show c ∈ y.cps.toList from by rw [show y.cps.toList = _ from e.symm]; exact List.mem_append_right _ List.mem_cons_self) (hb y List.mem_cons_self)
  | x :: x2 :: r, y :: y2 :: r2, _, _, ha, hb, h => by
    have e := congrArg (fun s : Str => s.cps.toList) h
    simp only [join_two] at e
    obtain ⟨e1, e2⟩ := free_cut (ha x List.mem_cons_self) (hb y List.mem_cons_self) e
    rw [eq_of_list e1, join_inj (a := x2 :: r) (b := y2 :: r2) (by simp) (by simp) (fun z hz => ha z (List.mem_cons_of_mem _ hz)) (fun z hz => hb z (List.mem_cons_of_mem _ hz)) (eq_of_list e2)]
theorem split_ne (x y : Str) : Txt.split x y ≠ [] := by
  unfold Txt.split
  split
  · exact List.cons_ne_nil _ _
  · split
    · exact List.cons_ne_nil _ _
    · rw [partsBetween_eq]
      obtain ⟨p, r, e⟩ := partsFrom_ne x y.length 0 (occurrences x y 0 x.length (x.length + 1))
      rw [e]
      exact List.cons_ne_nil _ _
theorem split_join {c : Nat} {ws : List Str} (h : ws ≠ []) (hf : ∀ z ∈ ws, c ∉ z.cps.toList) : Txt.split (Str.join ⟨#[c]⟩ ws) ⟨#[c]⟩ = ws :=
  join_inj (split_ne _ _) h (split_free _ c) hf (join_split _ _)
theorem part_at {c : Nat} {z d : Str} (hz : c ∉ z.cps.toList) : Txt.partition (z ++ ⟨#[c]⟩ ++ d) ⟨#[c]⟩ = (z, ⟨#[c]⟩, d) := by
  have e : (z ++ ⟨#[c]⟩ ++ d).cps.toList = z.cps.toList ++ c :: d.cps.toList := by
    rw [Str.cps_append, Str.cps_append, Array.toList_append, Array.toList_append, List.append_assoc]
    rfl
  have at0 : At (z ++ ⟨#[c]⟩ ++ d) ⟨#[c]⟩ (z ++ ⟨#[c]⟩ ++ d).length z.length := (subAt_one _ c _).mpr (by rw [e, len_of, List.getElem?_append_right (Nat.le_refl _), Nat.sub_self]; rfl)
  unfold Txt.partition
  rcases occ_head (z ++ ⟨#[c]⟩ ++ d) ⟨#[c]⟩ 1 (Nat.le_refl 1) with ⟨_, no⟩ | ⟨i, r, eo, hi, low⟩
  · exact absurd at0 (no _)
  · have hle : ¬ z.length < i := fun h => low _ h at0
    have hge : ¬ i < z.length := fun h => by
      have hc := (subAt_one _ c i).mp hi
      rw [e, List.getElem?_append_left (by rw [← len_of]; exact h)] at hc
      exact hz (List.mem_of_getElem? hc)
    obtain rfl : i = z.length := by omega
    rw [eo]
    show (strSub _ 0 z.length, (⟨#[c]⟩ : Str), strSub _ (z.length + 1) _) = _
    have e1 : strSub (z ++ ⟨#[c]⟩ ++ d) 0 z.length = z := eq_of_list (by
      rw [strSub_toList, e, List.drop_zero, Nat.sub_zero, len_of, List.take_left'  rfl])
    have e2 : strSub (z ++ ⟨#[c]⟩ ++ d) (z.length + 1) (z ++ ⟨#[c]⟩ ++ d).length = d := eq_of_list (by
      rw [strSub_toList, e, len_of (z ++ ⟨#[c]⟩ ++ d), e, len_of z, show z.cps.toList ++ c :: d.cps.toList = (z.cps.toList ++ [c]) ++ d.cps.toList by simp, List.drop_left' (by simp), List.take_of_length_le (by simp; omega)])
    rw [e1, e2]
end Tx

/-! a set comprehension of two clauses, of whole numbers -/
namespace Fx
open PySem PySem.Spec PyProof.Rows L2
abbrev SC2 (elt t0 i0 t1 i1 : PySem.Expr) (ifs0 ifs1 : List PySem.Expr) (scope : Scope) (pos : Pos) : PySem.Expr := .SetComp elt [⟨t0, i0, ifs0, 0⟩, ⟨t1, i1, ifs1, 0⟩] scope pos
abbrev NoE : Value → Shared → Prop := fun _ _ => False
section
variable {prog : Program} {w : World} {A : Around} {R : Result → Shared → Prop} {s : Shared} {elt t0 i0 t1 i1 : PySem.Expr} {ifs0 ifs1 : List PySem.Expr} {scope : Scope} {pos : Pos} {it acc : Value} {env : Env}
theorem turn_free {c : Code} {t : Sem PySem.Fin} {Q : PySem.Fin → Shared → Prop} {E : Value → Shared → Prop} {f g : Value → Sem Unit} (h : wpAny (model prog w) A t Q NoE s) {b : Bool} : wpAny (model prog w) A (if b = true then t.onRaise f else t.onRaise g) Q E s := by
  by_cases q : b = true
  · rw [if_pos q]
    exact wpAny_onRaise (thnF h fun _ _ q => q)
  · rw [if_neg q]
    exact wpAny_onRaise (thnF h fun _ _ q => q)
theorem loopS_in (I : Nat → Shared → Prop) (hI : ∀ (n : Nat) (s : Shared), I n s → wpAny (model prog w) A (pyNext it) (fun r s₁ => match r with
      | none => R (.ok .next) s₁
      | some v => wpAny (model prog w) A (letOwnedTupleGo t1 it v) (fun _ s₁' => wpAny (model prog w) A (assign t1 env v) (fun _ s₂ => wpAny (model prog w) A (forIn ifs1 true fun c r => if r = true then do
                let ok ← PySem.isTrue c env (eval c env)
                pure (ForInStep.yield ok)
              else pure (ForInStep.yield r))
            (fun ok s₃ => if ok = true then wpAny (model prog w) A (eval elt env) (fun x s₄ => wpAny (model prog w) A (call (.builtin "set.add") [acc, x]) (fun _ s₅ => ∃ m, m < n ∧ I m s₅) NoE s₄) NoE s₃ else ∃ m, m < n ∧ I m s₃) NoE s₂) NoE s₁') NoE s₁) NoE s) (n : Nat) (h0 : I n s) :
    codeAny (model prog w) A (.compLoop (SC2 elt t0 i0 t1 i1 ifs0 ifs1 scope pos) 1 it acc env) R s := by
  refine codeAny_loop rfl I (fun n s h => ?_) n h0
  have e : A.under (.compLoop (SC2 elt t0 i0 t1 i1 ifs0 ifs1 scope pos) 1 it acc env) = A := rfl
  rw [e]
  show wpAny (model prog w) A (denote table (.compLoop (SC2 elt t0 i0 t1 i1 ifs0 ifs1 scope pos) 1 it acc env)) _ _ _
  rw [denote]
  refine turn_free (c := .compLoop (SC2 elt t0 i0 t1 i1 ifs0 ifs1 scope pos) 1 it acc env) ?_
  refine wpAny_bind (wpAny_standAt (wpAny_bind (thnF (hI n s h) fun r s1 q => ?_)))
  cases r with
  | none => exact wpAny_pure q
  | some v =>
    refine wpAny_bind (thnF q fun _ s2 q2 => wpAny_bind (thnF q2 fun _ s3 q3 => wpAny_bind (thnF q3 fun ok s4 q4 => ?_)))
    cases ok with
    | false => exact wpAny_pure ⟨rfl, by simpa using q4⟩
    | true =>
      refine wpAny_bind (wpAny_bind (thnF (by simpa using q4) fun x s5 q5 => wpAny_bind (wpAny_standAt (wpAny_bind (thnF q5 fun _ s6 q6 => wpAny_pure (wpAny_pure ⟨rfl, q6⟩))))))
theorem startS1 (h : wpAny (model prog w) A (pyIter it) (fun it' s' => codeAny (model prog w) A (.compLoop (SC2 elt t0 i0 t1 i1 ifs0 ifs1 scope pos) 1 it' acc env) R s') NoE s) (h2 : codeAny (model prog w) A (.compLoop (SC2 elt t0 i0 t1 i1 ifs0 ifs1 scope pos) 1 it acc env) R s) :
    codeAny (model prog w) A (.compStart (SC2 elt t0 i0 t1 i1 ifs0 ifs1 scope pos) 1 it acc env) R s := by
  refine codeAny_loop' rfl (fun _ s' => s' = s) (fun n s' e => ?_) 0 rfl
  subst e
  have e : A.under (.compStart (SC2 elt t0 i0 t1 i1 ifs0 ifs1 scope pos) 1 it acc env) = A := rfl
  rw [e]
  show wpAny (model prog w) A (denote table (.compStart (SC2 elt t0 i0 t1 i1 ifs0 ifs1 scope pos) 1 it acc env)) _ _ _
  rw [denote]
  refine turn_free (c := .compStart (SC2 elt t0 i0 t1 i1 ifs0 ifs1 scope pos) 1 it acc env) ?_
  show wpAny _ _ (compStart (SC2 elt t0 i0 t1 i1 ifs0 ifs1 scope pos) 1 it acc env) _ _ _
  unfold compStart
  rw [if_neg (show ¬ ((clausesOf (SC2 elt t0 i0 t1 i1 ifs0 ifs1 scope pos))[1]?.elim false fun x => x.is_async != 0) = true from fun c => Bool.false_ne_true c)]
  refine wpAny_bind (wpAny_askSetting ?_)
  by_cases q : w.params.followText "comprehension-iter-twice" = true
  · show wpAny _ _ (if w.params.followText "comprehension-iter-twice" = true then _ else _) _ _ _
    rw [if_pos q]
    exact wpAny_pure (.inr ⟨rfl, h2⟩)
  · show wpAny _ _ (if w.params.followText "comprehension-iter-twice" = true then _ else _) _ _ _
    rw [if_neg q]
    refine wpAny_bind (wpAny_rule (wpAny_bind (wpAny_standAt (wpAny_bind (thnF h fun it' s6 q6 => ?_)))))
    exact wpAny_pure (.inr ⟨rfl, q6⟩)
theorem loopS_out (hs1 : ∀ x, foldedSetIterable i1 env x = pure x) (I : Nat → Shared → Prop) (hI : ∀ (n : Nat) (s : Shared), I n s → wpAny (model prog w) A (pyNext it) (fun r s₁ => match r with
      | none => R (.ok .next) s₁
      | some v => wpAny (model prog w) A (letOwnedTupleGo t0 it v) (fun _ s₁' => wpAny (model prog w) A (assign t0 env v) (fun _ s₂ => wpAny (model prog w) A (forIn ifs0 true fun c r => if r = true then do
                let ok ← PySem.isTrue c env (eval c env)
                pure (ForInStep.yield ok)
              else pure (ForInStep.yield r))
            (fun ok s₃ => if ok = true then wpAny (model prog w) A (eval i1 env) (fun x s₄ => wpAny (model prog w) A (pyIter x) (fun it1 s₅ => codeAny (model prog w) A (.compStart (SC2 elt t0 i0 t1 i1 ifs0 ifs1 scope pos) 1 it1 acc env) (fun r s' => match r with
                  | .ok _ => ∃ m, m < n ∧ I m s'
                  | .error _ => False) s₅) NoE s₄) NoE s₃ else ∃ m, m < n ∧ I m s₃) NoE s₂) NoE s₁') NoE s₁) NoE s) (n : Nat) (h0 : I n s) :
    codeAny (model prog w) A (.compLoop (SC2 elt t0 i0 t1 i1 ifs0 ifs1 scope pos) 0 it acc env) R s := by
  refine codeAny_loop rfl I (fun n s h => ?_) n h0
  have e : A.under (.compLoop (SC2 elt t0 i0 t1 i1 ifs0 ifs1 scope pos) 0 it acc env) = A := rfl
  rw [e]
  show wpAny (model prog w) A (denote table (.compLoop (SC2 elt t0 i0 t1 i1 ifs0 ifs1 scope pos) 0 it acc env)) _ _ _
  rw [denote]
  refine turn_free (c := .compLoop (SC2 elt t0 i0 t1 i1 ifs0 ifs1 scope pos) 0 it acc env) ?_
  refine wpAny_bind (wpAny_standAt (wpAny_bind (thnF (hI n s h) fun r s1 q => ?_)))
  cases r with
  | none => exact wpAny_pure q
  | some v =>
    refine wpAny_bind (thnF q fun _ s2 q2 => wpAny_bind (thnF q2 fun _ s3 q3 => wpAny_bind (thnF q3 fun ok s4 q4 => ?_)))
    cases ok with
    | false => exact wpAny_pure ⟨rfl, by simpa using q4⟩
    | true =>
      refine wpAny_bind (thnF (by simpa using q4) fun x s5 q5 => wpAny_bind (wpAny_standAt (wpAny_bind ?_)))
      show wpAny _ _ (foldedSetIterable i1 env x) _ _ _
      rw [hs1]
      refine wpAny_pure (wpAny_bind (wpAny_holding (thnF q5 fun it1 s6 q6 => wpAny_bind (wpAny_runOwn ?_))))
      refine codeAny_mono q6 fun r s7 q7 => ?_
      cases r with
      | ok f => exact wpAny_pure ⟨rfl, q7⟩
      | error e => exact q7.elim
end
/-- what the iterator's objects are to a context -/
def ApartP (B : Cx) (P0 : List (Addr × Obj)) (b : Addr) : Prop := ∀ H : Hp, H b = none → FpOk B P0 H b
theorem apart_of {B : Cx} {P0 : List (Addr × Obj)} {H : Hp} {b : Addr} (h : FpOk B P0 H b) : ApartP B P0 b := fun _ n => ⟨n, h.2⟩
/-- the inner turns, at whose end Nx holds -/
def InS (w : World) (J1 : It) (D : Addr) (g1 : TG) (tt1 : TT) (te : TE) (vs1 : List Nat) (σ2 : L2.St) (H4 : Hp) (Nx : Hp → Prop) : Prop :=
  ∃ W1 : Nat → Nat → Hp → Prop, (∃ m, W1 0 m H4) ∧ ∀ j k H, W1 j k H →
      (J1.stop j H ∧ Nx H) ∨ (J1.go j H ∧ ∃ Nx1 : Hp → Prop, (∀ H', Nx1 H' → ∃ k', k' < k ∧ W1 (j + 1) k' H') ∧ ∀ x H', J1.yld j H x H' → g1 x (wipe σ2 vs1) H' fun σ3 H5 => wipe σ3 vs1 = wipe σ2 vs1 ∧ tt1 σ3 H5 fun b H6 =>
        if b = true then te σ3 H6 fun y H7 => ∃ (e : Int) (S : Int → Bool) (n : Nat), y = .int e ∧ H7 D = some (SetO w D S n) ∧ n + 1 < scanBound ∧ Nx1 (upd H7 D (SetO w D (fun j => S j || decide (j = e)) (if S e = true then n else n + 1))) else Nx1 H6)
def TurnS (w : World) (J : It) (g : TG) (tt : TT) (wi1 : TI) (g1 : TG) (tt1 : TT) (te : TE) (vs vs1 : List Nat) (τ : L2.St) (D : Addr) (Q : VK) (W : Nat → Nat → Hp → Prop) : Prop :=
  ∀ i m H, W i m H → (J.stop i H ∧ Q (.ref D) H) ∨ (J.go i H ∧ ∃ Nx : Hp → Prop, (∀ H', Nx H' → ∃ m', m' < m ∧ W (i + 1) m' H') ∧ ∀ x H', J.yld i H x H' → g x τ H' fun σ2 H2 => wipe σ2 vs = τ ∧ tt σ2 H2 fun b H3 =>
    if b = true then wi1 σ2 H3 fun J1 H4 => InS w J1 D g1 tt1 te vs1 σ2 H4 Nx else Nx H3)
def tSc2 (w : World) (wi : TI) (g : TG) (tt : TT) (wi1 : TI) (g1 : TG) (tt1 : TT) (te : TE) (vs vs1 : List Nat) : TE := fun σ H Q => wi σ H fun J H1 => ∀ D, H1 D = none → ∃ W : Nat → Nat → Hp → Prop, (∃ m, W 0 m (upd H1 D (SetO w D (fun _ => false) 0))) ∧ TurnS w J g tt wi1 g1 tt1 te vs vs1 (wipe σ vs) D Q W
theorem sadd_ok {X : Cx} {pins : List (Addr × Obj)} {σ : L2.St} {H : Hp} {s : Shared} {D : Addr} {S : Int → Bool} {n : Nat} {e : Int} {v : Value} {Q : Value → Shared → Prop} (hx : X.xe = NoE) (I : L2.Inv X pins σ H s) (hD : H D = some (SetO X.w D S n)) (hn : n + 1 < scanBound) (rv : L2.RelV (.int e) v)
    (q : ∀ s', L2.Inv X pins σ (upd H D (SetO X.w D (fun j => S j || decide (j = e)) (if S e = true then n else n + 1))) s' → Q Value.none s') : wpAny (model X.prog X.w) X.A (call (.builtin "set.add") [Value.ref D, v]) Q NoE s := by
  have := mt_sadd (X := X) pins s σ H (.ref D) [.int e] (.ref D) [v] (fun x H' => x = .non ∧ H' = upd H D (SetO X.w D (fun j => S j || decide (j = e)) (if S e = true then n else n + 1))) I rfl (.cons rv .nil) ⟨D, e, S, n, rfl, rfl, hD, hn, rfl, rfl⟩
  rw [hx] at this
  refine thnF this ?_
  rintro u s' ⟨x, H', I', rx, rfl, rfl⟩
  have : u = Value.none := rx
  rw [this]
  exact q s' I'
section
variable {B : Cx} {J : It} {it D : Addr} {fp : List Addr} {tn : Nat → Heap → Prop} {tg iter tg1 iter1 elt : PySem.Expr} {ifs ifs1 : List PySem.Expr} {scope : Scope} {pos : Pos} {g g1 : TG} {tt tt1 : TT} {wi1 : TI} {te : TE} {vs vs1 : List Nat} {τ : L2.St} {Q : VK} {W : Nat → Nat → Hp → Prop} {R : Result → Shared → Prop}
/-- the inner loop -/
theorem loop2_in {P0 : List (Addr × Obj)} {J1 : It} {it1 : Addr} {fp1 : List Addr} {tn1 : Nat → Heap → Prop} {σ3 : L2.St} {W1 : Nat → Nat → Hp → Prop} {Nx : Hp → Prop} (hx : B.xe = NoE) (calm : B.calm = true) (T1 : Turn B.prog B.w B.K tg1 J1 fp1 it1 tn1) (ap : ∀ b ∈ fp1, ApartP B P0 b) (pg1 : PG B tg1 g1) (pt1 : PTs B ifs1 tt1) (pe : PE B elt te)
    (turns : ∀ j k H, W1 j k H →
      (J1.stop j H ∧ Nx H) ∨ (J1.go j H ∧ ∃ Nx1 : Hp → Prop, (∀ H', Nx1 H' → ∃ k', k' < k ∧ W1 (j + 1) k' H') ∧ ∀ x H', J1.yld j H x H' → g1 x (wipe σ3 vs1) H' fun σ4 H5 => wipe σ4 vs1 = wipe σ3 vs1 ∧ tt1 σ4 H5 fun b H6 =>
        if b = true then te σ4 H6 fun y H7 => ∃ (e : Int) (S : Int → Bool) (n : Nat), y = .int e ∧ H7 D = some (SetO B.w D S n) ∧ n + 1 < scanBound ∧ Nx1 (upd H7 D (SetO B.w D (fun j => S j || decide (j = e)) (if S e = true then n else n + 1))) else Nx1 H6))
    (fin : ∀ s H, Inv B P0 (wipe σ3 vs1) H s → Nx H → R (.ok .next) s) {k0 : Nat} {s0 : Shared} {H0 : Hp} (I0 : Inv B P0 (wipe σ3 vs1) H0 s0) (t0 : tn1 0 s0.heap) (n0 : ∀ b ∈ fp1, H0 b = none) (w0 : W1 0 k0 H0) :
    codeAny (model B.prog B.w) B.A (.compLoop (SC2 elt tg iter tg1 iter1 ifs ifs1 scope pos) 1 (.ref it1) (.ref D) B.env) R s0 := by
  refine loopS_in (fun k s => ∃ j H, Inv B P0 (wipe σ3 vs1) H s ∧ tn1 j s.heap ∧ (∀ b ∈ fp1, H b = none) ∧ W1 j k H) (fun k s h => ?_) k0 ⟨0, H0, I0, t0, n0, w0⟩
  obtain ⟨j, H, I, t, nn, w⟩ := h
  have okAll : ∀ {H : Hp}, (∀ b ∈ fp1, H b = none) → ∀ b ∈ fp1, FpOk B P0 H b := fun z b hb => ap b hb _ (z b hb)
  rcases turns j k H w with ⟨hs, q⟩ | ⟨hg, Nx1, less, step⟩
  · refine thnF (T1.done B rfl rfl rfl calm j P0 s _ H NoE I (okAll nn) t hs) ?_
    rintro _ s1 ⟨rfl, I1⟩
    exact fin s1 H I1 q
  · refine thnF (T1.item B rfl rfl rfl calm j P0 s _ H NoE I (okAll nn) t hg) ?_
    rintro _ s1 ⟨u, rfl, h1⟩
    refine thnF h1 ?_
    rintro _ s2 ⟨x, H2, I2, rx, y2, t2, n2⟩
    have Ip := I2.pinned (okAll n2) (T1.obj _ _ t2)
    have rg := pg1.run _ s2 _ H2 x u _ Ip rx (step x H2 y2)
    rw [hx] at rg
    refine thnF rg ?_
    rintro _ s3 ⟨σ4, H3, I3, e3, q3⟩
    have rt := pt1.run _ s3 σ4 H3 _ I3 q3
    rw [hx] at rt
    refine thnF rt ?_
    rintro b s4 ⟨H4, I4, q4⟩
    have turned : ∀ {s' : Shared} {H' : Hp}, Inv B (P0 ++ pinsAt fp1 s2.heap) σ4 H' s' → Nx1 H' → ∃ k', k' < k ∧ ∃ j H, Inv B P0 (wipe σ3 vs1) H s' ∧ tn1 j s'.heap ∧ (∀ b ∈ fp1, H b = none) ∧ W1 j k' H := by
      intro s' H' I' nx
      obtain ⟨k', lt, w'⟩ := less H' nx
      have see : ∀ b ∈ fp1, ∀ o, s2.heap.get? b = some o → s'.heap.get? b = some o ∧ H' b = none := fun b hb o e => by
        have z := I'.pin (b, o) (List.mem_append_right _ (List.mem_append_right _ (mem_pinsAt hb e)))
        exact ⟨z.1, z.2.1⟩
      have len : (wipe σ3 vs1).length = σ4.length := by
        rw [← e3]
        exact wipe_length ..
      refine ⟨k', lt, j + 1, H', ?_, T1.keep _ _ _ t2 (fun b hb o e => (see b hb o e).1), (fun b hb => ?_), w'⟩
      · refine (Inv.unpinned I').weak len fun i v e => ?_
        rw [← e3] at e
        exact (wipe_some e).1
      · obtain ⟨o, e, _⟩ := T1.obj _ _ t2 b hb
        exact (see b hb o e).2
    cases b with
    | false => exact turned I4 (by simpa using q4)
    | true =>
      rw [if_pos rfl] at q4
      have re := pe.run _ s4 σ4 H4 _ I4 q4
      rw [hx] at re
      refine thnF re ?_
      rintro v s5 ⟨y, H5, I5, ry, e, S, n, rfl, hD, small, nx⟩
      exact sadd_ok hx I5 hD small ry fun s6 I6 => turned I6 nx
/-- the outer loop -/
theorem loop2_out (hx : B.xe = NoE) (calm : B.calm = true) (T : Turn B.prog B.w B.K tg J fp it tn) (ap : ∀ b ∈ fp, ApartP B [] b) (pg : PG B tg g) (pt : PTs B ifs tt) (pi1 : PI B tg1 iter1 wi1) (pg1 : PG B tg1 g1) (pt1 : PTs B ifs1 tt1) (pe : PE B elt te) (hs1 : ∀ x, foldedSetIterable iter1 B.env x = pure x) (hvs : ∀ i ∈ vs1, i ∈ vs)
    (turns : TurnS B.w J g tt wi1 g1 tt1 te vs vs1 τ D Q W) (fin : ∀ s H, Inv B [] τ H s → Q (.ref D) H → R (.ok .next) s) {m0 : Nat} {s0 : Shared} {H0 : Hp} (I0 : Inv B [] τ H0 s0) (t0 : tn 0 s0.heap) (n0 : ∀ b ∈ fp, H0 b = none) (w0 : W 0 m0 H0) :
    codeAny (model B.prog B.w) B.A (.compLoop (SC2 elt tg iter tg1 iter1 ifs ifs1 scope pos) 0 (.ref it) (.ref D) B.env) R s0 := by
  refine loopS_out hs1 (fun m s => ∃ i H, Inv B [] τ H s ∧ tn i s.heap ∧ (∀ b ∈ fp, H b = none) ∧ W i m H) (fun m s h => ?_) m0 ⟨0, H0, I0, t0, n0, w0⟩
  obtain ⟨i, H, I, t, nn, w⟩ := h
  have okAll : ∀ {H : Hp}, (∀ b ∈ fp, H b = none) → ∀ b ∈ fp, FpOk B [] H b := fun z b hb => ap b hb _ (z b hb)
  rcases turns i m H w with ⟨hs, q⟩ | ⟨hg, Nx, less, step⟩
  · refine thnF (T.done B rfl rfl rfl calm i [] s τ H NoE I (okAll nn) t hs) ?_
    rintro _ s1 ⟨rfl, I1⟩
    exact fin s1 H I1 q
  · refine thnF (T.item B rfl rfl rfl calm i [] s τ H NoE I (okAll nn) t hg) ?_
    rintro _ s1 ⟨u, rfl, h1⟩
    refine thnF h1 ?_
    rintro _ s2 ⟨x, H2, I2, rx, y2, t2, n2⟩
    have Ip := I2.pinned (okAll n2) (T.obj _ _ t2)
    have rg := pg.run _ s2 τ H2 x u _ Ip rx (step x H2 y2)
    rw [hx] at rg
    refine thnF rg ?_
    rintro _ s3 ⟨σ3, H3, I3, e3, q3⟩
    have rt := pt.run _ s3 σ3 H3 _ I3 q3
    rw [hx] at rt
    refine thnF rt ?_
    rintro b s4 ⟨H4, I4, q4⟩
    have turned : ∀ {s' : Shared} {H' : Hp} {σ' : L2.St}, Inv B ([] ++ pinsAt fp s2.heap) σ' H' s' → τ.length = σ'.length → (∀ (j : Nat) (v : V), τ[j]? = some (some v) → σ'[j]? = some (some v)) → Nx H' → ∃ m', m' < m ∧ ∃ i H, Inv B [] τ H s' ∧ tn i s'.heap ∧ (∀ b ∈ fp, H b = none) ∧ W i m' H := by
      intro s' H' σ' I' len sub nx
      obtain ⟨m', lt, w'⟩ := less H' nx
      have see : ∀ b ∈ fp, ∀ o, s2.heap.get? b = some o → s'.heap.get? b = some o ∧ H' b = none := fun b hb o e => by
        have z := I'.pin (b, o) (List.mem_append_right _ (List.mem_append_right _ (mem_pinsAt hb e)))
        exact ⟨z.1, z.2.1⟩
      refine ⟨m', lt, i + 1, H', ?_, T.keep _ _ _ t2 (fun b hb o e => (see b hb o e).1), (fun b hb => ?_), w'⟩
      · exact (Inv.unpinned (pins := []) I').weak len sub
      · obtain ⟨o, e, _⟩ := T.obj _ _ t2 b hb
        exact (see b hb o e).2
    have len3 : τ.length = σ3.length := by
      rw [← e3]
      exact wipe_length ..
    have sub3 : ∀ (j : Nat) (v : V), τ[j]? = some (some v) → σ3[j]? = some (some v) ∧ j ∉ vs := fun j v e => by
      rw [← e3] at e
      exact wipe_some e
    cases b with
    | false => exact turned I4 len3 (fun j v e => (sub3 j v e).1) (by simpa using q4)
    | true =>
      rw [if_pos rfl] at q4
      have re := pi1.run _ s4 σ3 H4 _ I4 q4
      rw [hx] at re
      refine thnF re ?_
      intro xv s5 h5
      refine thnF h5 ?_
      rintro itv s6 ⟨it1, fp1, tn1, J1, H5, rfl, I5, T1, t5, f5, W1, ⟨k1, w1⟩, turns1⟩
      have I5w : Inv B ([] ++ pinsAt fp s2.heap) (wipe σ3 vs1) H5 s6 := I5.weak (wipe_length ..) fun j v e => (wipe_some e).1
      have inner := loop2_in (elt := elt) (tg := tg) (iter := iter) (tg1 := tg1) (iter1 := iter1) (ifs := ifs) (ifs1 := ifs1) (scope := scope) (pos := pos) (D := D) (R := fun r s' => match r with | .ok _ => ∃ m', m' < m ∧ ∃ i H, Inv B [] τ H s' ∧ tn i s'.heap ∧ (∀ b ∈ fp, H b = none) ∧ W i m' H | .error _ => False)
        hx calm T1 (fun b hb => apart_of (f5 b hb)) pg1 pt1 pe turns1 (fun s' H' I' nx => turned I' (by rw [wipe_length]; exact len3) (fun j v e => by
          rw [wipe_out (fun q => (sub3 j v e).2 (hvs j q))]
          exact (sub3 j v e).1) nx) I5w t5 (fun b hb => (f5 b hb).1) w1
      exact startS1 (T1.self _ 0 _ _ _ t5 inner) inner
end
/-- {elt for target in .. for target1 in ..}, elt a whole number -/
theorem pe_sc2 {X : Cx} {elt tg iter tg1 iter1 : PySem.Expr} {ifs ifs1 : List PySem.Expr} {scope : Scope} {own : List (Str × Nat)} {vs1 : List Nat} {pos : Pos} {wi wi1 : TI} {g g1 : TG} {tt tt1 : TT} {te : TE} (calm : X.calm = true) (hN : X.N.Nodup) (hi : PI X tg iter wi) (ok : BlkOk X.N X.env.scope scope own) (hvs : ∀ i ∈ vs1, i ∈ own.map (·.2))
    (hg : ∀ (s : Shared) (H : Hp) (C : Addr) (cl : List (Str × Addr)) (fp : List Addr), PG (X.blk s H scope (compEnvC scope cl C X.env) fp) tg g)
    (ht : ∀ (s : Shared) (H : Hp) (C : Addr) (cl : List (Str × Addr)) (fp : List Addr), PTs (X.blk s H scope (compEnvC scope cl C X.env) fp) ifs tt)
    (hi1 : ∀ (s : Shared) (H : Hp) (C : Addr) (cl : List (Str × Addr)) (fp : List Addr), PI (X.blk s H scope (compEnvC scope cl C X.env) fp) tg1 iter1 wi1)
    (hg1 : ∀ (s : Shared) (H : Hp) (C : Addr) (cl : List (Str × Addr)) (fp : List Addr), PG (X.blk s H scope (compEnvC scope cl C X.env) fp) tg1 g1)
    (ht1 : ∀ (s : Shared) (H : Hp) (C : Addr) (cl : List (Str × Addr)) (fp : List Addr), PTs (X.blk s H scope (compEnvC scope cl C X.env) fp) ifs1 tt1)
    (he : ∀ (s : Shared) (H : Hp) (C : Addr) (cl : List (Str × Addr)) (fp : List Addr), PE (X.blk s H scope (compEnvC scope cl C X.env) fp) elt te)
    (hs : ∀ x, foldedSetIterable iter X.env x = pure x := by intro _; rfl) (hs1 : ∀ env x, foldedSetIterable iter1 env x = pure x := by intro _ _; rfl) :
    PE X (.SetComp elt [⟨tg, iter, ifs, 0⟩, ⟨tg1, iter1, ifs1, 0⟩] scope pos) (tSc2 X.w wi g tt wi1 g1 tt1 te (own.map (·.2)) vs1) := by
  refine ⟨fun pins s σ H Q I h => ?_⟩
  rw [PpSet.eval_SetComp]
  have closed : ∀ z ∈ scope.names, z.2 = .free → ∃ c, X.env.cells.lookup z.1 = some c := fun z hz e => I.ok.has _ (ok.free z hz e)
  refine wpAny_comprehension_free (use := none) rfl hs (closure_ok closed) ok.kind (fun z hz e => by rw [ok.uniq z hz, e]) (thn (hi.run pins s σ H _ I h) fun xv s1 h1 => thn h1 fun itv s2 h2 => ?_)
  obtain ⟨it, fp, tn, J, H2, rfl, I2, T, t2, f2, q⟩ := h2
  refine PpSet.newSet_ok (newEnv_comp ?_)
  obtain ⟨W, ⟨m0, w0⟩, turns⟩ := q s2.heap.objs.size (I2.hok.fresh (Nat.le_refl _))
  -- the set that is filled
  generalize hob : ({ cls := Value.type "set", data := Data.set #[] 0 (SetTable.fresh 0 0 !X.w.params.followText "set-order") } : Obj) = ob
  have okS : ∀ G, ObjOk X.prog X.w G (s2.heap.push ob) s2.heap.objs.size (SetO X.w s2.heap.objs.size (fun _ => false) 0) := fun G => by
    rw [← hob]
    exact setO_new (setR_fresh X.w)
  have ID : Inv X pins σ (upd H2 s2.heap.objs.size (SetO X.w s2.heap.objs.size (fun _ => false) 0)) { s2 with heap := s2.heap.push ob } :=
    I2.laid (t' := s2.toks) (fun b o e => Heap.get?_push_of_some _ e) (Nat.le_refl _) (okS _)
  have old : ∀ b o, s2.heap.get? b = some o → b ≠ s2.heap.objs.size := fun b o e => Nat.ne_of_lt (Heap.lt_size e)
  have fD : ∀ b ∈ fp, FpOk X pins (upd H2 s2.heap.objs.size (SetO X.w s2.heap.objs.size (fun _ => false) 0)) b ∧ b < (s2.heap.push ob).objs.size := by
    intro b hb
    obtain ⟨o, e, _⟩ := T.obj _ _ t2 b hb
    refine ⟨⟨(upd_ne (old b o e)).trans (f2 b hb).1, (f2 b hb).2⟩, ?_⟩
    rw [Heap.size_push]
    exact Nat.lt_succ_of_lt (Heap.lt_size e)
  generalize hsD : ({ s2 with heap := s2.heap.push ob } : Shared) = sD at ID
  have heD : s2.heap.push ob = sD.heap := by rw [← hsD]
  rw [heD] at fD
  have kD : ∀ b o, s2.heap.get? b = some o → sD.heap.get? b = some o := fun b o e => by
    rw [← heD]
    exact Heap.get?_push_of_some _ e
  generalize hHD : upd H2 s2.heap.objs.size (SetO X.w s2.heap.objs.size (fun _ => false) 0) = HD at ID fD w0
  have kB : ∀ b o, sD.heap.get? b = some o → (pushCells (sD.heap.push { cls := .type "dict", data := .dict #[] }) scope.names).get? b = some o := fun b o e => pushCells_keeps _ _ _ _ (Heap.get?_push_of_some _ e)
  have IB := block_start ID ok hN fD
  have pg := hg sD HD sD.heap.objs.size (cellsFrom (sD.heap.objs.size + 1) scope.names (cloFrom X.env.cells scope.names [])) fp
  have pt := ht sD HD sD.heap.objs.size (cellsFrom (sD.heap.objs.size + 1) scope.names (cloFrom X.env.cells scope.names [])) fp
  have pi1 := hi1 sD HD sD.heap.objs.size (cellsFrom (sD.heap.objs.size + 1) scope.names (cloFrom X.env.cells scope.names [])) fp
  have pg1 := hg1 sD HD sD.heap.objs.size (cellsFrom (sD.heap.objs.size + 1) scope.names (cloFrom X.env.cells scope.names [])) fp
  have pt1 := ht1 sD HD sD.heap.objs.size (cellsFrom (sD.heap.objs.size + 1) scope.names (cloFrom X.env.cells scope.names [])) fp
  have pe := he sD HD sD.heap.objs.size (cellsFrom (sD.heap.objs.size + 1) scope.names (cloFrom X.env.cells scope.names [])) fp
  have tB : tn 0 (pushCells (sD.heap.push { cls := .type "dict", data := .dict #[] }) scope.names) := T.keep _ _ _ t2 fun b _ o e => kB b o (kD b o e)
  have ap : ∀ b ∈ fp, ApartP (X.blk sD HD scope (compEnvC scope (cellsFrom (sD.heap.objs.size + 1) scope.names (cloFrom X.env.cells scope.names [])) sD.heap.objs.size X.env) fp) [] b := by
    intro b hb H' n
    exact ⟨n, (IB.ok.exf b hb).1, IB.ok.exfs b hb, .inl hb, (IB.ok.exf b hb).2, fun r hr => (by cases hr)⟩
  have go : codeAny (model X.prog X.w) X.A (.compLoop (SC2 elt tg iter tg1 iter1 ifs ifs1 scope pos) 0 (.ref it) (.ref s2.heap.objs.size) (compEnvC scope (cellsFrom (sD.heap.objs.size + 1) scope.names (cloFrom X.env.cells scope.names [])) sD.heap.objs.size X.env))
      (compPost (model X.prog X.w) X.A X.xe none (EP X pins σ Q) (.ref s2.heap.objs.size) sD.heap.objs.size) { sD with heap := pushCells (sD.heap.push { cls := .type "dict", data := .dict #[] }) scope.names } := by
    refine loop2_out (B := X.blk sD HD scope (compEnvC scope (cellsFrom (sD.heap.objs.size + 1) scope.names (cloFrom X.env.cells scope.names [])) sD.heap.objs.size X.env) fp)
      rfl calm T ap pg pt pi1 pg1 pt1 pe (hs1 _) hvs (D := s2.heap.objs.size) (vs := own.map Prod.snd) (τ := wipe σ (own.map Prod.snd)) (Q := Q) (W := W) turns (fun s6 H6 I6 q6 => ?_) IB tB (fun b hb => (fD b hb).1.1) w0
    -- back in the def
    have IE : Inv X pins σ H6 s6 := ID.call' (ch := fp) I6.os I6.base I6.hok I6.bare fun b hb => ⟨(fD b hb).1.2.2.2.1, (fD b hb).1.2.1, (fD b hb).1.2.2.2.2.1, (fD b hb).1.2.2.2.2.2⟩
    obtain ⟨m, hn, _⟩ := I6.loc
    refine ⟨m, hn, fun h'' sb => ?_⟩
    obtain ⟨f0, f1, f2, f3, f4, f5⟩ := ID.fpOk (b := sD.heap.objs.size) (Nat.le_refl _) (show H6 sD.heap.objs.size = none from I6.free)
    exact ⟨.ref s2.heap.objs.size, H6, IE.turned (t' := s6.toks) (fun b o hb e => (sb.2 b hb).trans e) f0 f1 f3 f4 f5, rfl, q6⟩
  exact PpSet.codeAny_compStart_set go (T.self X.A 0 _ _ _ tB go)
end Fx

/-! set(xs), xs a list of whole numbers: the set is one that can be sorted -/
namespace PySem
open PyProof.Rows L2
abbrev emptyO (w : World) : Obj := { cls := .type "set", dict := none, data := .set #[] 0 (.fresh 0 0 (!w.params.followText "set-order")) }
section
variable {P : Program} {w : World} {A : Around} {E : Value → Shared → Prop} {s : Shared}
/-- an empty set at the end of the heap h0, and all else as there -/
theorem fill_list {h0 : Heap} {l : Addr} {items : Array Value} (ns : List Int) {Q : PySem.Fin → Shared → Prop} (hs : s.heap = h0.push (emptyO w)) (hh : A.handled = none) (hl : h0.IsList l items) (hi : IntsAre items.toList ns) (hb : ns.length + 1 < scanBound)
    (h : ∀ (h' : Heap) (tk c : Nat), SetR w h' h0.objs.size (fun j => decide (j ∈ ns)) c → c ≤ ns.length → (∀ b o, h0.get? b = some o → h'.get? b = some o) → Q (.done (.ret .none)) { s with heap := h', toks := tk }) :
    wpAny (model P w) A (Builtin.«set.__init__» ⟨[.ref h0.objs.size, .ref l], []⟩) Q E s := by
  have hsz : items.size = ns.length := by have q := IntsAre.length hi; rwa [Array.length_toList] at q
  obtain ⟨hp, g0, d0, t0, o0⟩ := s
  dsimp only at hs
  subst hs
  have atS : (h0.push (emptyO w)).get? h0.objs.size = some (emptyO w) := Heap.get?_push_size _ rfl
  have hS : Shared.TypeIs (⟨h0.push (emptyO w), g0, d0, t0, o0⟩ : Shared) (.ref h0.objs.size) "set" := ⟨_, atS, rfl⟩
  obtain ⟨⟨_, dd, _, sl⟩, hol, hc, nl, hd⟩ := hl
  simp only at hc hd
  subst hc; subst hd
  have keep := Heap.get?_push_of_some (emptyO w) hol
  have il : (h0.push (emptyO w)).IsList l items := ⟨_, keep, rfl, nl, rfl⟩
  have f1 := F.sub_list_set
  have f2 := F.sub_list_frozenset
  have f3 : (Value.type "list" == Value.type "dict") = false := by decide
  have lt := Heap.lt_size hol
  have sz : (h0.push (emptyO w)).objs.size = h0.objs.size + 1 := Heap.size_push ..
  unfold Builtin.«set.__init__» noKeywords Builtin.Frozenset.updateFrom
  generalize hPI : pyIter = PI
  wp_walk
  subst hPI
  refine wpAny_pyIter_list il (wpAny_bind (wpAny_runValue ?_))
  have quiet : A.in1.in1.handled = none := by simp [hh]
  refine set_update_ints ((Walks.list (by simp [hh]) _ l (Nat.ne_of_lt (by rw [sz]; exact Nat.lt_succ_of_lt lt)) items).toS) h0.objs.size (by simp only [List.mem_cons, List.not_mem_nil, or_false, not_or]; exact ⟨by rw [sz]; exact Nat.ne_of_lt (Nat.lt_succ_self _), Nat.ne_of_gt lt⟩) ns hsz hb (fun i v hv => ?_) (items.size - 0) 0 _ (by omega) (Nat.zero_le _)
    ⟨⟨_, Heap.get?_push_size _ rfl, rfl, rfl⟩, il.push _⟩ ⟨0, Nat.le_refl 0, setR_new_at (Heap.get?_push_of_some _ atS)⟩ fun s2 c mv hc hS2 => ?_
  · have lt2 : i < ns.length := by rw [← hsz]; exact (Array.getElem?_eq_some_iff.mp hv).1
    obtain ⟨t, e⟩ := IntsAre.int_at hi i v (by rw [Array.getElem?_toList]; exact hv)
    exact ⟨ns[i], t, List.getElem?_eq_getElem lt2, by rw [e, List.getD_eq_getElem?_getD, List.getElem?_eq_getElem lt2] <;> rfl⟩
  · obtain ⟨h2, g2, d2, t2, o2⟩ := s2
    have e1 : g2 = g0 := mv.gens
    have e2 : d2 = d0 := mv.drawn
    have e3 : o2 = o0 := mv.os
    subst e1 e2 e3
    have last := h h2 t2 c hS2 (by omega) fun b o e => mv.heap b o (by
      have z := Heap.lt_size e
      simp only [List.mem_cons, List.not_mem_nil, or_false, not_or]
      exact ⟨Nat.ne_of_lt z, by rw [sz]; exact Nat.ne_of_lt (Nat.lt_succ_of_lt z)⟩) (Heap.get?_push_of_some _ (Heap.get?_push_of_some _ e))
    exact wpAny_pure (wpAny_pure last)
theorem set_of_list {l : Addr} {items : Array Value} (ns : List Int) {Q : Value → Shared → Prop} (hh : A.handled = none) (hl : s.heap.IsList l items) (hi : IntsAre items.toList ns) (hb : ns.length + 1 < scanBound)
    (h : ∀ (h' : Heap) (tk c : Nat), SetR w h' s.heap.objs.size (fun j => decide (j ∈ ns)) c → c ≤ ns.length → (∀ b o, s.heap.get? b = some o → h'.get? b = some o) → Q (.ref s.heap.objs.size) { s with heap := h', toks := tk }) :
    wpAny (model P w) A (call (.type "set") [.ref l]) Q E s := by
  have g1 := F.called_set.mro
  have g2 := F.called_set.made
  have g3 := F.called_set.sub
  have g4 := F.called_set.notType
  have g5 := F.called_set.canCreate
  have g6 := F.typeCall_set_1 (.ref l)
  have g7 := F.called_set.init.lookup
  have g8 := F.called_set.init.bind (.ref s.heap.objs.size)
  obtain ⟨c, tl, g1⟩ := g1
  refine wpAny_call (codeAny_of_tree (show wpAny _ _ (callAny (.type "set") _) _ _ _ from wpAny_pure ⟨Code.quiet_builtin _ (by decide +kernel), codeAny_builtin F.entry_type_call ?_⟩))
  rw [Around.under_plain (weight_type_call_type "set" [.ref l] []) rfl]
  repeat (any_goals (first | assumption | wp_step))
  refine codeAny_mono (code_set_led1 (.ref l) (E := E) (Q₁ := fun x s1 => x = .ref s.heap.objs.size ∧ s1 = { s with heap := s.heap.push (emptyO w) }) ⟨rfl, rfl⟩) fun r s1 k => ?_
  match r, k with
  | .error e, k => exact k
  | .ok (.ret x), k =>
    obtain ⟨rfl, rfl⟩ := k
    have atS : (s.heap.push (emptyO w)).get? s.heap.objs.size = some (emptyO w) := Heap.get?_push_size _ rfl
    have hT : Shared.TypeIs { s with heap := s.heap.push (emptyO w) } (.ref s.heap.objs.size) "set" := ⟨_, atS, rfl⟩
    repeat (any_goals (first | assumption | wp_step))
    refine codeAny_mono (codeAny_call_builtin (R := wants (fun r s2 => r = .none ∧ ∃ h' tk c, SetR w h' s.heap.objs.size (fun j => decide (j ∈ ns)) c ∧ c ≤ ns.length ∧ (∀ b o, s.heap.get? b = some o → h'.get? b = some o) ∧ s2 = { s with heap := h', toks := tk }) E)
      F.called_set.init.plain F.entry_set_init (check_set_init_1 hT (fill_list (s := { s with heap := s.heap.push (emptyO w) }) ns rfl (by simp [hh]) hl hi hb fun h' tk c a b d => ⟨rfl, h', tk, c, a, b, d, rfl⟩))) fun r2 s2 k2 => ?_
    match r2, k2 with
    | .error e, k2 => exact k2
    | .ok (.ret y), k2 =>
      obtain ⟨rfl, h', tk, c, a, b, d, rfl⟩ := k2
      repeat (any_goals (first | assumption | wp_step))
      exact h _ _ _ a b d
end
end PySem
namespace Fx
open PySem PySem.Spec PyProof.Rows L2
/-- set(xs) -/
def rSetL (K : PySem.W.Frag) (w : World) : List V → Hp → VK → Prop := fun vs H Q => ∃ (l : Addr) (ns : List Int), vs = [.ref l] ∧ SqL K H l (ns.map V.int) ∧ ns.length ≤ 1000 ∧
  ∀ a c, H a = none → c ≤ ns.length → Q (.ref a) (upd H a (SetO w a (fun j => decide (j ∈ ns)) c))
theorem cr_setL {X : Cx} (hc : X.calm = true) : CallR X (.type "set") (rSetL X.K X.w) := by
  intro pins s σ H vs us Q I r h
  obtain ⟨l, ns, rfl, hl, hn, q⟩ := h
  rw [Vals.ref1 r]
  obtain ⟨its, rv, pl, _⟩ := I.list hl
  refine set_of_list ns (I.ok.hd hc) pl.isList (by simpa using rv.ints) (by unfold scanBound; omega) fun h' tk c a b k => ?_
  exact ⟨.ref _, _, I.laid (t' := tk) k (Nat.le_refl _) (setO_new a), rfl, q _ c (I.hok.fresh (Nat.le_refl _)) b⟩
end Fx
#print axioms Fx.cr_setL

/-! the turns of a set comprehension: a list outside, a tuple inside -/
namespace Fx
open PySem PySem.Spec PyProof.Rows L2
theorem sc2_list {w : World} {K : PySem.W.Frag} {a : Addr} {xs : List V} {g : TG} {tt : TT} {wi1 : TI} {g1 : TG} {tt1 : TT} {te : TE} {vs vs1 : List Nat} {τ : L2.St} {H1 : Hp} {D : Addr} {Q : VK} (Pv : Nat → Hp → Prop) (h0 : Pv 0 (upd H1 D (SetO w D (fun _ => false) 0))) (hl : ∀ i H, i ≤ xs.length → Pv i H → SqL K H a xs)
    (hs : ∀ i x H, xs[i]? = some x → Pv i H → g x τ H fun σ2 H2 => wipe σ2 vs = τ ∧ tt σ2 H2 fun b H3 => if b = true then wi1 σ2 H3 fun J1 H4 => InS w J1 D g1 tt1 te vs1 σ2 H4 (Pv (i + 1)) else Pv (i + 1) H3) (hd : ∀ H, Pv xs.length H → Q (.ref D) H) :
    ∃ W : Nat → Nat → Hp → Prop, (∃ m, W 0 m (upd H1 D (SetO w D (fun _ => false) 0))) ∧ TurnS w (Itl K a) g tt wi1 g1 tt1 te vs vs1 τ D Q W := by
  refine ⟨fun i m H => m + i = xs.length ∧ Pv i H, ⟨xs.length, rfl, h0⟩, fun i m H hw => ?_⟩
  obtain ⟨hm, p⟩ := hw
  have q := hl i H (by omega) p
  cases m with
  | zero =>
    have e : i = xs.length := by omega
    exact .inl ⟨⟨xs, q, by omega⟩, hd H (e ▸ p)⟩
  | succ m =>
    have lt : i < xs.length := by omega
    have at_ := List.getElem?_eq_getElem lt
    refine .inr ⟨⟨xs, xs[i], q, at_⟩, Pv (i + 1), fun H' p' => ⟨m, Nat.lt_succ_self m, by omega, p'⟩, fun x H' y => ?_⟩
    obtain ⟨e, y⟩ := y
    rw [e]
    exact hs i x H (y xs q) p
theorem inS_tup {w : World} {K : PySem.W.Frag} {a D : Addr} {xs : List V} {g1 : TG} {tt1 : TT} {te : TE} {vs1 : List Nat} {σ2 : L2.St} {H4 : Hp} {Nx : Hp → Prop} (Pw : Nat → Hp → Prop) (h0 : Pw 0 H4) (hl : ∀ j H, j ≤ xs.length → Pw j H → SqT K H a xs)
    (hs : ∀ j x H, xs[j]? = some x → Pw j H → g1 x (wipe σ2 vs1) H fun σ3 H5 => wipe σ3 vs1 = wipe σ2 vs1 ∧ tt1 σ3 H5 fun b H6 => if b = true then te σ3 H6 fun y H7 => ∃ (e : Int) (S : Int → Bool) (n : Nat), y = .int e ∧ H7 D = some (SetO w D S n) ∧ n + 1 < scanBound ∧ Pw (j + 1) (upd H7 D (SetO w D (fun j => S j || decide (j = e)) (if S e = true then n else n + 1))) else Pw (j + 1) H6) (hd : ∀ H, Pw xs.length H → Nx H) :
    InS w (Itt K a) D g1 tt1 te vs1 σ2 H4 Nx := by
  refine ⟨fun j k H => k + j = xs.length ∧ Pw j H, ⟨xs.length, rfl, h0⟩, fun j k H hw => ?_⟩
  obtain ⟨hm, p⟩ := hw
  have q := hl j H (by omega) p
  cases k with
  | zero =>
    have e : j = xs.length := by omega
    exact .inl ⟨⟨xs, q, by omega⟩, hd H (e ▸ p)⟩
  | succ k =>
    have lt : j < xs.length := by omega
    have at_ := List.getElem?_eq_getElem lt
    refine .inr ⟨⟨xs, xs[j], q, at_⟩, Pw (j + 1), fun H' p' => ⟨k, Nat.lt_succ_self k, by omega, p'⟩, fun x H' y => ?_⟩
    obtain ⟨e, y⟩ := y
    rw [e]
    exact hs j x H (y xs q) p
/-- whole numbers in ascending order, known by their members -/
theorem asc_eq : ∀ {a b : List Int}, a.Pairwise (· < ·) → b.Pairwise (· < ·) → (∀ k, k ∈ a ↔ k ∈ b) → a = b
  | [], [], _, _, _ => rfl
  | [], y :: b, _, _, h => absurd ((h y).mpr List.mem_cons_self) (by simp)
  | x :: a, [], _, _, h => absurd ((h x).mp List.mem_cons_self) (by simp)
  | x :: a, y :: b, ha, hb, h => by
    obtain ⟨a1, a2⟩ := List.pairwise_cons.mp ha
    obtain ⟨b1, b2⟩ := List.pairwise_cons.mp hb
    have e : x = y := by
      rcases List.mem_cons.mp ((h x).mp List.mem_cons_self) with e | m1
      · exact e
      · rcases List.mem_cons.mp ((h y).mpr List.mem_cons_self) with e | m2
        · exact e.symm
        · have := a1 _ m2
          have := b1 _ m1
          omega
    subst e
    congr 1
    refine asc_eq a2 b2 fun k => ⟨fun m => ?_, fun m => ?_⟩
    · rcases List.mem_cons.mp ((h k).mp (List.mem_cons_of_mem _ m)) with e | m2
      · have := a1 _ m
        omega
      · exact m2
    · rcases List.mem_cons.mp ((h k).mpr (List.mem_cons_of_mem _ m)) with e | m2
      · have := b1 _ m
        omega
      · exact m2
end Fx

--#ty _law_bag _law_script=l _law_cells=l
--#ty _law_take _law_bag_here=l _law_bag_here[4]=l
--#wide _law_take op_fdivW | _law_bag_here[1] // _law_many
namespace Fk
open PySem L2
/-! short words: rdc closes a side condition, r1 one step of a reading, rd as many as there are -/
local macro_rules | `(tactic| walk_at "rdc") => `(tactic| (first | exact Or.inl ⟨by decide, by decide⟩ | exact Or.inr ⟨by decide, by decide⟩ | exact ⟨by decide, by decide⟩ | exact Or.inl ⟨by omega, by omega⟩ | exact Or.inr ⟨by omega, by omega⟩ | ((show (0 : Int) < _); (first | decide | omega)) | exact ⟨by decide, by decide, by decide⟩ | exact ⟨by omega, by assumption⟩))
local macro_rules | `(tactic| walk_at "hp") => `(tactic| (first | exact upd_same | assumption | ((rw [upd_ne (by assumption)]); (first | exact upd_same | assumption | ((rw [upd_ne (by assumption)]); (first | exact upd_same | assumption | ((rw [upd_ne (by assumption)]); (first | exact upd_same | assumption))))))))
local macro_rules | `(tactic| walk_at "r1") => `(tactic| (first | refine ⟨_, rfl, ?_⟩ | refine ⟨_, _, rfl, rfl, ?_⟩ | refine ⟨_, _, rfl, ?_⟩ | refine Or.inl ⟨_, rfl, ?_⟩ | refine ⟨rfl, ?_⟩ | refine ⟨(by walk_at "rdc"), ?_⟩ | refine ⟨_, _, _, _, rfl, rfl, SqL.of (by walk_at "hp"), rfl, ?_⟩ | refine ⟨_, _, _, _, rfl, rfl, (by walk_at "hp"), rfl, ?_⟩ | refine ⟨_, _, _, _, rfl, rfl, SqL.of (by walk_at "hp"), by assumption, ?_⟩))
local macro_rules | `(tactic| walk_at "rd") => `(tactic| (repeat walk_at "r1"))
def top (i : Nat) : Stmt := PySem.Challenge.pw_forkbeats_k47_rises.main.body.getD i (.Pass ⟨0, 0, 0, 0⟩)
/-- all that was tracked stands, but for b -/
def Keep (H H' : Hp) (b : Addr) : Prop := ∀ a o, H a = some o → a ≠ b → H' a = some o
theorem Keep.refl (H : Hp) (b : Addr) : Keep H H b := fun _ _ h _ => h
theorem Keep.trans {H H1 H2 : Hp} {b : Addr} (x : Keep H H1 b) (y : Keep H1 H2 b) : Keep H H2 b := fun a o h n => y a o (x a o h n) n
theorem Keep.upd {H H1 : Hp} {b : Addr} {o : HO} (x : Keep H H1 b) : Keep H (upd H1 b o) b := fun a u h n => by
  rw [upd_ne n]
  exact x a u h n
theorem Keep.new {H H1 : Hp} {b p : Addr} {o : HO} (x : Keep H H1 b) (hp : H1 p = none) : Keep H (L2.upd H1 p o) b := fun a u h n => by
  have q := x a u h n
  rw [upd_ne (ne_of_none q hp)]
  exact q
/-- a bag of draws at b -/
def BagIs (H : Hp) (b : Addr) (n acc pos base : Int) (c : Addr) (cells : List Int) : Prop :=
  H b = some (.lst [.int n, .int acc, .int pos, .int base, .ref c]) ∧ H c = some (.lst (cells.map V.int)) ∧ b ≠ c ∧ 0 ≤ acc ∧ 0 ≤ pos ∧ 0 ≤ base ∧ base < 2147483647 ∧ (∀ x ∈ cells, 0 ≤ x) ∧ cells.length ≤ 63
def Bag (H : Hp) (b c : Addr) : Prop := ∃ n acc pos base cells, BagIs H b n acc pos base c cells
theorem Bag.keep {H H' : Hp} {b c d : Addr} (h : Bag H b c) (k : Keep H H' d) (e1 : b ≠ d) (e2 : c ≠ d) : Bag H' b c := by
  obtain ⟨n, acc, pos, base, cells, h1, h2, r⟩ := h
  exact ⟨n, acc, pos, base, cells, k _ _ h1 e1, k _ _ h2 e2, r⟩
theorem Bag.at1 {H : Hp} {b c : Addr} (h : Bag H b c) : ∃ o, H b = some o := by
  obtain ⟨n, acc, pos, base, cells, h1, h2, r⟩ := h
  exact ⟨_, h1⟩
theorem Bag.at2 {H : Hp} {b c : Addr} (h : Bag H b c) : ∃ o, H c = some o := by
  obtain ⟨n, acc, pos, base, cells, h1, h2, r⟩ := h
  exact ⟨_, h2⟩
theorem Bag.off {H : Hp} {b c p : Addr} (h : Bag H b c) (hp : H p = none) : b ≠ p ∧ c ≠ p := by
  obtain ⟨o, e⟩ := h.at1
  obtain ⟨o2, e2⟩ := h.at2
  exact ⟨ne_of_none e hp, ne_of_none e2 hp⟩
theorem Bag.set {H : Hp} {b c d : Addr} {o : HO} (h : Bag H b c) (e1 : b ≠ d) (e2 : c ≠ d) : Bag (upd H d o) b c := by
  obtain ⟨n, acc, pos, base, cells, h1, h2, r⟩ := h
  exact ⟨n, acc, pos, base, cells, (upd_ne e1).trans h1, (upd_ne e2).trans h2, r⟩
/-- the built-ins by their names -/
structure Bn (mg : Str → Option Value) : Prop where
  b_len : mg "len" = none
  b_abs : mg "abs" = none
  b_max : mg "max" = none
  b_int : mg "int" = none
  b_range : mg "range" = none
/-! ### texts -/
theorem fold_list (a : Array Nat) : ∀ (m : Nat) (acc : Array Nat), ((List.replicate m a).foldl (· ++ ·) acc).toList = acc.toList ++ (List.replicate m a.toList).flatten
  | 0, acc => by simp
  | m + 1, acc => by
    rw [List.replicate_succ, List.foldl_cons, fold_list a m]
    simp [List.replicate_succ]
/-- a text times a number -/
def rRepS : R2 := fun x y H Q => ∃ z n, x = .str z ∧ y = .int n ∧ 2 ≤ n ∧ n ≤ 1000 ∧ 0 < z.length ∧ z.length ≤ 1000 ∧ Q (.str ⟨((List.replicate n.toNat z.cps.toList).flatten).toArray⟩) H
theorem op_rep_str {X : Cx} : OpR X (binaryOp .Mult) rRepS := by
  intro pins s σ H x y v u Q I rx ry h
  obtain ⟨z, n, rfl, rfl, h1, h2, h3, h4, q⟩ := h
  obtain ⟨t, rfl⟩ := rx
  obtain ⟨t2, rfl⟩ := ry
  have hn1 : ¬ n < 1 := by omega
  have e1 : (n == 1 || z.length == 0) = false := by
    rw [Bool.or_eq_false_iff]
    exact ⟨by simp; omega, by simp; omega⟩
  have hmul : z.length * n.toNat ≤ 1000 * 1000 := Nat.mul_le_mul h4 (by omega)
  have el : (⟨(List.replicate n.toNat z.cps).foldl (· ++ ·) #[]⟩ : Str) = ⟨((List.replicate n.toNat z.cps.toList).flatten).toArray⟩ := by
    have e := fold_list z.cps n.toNat #[]
    simp only [List.nil_append] at e
    rw [← e]
  refine PySem.P.mul_str ?_ (fun _ _ => ?_) (fun _ _ => ?_) ?_
  · rw [Bool.or_eq_false_iff]
    exact ⟨decide_eq_false (by omega), decide_eq_false (by omega)⟩
  · have : (z.length : Int) ≤ 1000 := by omega
    have h5 : (1000 : Int) ≤ (2 ^ 63 - 1) / n := by
      refine (Int.le_ediv_iff_mul_le (by omega)).mpr ?_
      omega
    omega
  · exact decide_eq_false (by rw [sizeLine_eq]; omega)
  · rw [if_neg hn1, e1, if_neg Bool.false_ne_true, el]
    refine ⟨?_, .str _, H, I.tok _, ⟨_, rfl⟩, q⟩
    show (((List.replicate n.toNat z.cps.toList).flatten).toArray).size ≤ sizeLine
    have hz : z.cps.toList.length = z.length := Array.length_toList
    rw [List.size_toArray, List.length_flatten, List.map_replicate, List.sum_replicate_nat, hz, sizeLine_eq]
    rw [Nat.mul_comm] at hmul
    omega
/-! ### lists and texts, no program -/
theorem pigeon {α : Type} [DecidableEq α] : ∀ (l m : List α), l.Nodup → (∀ x ∈ l, x ∈ m) → l.length ≤ m.length
  | [], _, _, _ => Nat.zero_le _
  | a :: l, m, hn, hs => by
    have ha : a ∈ m := hs a (List.mem_cons_self ..)
    have hn' := List.nodup_cons.mp hn
    have h := pigeon l (m.erase a) hn'.2 fun x hx => (List.mem_erase_of_ne (fun (e : x = a) => hn'.1 (e ▸ hx))).mpr (hs x (List.mem_cons_of_mem _ hx))
    have e := List.length_erase_of_mem ha
    have p : 0 < m.length := List.length_pos_of_mem ha
    rw [List.length_cons]
    omega
theorem fresh_of {α : Type} [DecidableEq α] {l m : List α} (hn : l.Nodup) (hl : m.length < l.length) : ∃ x ∈ l, x ∉ m := by
  by_cases h : ∃ x ∈ l, x ∉ m
  · exact h
  · have h' : ∀ x ∈ l, x ∈ m := fun x hx => by
      by_cases hm : x ∈ m
      · exact hm
      · exact absurd ⟨x, hx, hm⟩ h
    exact absurd (pigeon l m hn h') (by omega)
abbrev S (l : List Nat) : Str := ⟨l.toArray⟩
theorem S_len (l : List Nat) : (S l).length = l.length := by simp [S, Str.length]
theorem S_cat (a b : List Nat) : S a ++ S b = S (a ++ b) := SX.S_cat a b
theorem S_inj {a b : List Nat} (h : S a = S b) : a = b := SX.S_inj h
theorem S_cps (l : List Nat) : (S l).cps.toList = l := rfl
/-- small letters -/
def Lows (l : List Nat) : Prop := ∀ c ∈ l, 97 ≤ c ∧ c ≤ 122
/-- a name -/
def Nm (l : List Nat) : Prop := 1 ≤ l.length ∧ l.length ≤ 12 ∧ Lows l
/-- a text that is a name -/
def Low (z : Str) : Prop := ∃ l, z = S l ∧ Nm l
theorem joinL_one (a b c : Nat) : TL.joinL [] [[a]] = [a] ∧ TL.joinL [] [[a], [b]] = [a, b] ∧ TL.joinL [] [[a], [b], [c]] = [a, b, c] := ⟨rfl, rfl, rfl⟩
theorem join_row {l : List Nat} {a b c : Nat} (h : l = [a] ∨ l = [a, b] ∨ l = [a, b, c]) : Txt.join (S []) (l.map fun c => S [c]) = S l := by
  have e : (l.map fun c => S [c]) = (l.map fun c => [c]).map S := by rw [List.map_map]; rfl
  rw [e, SX.join_S]
  rcases h with rfl | rfl | rfl <;> rfl
theorem cut_row (x y z : V) (k : Int) (h1 : 1 ≤ k) (h2 : k ≤ 4) : cutV [x, y, z] none (some k) = [x] ∨ cutV [x, y, z] none (some k) = [x, y] ∨ cutV [x, y, z] none (some k) = [x, y, z] := by
  have : k = 1 ∨ k = 2 ∨ k = 3 ∨ k = 4 := by omega
  rcases this with rfl | rfl | rfl | rfl
  · exact .inl rfl
  · exact .inr (.inl rfl)
  · exact .inr (.inr rfl)
  · exact .inr (.inr rfl)
theorem row_cut (a b c : Nat) (k : Int) (h1 : 1 ≤ k) (h2 : k ≤ 4) : ∃ l : List Nat, (l = [a] ∨ l = [a, b] ∨ l = [a, b, c]) ∧ cutV [.str (S [a]), .str (S [b]), .str (S [c])] none (some k) = (l.map fun c => S [c]).map V.str := by
  rcases cut_row (.str (S [a])) (.str (S [b])) (.str (S [c])) k h1 h2 with e | e | e
  · exact ⟨[a], .inl rfl, e⟩
  · exact ⟨[a, b], .inr (.inl rfl), e⟩
  · exact ⟨[a, b, c], .inr (.inr rfl), e⟩
theorem cutS_to (l : List Nat) (k : Nat) : cutS (S l) none (some (k : Int)) = S (l.take k) := by
  unfold cutS
  rw [S_cps, S_len, HT.sIx_none, HT.sIx_nat]
  show (⟨((l.drop 0).take (min k l.length - 0)).toArray⟩ : Str) = ⟨(l.take k).toArray⟩
  rw [List.drop_zero, Nat.sub_zero]
  congr 2
  by_cases h : k ≤ l.length
  · rw [Nat.min_eq_left h]
  · rw [Nat.min_eq_right (by omega), List.take_of_length_le (by omega), List.take_of_length_le (by omega)]
/-- the name, then its beginning with each of twelve letters -/
def poolOf (l : List Nat) : List Str := S l :: ([97, 98, 99, 100, 101, 102, 103, 104, 105, 106, 107, 108].map fun c => S (l.take 3 ++ [c]))
/-- a drawn name is short, or its first sign comes again -/
def Rep (l : List Nat) : Prop := l.length ≤ 4 ∨ l[0]? = l[3]?
/-- the name that is never drawn -/
def zyS : Str := S [122, 121, 122, 121, 122, 121, 122, 121, 122, 121, 122, 121]
theorem zy_eq : ("zyzyzyzyzyzy" : Str) = zyS := by decide +kernel
def yzS : Str := S [121, 122, 121, 122, 121, 122, 121, 122, 121, 122, 121, 122]
theorem yz_eq : ("yzyzyzyzyzyz" : Str) = yzS := by decide +kernel
def Lz (z : Str) : Prop := Low z ∧ z ≠ zyS ∧ z ≠ yzS
theorem lz_of {l : List Nat} (h : Nm l) (r : Rep l) : Lz (S l) := by
  refine ⟨⟨l, rfl, h⟩, fun e => ?_, fun e => ?_⟩
  · have e := S_inj e
    subst e
    rcases r with r | r
    · exact absurd r (by decide)
    · exact absurd r (by decide)
  · have e := S_inj e
    subst e
    rcases r with r | r
    · exact absurd r (by decide)
    · exact absurd r (by decide)
theorem pool_low {l : List Nat} (h : Nm l) (r : Rep l) : ∀ z ∈ poolOf l, Lz z := by
  intro z hz
  rcases List.mem_cons.mp hz with rfl | hz
  · exact lz_of h r
  · obtain ⟨c, hc, rfl⟩ := List.mem_map.mp hz
    refine lz_of ⟨?_, ?_, ?_⟩ (.inl ?_)
    · rw [List.length_append]
      exact Nat.le_add_left _ _
    · rw [List.length_append, List.length_take]
      show min 3 l.length + 1 ≤ 12
      omega
    · intro d hd
      rcases List.mem_append.mp hd with hd | hd
      · exact h.2.2 d (List.mem_of_mem_take hd)
      · have e : d = c := by simpa using hd
        subst e
        simp only [List.mem_cons, List.not_mem_nil, or_false] at hc
        omega
    · rw [List.length_append, List.length_take]
      show min 3 l.length + 1 ≤ 4
      omega
theorem pool_fresh (l : List Nat) {zs : List Str} (h : zs.length ≤ 11) : ∃ z ∈ poolOf l, z ∉ zs := by
  have hn : ([97, 98, 99, 100, 101, 102, 103, 104, 105, 106, 107, 108].map fun c => S (l.take 3 ++ [c])).Nodup := by
    refine List.Pairwise.map (R := fun a b : Nat => a ≠ b) _ (fun a b hab e => hab ?_) (by decide)
    have e2 := S_inj e
    have e3 := List.append_cancel_left e2
    exact (List.cons.inj e3).1
  obtain ⟨z, hz, hm⟩ := fresh_of (m := zs) hn (by rw [List.length_map]; show zs.length < 12; omega)
  exact ⟨z, List.mem_cons_of_mem _ hz, hm⟩
theorem pool_len (l : List Nat) : (poolOf l).length = 13 := rfl
theorem lows_rep {a b c : Nat} (h : Lows [a, b, c]) : Nm (((List.replicate 4 [a, b, c]).flatten).take 12) := by
  refine ⟨by show 1 ≤ 12; decide, by show 12 ≤ 12; decide, ?_⟩
  intro d hd
  refine h d ?_
  have := List.mem_of_mem_take hd
  obtain ⟨x, hx, hd⟩ := List.mem_flatten.mp this
  rw [(List.mem_replicate.mp hx).2] at hd
  exact hd
theorem sum_ones : ∀ l : List Nat, ((l.map fun c => S [c]).map (·.length)).sum = l.length
  | [] => rfl
  | c :: l => by
    have ih := sum_ones l
    rw [List.map_cons, List.map_cons, List.sum_cons, ih, List.length_cons]
    show 1 + l.length = l.length + 1
    omega
theorem join_size (l : List Nat) (h : l.length ≤ 1000) : ((l.map fun c => S [c]).map (·.length)).sum + (l.map fun c => S [c]).length * (Str.ofString "").length ≤ 16777216 := by
  have e0 : (Str.ofString "").length = 0 := by decide
  rw [sum_ones, e0, Nat.mul_zero]
  omega
theorem nm_size {l : List Nat} (h : Nm l) : (S l).length ≤ sizeLine := by
  rw [S_len]
  exact Nat.le_trans h.2.1 (by decide)
theorem cut_ints (ns : List Int) (lo hi : Option Int) : ∃ ms : List Int, cutV (ns.map V.int) lo hi = ms.map V.int ∧ ms.length ≤ ns.length := by
  refine ⟨(ns.drop (HT.sIx ns.length 0 lo)).take (HT.sIx ns.length ns.length hi - HT.sIx ns.length 0 lo), ?_, ?_⟩
  · unfold cutV
    rw [List.length_map, List.map_take, List.map_drop]
  · rw [List.length_take, List.length_drop]
    omega
theorem ints_at {ns : List Int} {i : Nat} {y : V} (h : (ns.map V.int)[i]? = some y) : ∃ z, ns[i]? = some z ∧ y = V.int z := by
  rw [List.getElem?_map] at h
  cases e : ns[i]? with
  | none =>
    rw [e] at h
    cases h
  | some z =>
    rw [e] at h
    exact ⟨z, rfl, (Option.some.inj h).symm⟩
theorem map_snoc (l : List Int) (z : Int) : l.map V.int ++ [V.int z] = (l ++ [z]).map V.int := by
  rw [List.map_append]
  rfl
theorem Same.new {H H1 : Hp} {p : Addr} {o : HO} (x : Same H H1) (hp : H1 p = none) : Same H (upd H1 p o) := fun a u h => by
  have q := x a u h
  rw [upd_ne (ne_of_none q hp)]
  exact q
theorem Same.set {H H1 : Hp} {D : Addr} {o : HO} (x : Same H H1) (hD : H D = none) : Same H (upd H1 D o) := fun a u h => by
  rw [upd_ne (ne_of_none h hD)]
  exact x a u h
theorem Bag.same {H H' : Hp} {b c : Addr} (h : Bag H b c) (k : Same H H') : Bag H' b c := by
  obtain ⟨n, acc, pos, bs, cells, h1, h2, r⟩ := h
  exact ⟨n, acc, pos, bs, cells, k _ _ h1, k _ _ h2, r⟩
theorem Keep.same {H H1 H2 : Hp} {b : Addr} (x : Keep H H1 b) (k : Same H1 H2) : Keep H H2 b := fun a o h n => k a o (x a o h n)
section
variable {P : Program} {w : World} {K : PySem.W.Frag} {mg : Str → Option Value} {base : Heap}
/-! ### _law_bag -/
abbrev s__law_bag : Stmt := top 41
theorem sc__law_bag : FnScope ["_law_script", "_law_cell", "_law_cells", "_law_base"] ["_law_script"] (defScope s__law_bag) := ⟨rfl, rfl, rfl, by decide +kernel, rfl, by decide +kernel, by decide +kernel⟩
def spBag (K : PySem.W.Frag) : Sp := fun vs H Q _ => ∃ (a : Addr) (ns : List Int), vs = [.ref a] ∧ SqL K H a (ns.map V.int) ∧ ns.length ≤ 63 ∧
  ∀ H' b c, Same H H' → Bag H' b c → Q (.ref b) H'
theorem ok_bag {f : Addr} {fd : FuncData} (F : Fun K "_law_bag" "_law_bag" s__law_bag f fd) (T : Bn mg) : FnOk P w K mg base CX0 1 f fd ["_law_script"] (spBag K) := by
  refine F.ok sc__law_bag (fun vs H Q E h => ?_) (fun cdv A outer s H vs Q E hr h => ?_)
  · obtain ⟨a, ns, rfl, _⟩ := h
    rfl
  · obtain ⟨a, ns, rfl, hS, hl, k⟩ := h
    refine ⟨_, (pss_cons (ps_setLc (i := 2) (own := [("_law_cell", 1)]) (g := gName 1) (tt := tYes) rfl sc__law_bag.nd rfl rfl (sw_true rfl rfl rfl (by decide +kernel)) (pi_list (pe_slice sl_list (pv 0) po_none (po_some pe_int))) (blkOk_by (own := [("_law_cell", 1)]) (N := ["_law_script", "_law_cell", "_law_cells", "_law_base"]) (sc := defScope s__law_bag) (by decide +kernel)) (fun _ _ _ _ _ => pg_name (i := 1) sc__law_bag.nd rfl (by first | exact Or.inl rfl | exact Or.inr rfl)) (fun _ _ _ _ _ => pts_nil) (fun _ _ _ _ _ => (pe_callB call_abs (by rfl) T.b_abs (by decide +kernel) (pa_cons (pe_callTy call_int1 (by rfl) T.b_int (by decide +kernel) (pa_cons (pv 1) pa_nil)) pa_nil))))
      (pss_cons (ps_set (i := 3) sc__law_bag.nd rfl (by first | exact Or.inl rfl | exact Or.inr rfl) pe_int)
      (pss_cons (ps_for PassesOwn.never rfl (pi_list (pv 2)) (pg_name (i := 1) sc__law_bag.nd rfl (by first | exact Or.inl rfl | exact Or.inr rfl)) (pss_one (ps_set (i := 3) sc__law_bag.nd rfl (by first | exact Or.inl rfl | exact Or.inr rfl) (pe_op op_mod (pe_callTy call_int1 (by rfl) T.b_int (by decide +kernel) (pa_cons (pe_op op_add (pe_op op_mul (pv 3) pe_int) (pv 1)) pa_nil)) pe_int))))
      (pss_one (ps_ret (pe_lst (pa_cons pe_int (pa_cons pe_int (pa_cons pe_int (pa_cons (pv 3) (pa_cons (pv 2) pa_nil))))))))))), ?_⟩
    walk_at "rd"
    refine ⟨a, _, rfl, hS, fun p np => ?_⟩
    refine ⟨_, rfl, ⟨_, SqL.of upd_same⟩, fun D nD => ?_⟩
    obtain ⟨ms, em, hml⟩ := cut_ints ns none (some 63)
    rw [em] at nD ⊢
    have npD : p ≠ D := fun z => by
      rw [← z, upd_same] at nD
      cases nD
    have nD0 : H D = none := by
      rw [upd_ne npD.symm] at nD
      exact nD
    refine lc_list (K := K) (a := p) (xs := ms.map V.int) (fun i H' => ∃ acc : List Int, H' D = some (.lst (acc.map V.int)) ∧ acc.length = i ∧ (∀ x ∈ acc, 0 ≤ x) ∧ H' p = some (.lst (ms.map V.int)) ∧ Same H H' ∧ ∀ b, H' b = none → H b = none) ?_ ?_ ?_ ?_
    · refine ⟨[], upd_same, rfl, (fun _ z => nomatch z), ?_, ?_, ?_⟩
      · rw [upd_ne npD]
        exact upd_same
      · exact Same.new (Same.new (Same.refl H) np) nD
      · intro b hb
        exact (Same.new (Same.new (Same.refl H) np) nD).free hb
    · rintro i H' _ ⟨acc, _, _, _, h, _⟩
      exact SqL.of h
    · rintro i x H' hi ⟨acc, hD, hl', hpos, hp', hs, hf⟩
      obtain ⟨z, hz, rfl⟩ := ints_at hi
      have hi63 : i < ms.length := (List.getElem?_eq_some_iff.mp hz).1
      refine ⟨rfl, ?_⟩
      walk_at "rd"
      have hDp : p ≠ D := npD
      refine ⟨_, hD, ?_, acc ++ [if z < 0 then -z else z], ?_, ?_, ?_, ?_, ?_, ?_⟩
      · rw [List.length_map, hl']
        exact small1000 (by omega)
      · rw [upd_same, map_snoc]
      · rw [List.length_append, hl']
        rfl
      · intro x hx
        rcases List.mem_append.mp hx with h | h
        · exact hpos x h
        · have e : x = (if z < 0 then -z else z) := by simpa using h
          rw [e]
          split <;> omega
      · rw [upd_ne npD]
        exact hp'
      · intro b o e
        rw [upd_ne (fun z => by rw [z, nD0] at e; cases e)]
        exact hs b o e
      · intro b hb
        by_cases hbD : b = D
        · rw [hbD]
          exact nD0
        · rw [upd_ne hbD] at hb
          exact hf b hb
    · rintro H' ⟨acc, hD, hl', hpos, hp', hs, hf⟩
      rw [List.length_map] at hl'
      walk_at "rd"
      refine ⟨⟨_, SqL.of hD⟩, ?_⟩
      refine for_list (K := K) (a := D) (xs := acc.map V.int) (fun i σ H2 => H2 = H' ∧ ∃ (v : Option V) (bs : Int), σ = [some (.ref a), v, some (.ref D), some (.int bs)] ∧ 0 ≤ bs ∧ bs < 2147483647)
        ⟨rfl, none, 0, rfl, by decide, by decide⟩ (fun i σ H2 _ e => by rw [e.1]; exact SqL.of hD) ?_ ?_
      · rintro i y σ H2 hi ⟨rfl, v, bs, rfl, h0, h1⟩
        obtain ⟨z, hz, rfl⟩ := ints_at hi
        walk_at "rd"
        exact ⟨Int.emod_nonneg _ (by decide), Int.emod_lt_of_pos _ (by decide)⟩
      · rintro σ H2 ⟨rfl, v, bs, rfl, h0, h1⟩
        walk_at "rd"
        refine ⟨by show 5 ≤ sizeLine; decide, fun q hq => ?_⟩
        refine k _ q D (Same.new hs hq) ⟨0, 0, 0, bs, acc, upd_same, ?_, ?_, by decide, by decide, h0, h1, hpos, by omega⟩
        · rw [upd_ne (ne_of_none hD hq)]
          exact hD
        · exact (ne_of_none hD hq).symm
/-! ### _law_mixed -/
abbrev s__law_mixed : Stmt := top 42
theorem sc__law_mixed : FnScope ["_law_cell", "_law_turn", "_law_number"] ["_law_cell", "_law_turn"] (defScope s__law_mixed) := ⟨rfl, rfl, rfl, by decide +kernel, rfl, by decide +kernel, by decide +kernel⟩
def spMixed : Sp := fun vs H Q _ => ∃ x t : Int, vs = [.int x, .int t] ∧ 0 ≤ x ∧ x < 2 ^ 64 ∧ ∀ r : Int, 0 ≤ r → Q (.int r) H
theorem ok_mixed {f : Addr} {fd : FuncData} (F : Fun K "_law_mixed" "_law_mixed" s__law_mixed f fd) (T : Bn mg) : FnOk P w K mg base CX0 1 f fd ["_law_cell", "_law_turn"] spMixed := by
  refine F.ok sc__law_mixed (fun vs H Q E h => ?_) (fun cdv A outer s H vs Q E hr h => ?_)
  · obtain ⟨x, t, rfl, _⟩ := h
    rfl
  · obtain ⟨x, t, rfl, h0, h1, k⟩ := h
    refine ⟨_, (pss_cons (ps_set (i := 2) sc__law_mixed.nd rfl (by first | exact Or.inl rfl | exact Or.inr rfl) (pe_op op_mod (pe_callTy call_int1 (by rfl) T.b_int (by decide +kernel) (pa_cons (pe_op op_mul (pv 0) (pe_op op_add (pe_op op_mul pe_int (pv 1)) pe_int)) pa_nil)) pe_int))
      (pss_cons (ps_set (i := 2) sc__law_mixed.nd rfl (by first | exact Or.inl rfl | exact Or.inr rfl) (pe_op op_mod (pe_callTy call_int1 (by rfl) T.b_int (by decide +kernel) (pa_cons (pe_op op_add (pe_op op_mul (pv 2) pe_int) (pe_op op_fdiv (pv 2) pe_int)) pa_nil)) pe_int))
      (pss_one (ps_ret (pe_op op_fdiv (pv 2) pe_int))))), ?_⟩
    walk_at "rd"
    exact k _ (Int.ediv_nonneg (Int.emod_nonneg _ (by decide)) (by decide))
/-! ### _law_take -/
abbrev s__law_take : Stmt := top 43
theorem sc__law_take : FnScope ["_law_bag_here", "_law_many", "_law_cell", "_law_digit"] ["_law_bag_here", "_law_many"] (defScope s__law_take) := ⟨rfl, rfl, rfl, by decide +kernel, rfl, by decide +kernel, by decide +kernel⟩
def spTake : Sp := fun vs H Q _ => ∃ (b c : Addr) (m : Int), vs = [.ref b, .int m] ∧ Bag H b c ∧ m < 2 ^ 200 ∧
  ∀ (r : Int) H', Bag H' b c → Keep H H' b → 0 ≤ r → r < max 1 m → Q (.int r) H'
theorem ok_take {f : Addr} {fd : FuncData} (F : Fun K "_law_take" "_law_take" s__law_take f fd) (T : Bn mg) (c__law_mixed : C8.Cal P w K mg base 1 "_law_mixed" spMixed []) : FnOk P w K mg base CX0 2 f fd ["_law_bag_here", "_law_many"] spTake := by
  refine F.ok sc__law_take (fun vs H Q E h => ?_) (fun cdv A outer s H vs Q E hr h => ?_)
  · obtain ⟨b, c, m, rfl, _⟩ := h
    rfl
  · obtain ⟨b, c, m, rfl, hb, hm, k⟩ := h
    refine ⟨_, (pss_cons (ps_set (i := 1) sc__law_take.nd rfl (by first | exact Or.inl rfl | exact Or.inr rfl) (pe_callB (call_max2 rfl) (by rfl) T.b_max (by decide +kernel) (pa_cons pe_int (pa_cons (pv 1) pa_nil))))
      (pss_cons (ps_asg (pe_op op_add (pe_ix ix_list (pv 0) pe_int (fun _ _ => rfl)) pe_int) (pg_sub (pv 0) pe_int set_list))
      (pss_cons (ps_if (PW.pt (pw_and (pt_cmpR op_lt (pe_ix ix_list (pv 0) pe_int (fun _ _ => rfl)) (pv 1) (nomark _)) (pw_and1 (pt_cmpR op_lt (pe_ix ix_list (pv 0) pe_int (fun _ _ => rfl)) (pe_callB call_len (by rfl) T.b_len PySem.boot_len (pa_cons (pe_ix ix_list (pv 0) pe_int (fun _ _ => rfl)) pa_nil)) (nomark _))))) (pss_cons (ps_set (i := 2) sc__law_take.nd rfl (by first | exact Or.inl rfl | exact Or.inr rfl) (pe_ix ix_list (pe_ix ix_list (pv 0) pe_int (fun _ _ => rfl)) (pe_ix ix_list (pv 0) pe_int (fun _ _ => rfl)) (fun _ _ => rfl)))
      (pss_cons (ps_asg (pe_op op_add (pe_ix ix_list (pv 0) pe_int (fun _ _ => rfl)) pe_int) (pg_sub (pv 0) pe_int set_list))
      (pss_cons (ps_if (pt_cmpR op_lt (pv 2) (pe_op op_pow pe_int pe_int) (nomark _)) (pss_one (ps_ret (pe_op op_mod (pe_callTy call_int1 (by rfl) T.b_int (by decide +kernel) (pa_cons (C8.pe_c c__law_mixed hr (by decide) rfl (pa_cons (pv 2) (pa_cons (pe_ix ix_list (pv 0) pe_int (fun _ _ => rfl)) pa_nil))) pa_nil)) (pv 1)))) pss_nil)
      (pss_one (ps_asg (pv 2) (pg_sub (pv 0) pe_int set_list)))))) pss_nil)
      (pss_cons (ps_if (pt_cmpR op_ge (pe_ix ix_list (pv 0) pe_int (fun _ _ => rfl)) (pv 1) (nomark _)) (pss_cons (ps_set (i := 3) sc__law_take.nd rfl (by first | exact Or.inl rfl | exact Or.inr rfl) (pe_op op_mod (pe_callTy call_int1 (by rfl) T.b_int (by decide +kernel) (pa_cons (pe_ix ix_list (pv 0) pe_int (fun _ _ => rfl)) pa_nil)) (pv 1)))
      (pss_cons (ps_asg (pe_op op_fdivW (pe_ix ix_list (pv 0) pe_int (fun _ _ => rfl)) (pv 1)) (pg_sub (pv 0) pe_int set_list))
      (pss_one (ps_ret (pv 3))))) pss_nil)
      (pss_one (ps_ret (pe_op op_mod (pe_callTy call_int1 (by rfl) T.b_int (by decide +kernel) (pa_cons (C8.pe_c c__law_mixed hr (by decide) rfl (pa_cons (pe_ix ix_list (pv 0) pe_int (fun _ _ => rfl)) (pa_cons (pe_ix ix_list (pv 0) pe_int (fun _ _ => rfl)) pa_nil))) pa_nil)) (pv 1)))))))), ?_⟩
    obtain ⟨n, acc, pos, bs, cells, h1, h2, hbc, ha, hp, hbs, hbs2, hcs, hl⟩ := hb
    have hcb : c ≠ b := hbc.symm
    have kk : ∀ (r n' acc' pos' : Int) (H' : Hp), H' b = some (.lst [.int n', .int acc', .int pos', .int bs, .ref c]) → Keep H H' b → 0 ≤ acc' → 0 ≤ pos' → 0 ≤ r → r < max 1 m → Q (.int r) H' :=
      fun r n' acc' pos' H' e kp e1 e2 e3 e4 => k r H' ⟨n', acc', pos', bs, cells, e, kp _ _ h2 hcb, hbc, e1, e2, hbs, hbs2, hcs, hl⟩ kp e3 e4
    walk_at "rd"
    have hM1 : (if m > 1 then m else 1) = max 1 m := by omega
    rw [hM1]
    have hMa : 1 ≤ max 1 m := by omega
    have hMb : (max 1 m).natAbs.log2 < 9000 := Nat.lt_of_lt_of_le (PySem.Flt.log2_lt_of (show 0 < 200 by decide) (show (max 1 m).natAbs < 2 ^ 200 by omega)) (show 200 ≤ 9000 by decide)
    generalize max 1 m = M at *
    have kp0 : ∀ l : List V, Keep H (upd H b (.lst l)) b := fun l => (Keep.refl H b).upd
    have tail1 : ∀ (r n' acc' pos' : Int) (H' : Hp), H' b = some (.lst [.int n', .int acc', .int pos', .int bs, .ref c]) → Keep H H' b → 0 ≤ acc' → 0 ≤ pos' → 0 ≤ r → Q (.int (r % M)) H' :=
      fun r n' acc' pos' H' e kp e1 e2 e3 => kk _ n' acc' pos' H' e kp e1 e2 (Int.emod_nonneg _ (by omega)) (Int.emod_lt_of_pos _ (by omega))
    refine ite2 (fun c1 => ?_) (fun c1 => ?_)
    · walk_at "rd"
      refine ⟨_, _, rfl, .inl ⟨_, SqL.of (by walk_at "hp"), rfl⟩, ?_⟩
      walk_at "rd"
      refine ite2 (fun c2 => ?_) (fun c2 => ?_)
      · have c2' := of_decide_eq_true c2
        rw [List.length_map] at c2'
        obtain ⟨x, hx⟩ : ∃ x, cells[pos.toNat]? = some x := ⟨_, List.getElem?_eq_getElem (by omega)⟩
        have hx0 : 0 ≤ x := hcs x (List.mem_of_getElem? hx)
        have hat : atI (cells.map V.int) pos = some (V.int x) := at_of (j := pos.toNat) (by omega) (by rw [List.getElem?_map, hx]; rfl)
        walk_at "rd"
        refine ite2 (fun c3 => ?_) (fun c3 => ?_)
        · have c3' : x < 10 ^ (18 : Int).toNat := of_decide_eq_true c3
          have c3'' : x < 1000000000000000000 := c3'
          walk_at "rd"
          refine ⟨hx0, by omega, fun r hr0 => ?_⟩
          walk_at "rd"
          exact tail1 r _ _ _ _ upd_same (Keep.refl H b).upd.upd ha (by omega) hr0
        · walk_at "rd"
          refine ite2 (fun c4 => ?_) (fun c4 => ?_)
          · walk_at "rd"
            exact tail1 x _ _ _ _ upd_same (Keep.refl H b).upd.upd.upd.upd (Int.ediv_nonneg hx0 (by omega)) (by omega) hx0
          · walk_at "rd"
            refine ⟨hbs, by omega, fun r hr0 => ?_⟩
            walk_at "rd"
            exact tail1 r _ _ _ _ (by walk_at "hp") (Keep.refl H b).upd.upd.upd hx0 (by omega) hr0
      · walk_at "rd"
        refine ite2 (fun c4 => ?_) (fun c4 => ?_)
        · walk_at "rd"
          exact tail1 acc _ _ _ _ upd_same (Keep.refl H b).upd.upd (Int.ediv_nonneg ha (by omega)) hp ha
        · walk_at "rd"
          refine ⟨hbs, by omega, fun r hr0 => ?_⟩
          walk_at "rd"
          exact tail1 r _ _ _ _ (by walk_at "hp") (Keep.refl H b).upd ha hp hr0
    · walk_at "rd"
      refine ite2 (fun c4 => ?_) (fun c4 => ?_)
      · walk_at "rd"
        exact tail1 acc _ _ _ _ upd_same (Keep.refl H b).upd.upd (Int.ediv_nonneg ha (by omega)) hp ha
      · walk_at "rd"
        refine ⟨hbs, by omega, fun r hr0 => ?_⟩
        walk_at "rd"
        exact tail1 r _ _ _ _ (by walk_at "hp") (Keep.refl H b).upd ha hp hr0
--#ty _law_name _law_letters=s _law_row=l _law_names=l _law_name_here=s _law_pool=l _law_letter=s _law_one=s
--#ty _law_name _law_row_here=l _law_names_here=l
--#ret _law_take i
--#ret _law_name s
--#cut _law_name 4
/-! ### _law_name -/
theorem letters_at : ∀ n : Nat, n < 26 → atI (("qwertyuiopasdfghjklzxcvbnm" : Str).cps.toList) (n : Int) = some (("qwertyuiopasdfghjklzxcvbnm" : Str).cps.toList.getD n 0) ∧ 97 ≤ ("qwertyuiopasdfghjklzxcvbnm" : Str).cps.toList.getD n 0 ∧ ("qwertyuiopasdfghjklzxcvbnm" : Str).cps.toList.getD n 0 ≤ 122 := by decide +kernel
theorem letter_at (i : Int) (h0 : 0 ≤ i) (h1 : i < 26) : ∃ c, atI (("qwertyuiopasdfghjklzxcvbnm" : Str).cps.toList) i = some c ∧ 97 ≤ c ∧ c ≤ 122 := by
  obtain ⟨n, rfl⟩ := Int.eq_ofNat_of_zero_le h0
  exact ⟨_, letters_at n (by omega)⟩
theorem strs_ne_bag {zs : List Str} {n acc pos bs : Int} {c : Addr} : HO.lst (zs.map V.str) ≠ HO.lst [.int n, .int acc, .int pos, .int bs, .ref c] := by
  intro e
  have e := HO.lst.inj e
  cases zs with
  | nil => cases e
  | cons z zs =>
    have := (List.cons.inj e).1
    cases this
theorem Bag.new {H : Hp} {b c p : Addr} {o : HO} (h : Bag H b c) (hp : H p = none) : Bag (upd H p o) b c := by
  obtain ⟨n, acc, pos, bs, cells, h1, h2, r⟩ := h
  exact ⟨n, acc, pos, bs, cells, (upd_ne (ne_of_none h1 hp)).trans h1, (upd_ne (ne_of_none h2 hp)).trans h2, r⟩
theorem inV_strs (z : Str) : ∀ zs : List Str, inV (.str z) (zs.map V.str) = decide (z ∈ zs)
  | [] => rfl
  | y :: zs => by
    have ih := inV_strs z zs
    unfold inV at ih ⊢
    rw [List.map_cons, List.any_cons, ih]
    show ((y == z) || decide (z ∈ zs)) = decide (z ∈ y :: zs)
    by_cases h : y = z
    · subst h
      simp
    · have h2 : (y == z) = false := by simpa using h
      have h3 : ¬ z = y := fun e => h e.symm
      simp [h2, h3]
theorem strs_flat (zs : List Str) : (zs.map V.str).all flatV = true := by
  rw [List.all_map, List.all_eq_true]
  intro _ _
  rfl
theorem take_snoc {α : Type} {l : List α} {i : Nat} {x : α} (h : l[i]? = some x) : l.take (i + 1) = l.take i ++ [x] := by
  rw [List.take_add_one, h]
  rfl
theorem strs_at {zs : List Str} {i : Nat} {y : V} (h : (zs.map V.str)[i]? = some y) : ∃ z, zs[i]? = some z ∧ y = V.str z := by
  rw [List.getElem?_map] at h
  cases e : zs[i]? with
  | none =>
    rw [e] at h
    cases h
  | some z =>
    rw [e] at h
    exact ⟨z, rfl, (Option.some.inj h).symm⟩
abbrev s__law_name : Stmt := top 44
theorem sc__law_name : FnScope ["_law_bag_here", "_law_names_here", "_law_letters", "_law_number", "_law_row", "_law_name_here", "_law_pool", "_law_letter", "_law_one"] ["_law_bag_here", "_law_names_here"] (defScope s__law_name) := ⟨rfl, rfl, rfl, by decide +kernel, rfl, by decide +kernel, by decide +kernel⟩
def spName : Sp := fun vs H Q _ => ∃ (b c q : Addr) (zs : List Str), vs = [.ref b, .ref q] ∧ Bag H b c ∧ H q = some (.lst (zs.map V.str)) ∧ zs.length ≤ 11 ∧
  ∀ (z : Str) H', Bag H' b c → Keep H H' b → Lz z → z ∉ zs → Q (.str z) H'
theorem ok_name {f : Addr} {fd : FuncData} (F : Fun K "_law_name" "_law_name" s__law_name f fd) (T : Bn mg) (c__law_take : C8.Cal P w K mg base 2 "_law_take" spTake []) : FnOk P w K mg base CX0 3 f fd ["_law_bag_here", "_law_names_here"] spName := by
  refine F.ok sc__law_name (fun vs H Q E h => ?_) (fun cdv A outer s H vs Q E hr h => ?_)
  · obtain ⟨b, c, q, zs, rfl, _⟩ := h
    rfl
  · obtain ⟨b, c, q, zs, rfl, hb, hq, hz, k⟩ := h
    have hqb : q ≠ b := by
      obtain ⟨n, acc, pos, bs, cells, h1, _⟩ := hb
      exact ne_of hq h1 strs_ne_bag
    refine ⟨_, (pss_cons (ps_set (i := 2) sc__law_name.nd rfl (by first | exact Or.inl rfl | exact Or.inr rfl) pe_str)
      (pss_cons (ps_set (i := 3) sc__law_name.nd rfl (by first | exact Or.inl rfl | exact Or.inr rfl) (C8.pe_c c__law_take hr (by decide) rfl (pa_cons (pv 0) (pa_cons (pe_op op_mul (pe_op op_mul (pe_op op_mul pe_int pe_int) pe_int) pe_int) pa_nil))))
      (pss_cons (ps_set (i := 4) sc__law_name.nd rfl (by first | exact Or.inl rfl | exact Or.inr rfl) (pe_lst (pa_cons (pe_ix ix_str (pv 2) (pe_op op_mod (pe_callTy call_int1 (by rfl) T.b_int (by decide +kernel) (pa_cons (pe_op op_fdiv (pv 3) pe_int) pa_nil)) pe_int) (fun _ _ => rfl)) (pa_cons (pe_ix ix_str (pv 2) (pe_op op_mod (pe_callTy call_int1 (by rfl) T.b_int (by decide +kernel) (pa_cons (pe_op op_fdiv (pv 3) pe_int) pa_nil)) pe_int) (fun _ _ => rfl)) (pa_cons (pe_ix ix_str (pv 2) (pe_op op_mod (pe_callTy call_int1 (by rfl) T.b_int (by decide +kernel) (pa_cons (pe_op op_fdiv (pv 3) pe_int) pa_nil)) pe_int) (fun _ _ => rfl)) pa_nil)))))
      (pss_cons (ps_set (i := 5) sc__law_name.nd rfl (by first | exact Or.inl rfl | exact Or.inr rfl) (pe_join pe_str (pe_slice sl_list (pv 4) po_none (po_some (pe_op op_add pe_int (pe_op op_mod (pe_callTy call_int1 (by rfl) T.b_int (by decide +kernel) (pa_cons (pv 3) pa_nil)) pe_int))))))
      (C8.pss_cut (ps_if (pt_cmpR op_eq (pe_op op_mod (pe_callTy call_int1 (by rfl) T.b_int (by decide +kernel) (pa_cons (pv 3) pa_nil)) pe_int) pe_int (nomark _)) (pss_one (ps_set (i := 5) sc__law_name.nd rfl (by first | exact Or.inl rfl | exact Or.inr rfl) (pe_slice sl_str (pe_op op_rep_str (pe_join pe_str (pv 4)) pe_int) po_none (po_some pe_int)))) pss_nil)
      (pss_cons (ps_set (i := 6) sc__law_name.nd rfl (by first | exact Or.inl rfl | exact Or.inr rfl) (pe_op op_cat (pe_lst (pa_cons (pv 5) pa_nil)) (pe_lc (own := [("_law_letter", 7)]) (g := gName 7) (tt := tYes) rfl sc__law_name.nd (pi_str pe_str) (blkOk_by (own := [("_law_letter", 7)]) (N := ["_law_bag_here", "_law_names_here", "_law_letters", "_law_number", "_law_row", "_law_name_here", "_law_pool", "_law_letter", "_law_one"]) (sc := defScope s__law_name) (by decide +kernel)) (fun _ _ _ _ _ => pg_name (i := 7) sc__law_name.nd rfl (by first | exact Or.inl rfl | exact Or.inr rfl)) (fun _ _ _ _ _ => pts_nil) (fun _ _ _ _ _ => (pe_op op_add_str (pe_slice sl_str (pv 5) po_none (po_some pe_int)) (pv 7))))))
      (pss_one (ps_ret (pe_ix ix_list (pe_lc (own := [("_law_one", 8)]) (g := gName 8) rfl sc__law_name.nd (pi_list (pv 6)) (blkOk_by (own := [("_law_one", 8)]) (N := ["_law_bag_here", "_law_names_here", "_law_letters", "_law_number", "_law_row", "_law_name_here", "_law_pool", "_law_letter", "_law_one"]) (sc := defScope s__law_name) (by decide +kernel)) (fun _ _ _ _ _ => pg_name (i := 8) sc__law_name.nd rfl (by first | exact Or.inl rfl | exact Or.inr rfl)) (fun _ _ _ _ _ => pts_one (pt_cmpR (show OpR _ (compareOp .NotIn) (rIn K true) from op_notIn_seq) (pv 8) (pv 1) (by rfl))) (fun _ _ _ _ _ => (pv 8))) pe_int (fun _ _ => rfl)))))))))), ?_⟩
    walk_at "rd"
    refine ⟨b, c, _, rfl, hb, by decide, fun r H1 hb1 hk1 h0 h1 => ?_⟩
    walk_at "rd"
    obtain ⟨c1, e1, l1, u1⟩ := letter_at ((r / 8) % 26) (by omega) (by omega)
    obtain ⟨c2, e2, l2, u2⟩ := letter_at ((r / 208) % 26) (by omega) (by omega)
    obtain ⟨c3, e3, l3, u3⟩ := letter_at ((r / 5408) % 26) (by omega) (by omega)
    have hlow : Lows [c1, c2, c3] := by
      intro d hd
      simp only [List.mem_cons, List.not_mem_nil, or_false] at hd
      rcases hd with rfl | rfl | rfl
      · exact ⟨l1, u1⟩
      · exact ⟨l2, u2⟩
      · exact ⟨l3, u3⟩
    refine ⟨_, _, c1, rfl, rfl, by decide, e1, ?_⟩
    walk_at "rd"
    refine ⟨_, _, c2, rfl, rfl, by decide, e2, ?_⟩
    walk_at "rd"
    refine ⟨_, _, c3, rfl, rfl, by decide, e3, ?_⟩
    refine ⟨by show 3 ≤ sizeLine; decide, fun p np => ?_⟩
    walk_at "rd"
    have hpb : b ≠ p := by
      obtain ⟨n, acc, pos, bs, cells, h1, _⟩ := hb1
      exact ne_of_none h1 np
    refine ⟨⟨_, rfl⟩, ?_⟩
    walk_at "rd"
    obtain ⟨l, hl3, el⟩ := row_cut c1 c2 c3 (1 + r % 4) (by omega) (by omega)
    refine ⟨_, _, rfl, SqL.of upd_same, fun p2 np2 => ?_⟩
    have es : SqL K (upd (upd H1 p (.lst [.str (S [c1]), .str (S [c2]), .str (S [c3])])) p2 (.lst (cutV [.str (S [c1]), .str (S [c2]), .str (S [c3])] none (some (1 + r % 4))))) p2 ((l.map fun c => S [c]).map V.str) := by
      rw [← el]
      exact SqL.of upd_same
    have hsz : ((l.map fun c => S [c]).map (·.length)).sum + (l.map fun c => S [c]).length * (Str.ofString "").length ≤ 16777216 := by
      refine join_size l ?_
      rcases hl3 with rfl | rfl | rfl <;> simp
    refine ⟨_, p2, l.map fun c => S [c], rfl, rfl, .inl es, hsz, ?_⟩
    rw [show Txt.join (Str.ofString "") (l.map fun c => S [c]) = S l from join_row hl3]
    have hnm : Nm l := by
      rcases hl3 with rfl | rfl | rfl
      · exact ⟨by simp, by simp, fun d hd => hlow d (by simp at hd; simp [hd])⟩
      · exact ⟨by simp, by simp, fun d hd => hlow d (by simp at hd; rcases hd with rfl | rfl <;> simp)⟩
      · exact ⟨by simp, by simp, hlow⟩
    have hk3 := fun o => (hk1.new np).new (o := o) np2
    have hb3 := fun o => (hb1.new np).new (o := o) np2
    refine ⟨fun σ' H' => ∃ l : List Nat, Nm l ∧ Rep l ∧ σ' = [some (.ref b), some (.ref q), some (.str "qwertyuiopasdfghjklzxcvbnm"), some (.int r), some (.ref p), some (.str (S l)), none, none, none] ∧ Bag H' b c ∧ Keep H H' b, ?_, ?_⟩
    · walk_at "rd"
      refine ite2 (fun c => ?_) (fun c => ?_)
      · walk_at "rd"
        refine ⟨⟨_, rfl⟩, ?_⟩
        walk_at "rd"
        refine ⟨_, p, [S [c1], S [c2], S [c3]], rfl, rfl, .inl (SqL.of ?_), join_size [c1, c2, c3] (by simp), ?_⟩
        · rw [upd_ne (fun z => by rw [z] at np2; rw [← z, upd_same] at np2; cases np2)]
          exact upd_same
        rw [show Txt.join (Str.ofString "") [S [c1], S [c2], S [c3]] = S [c1, c2, c3] from join_row (a := c1) (b := c2) (c := c3) (.inr (.inr rfl))]
        walk_at "rd"
        refine ⟨by decide, by decide, by show (0 : Nat) < 3; decide, by show (3 : Nat) ≤ 1000; decide, ?_⟩
        walk_at "rd"
        refine ⟨by show (12 : Nat) ≤ sizeLine; decide, ?_⟩
        refine ⟨_, lows_rep hlow, .inr rfl, ?_, hb3 _, hk3 _⟩
        rw [← show cutS (S ((List.replicate 4 [c1, c2, c3]).flatten)) none (some ((12 : Nat) : Int)) = S (((List.replicate 4 [c1, c2, c3]).flatten).take 12) from cutS_to _ 12]
        rfl
      · exact ⟨l, hnm, .inl (by rcases hl3 with rfl | rfl | rfl <;> simp), rfl, hb3 _, hk3 _⟩
    · rintro σ' H2 ⟨l, hl, hrp, rfl, hb2, hk2⟩
      walk_at "rd"
      refine ⟨by show 1 ≤ sizeLine; decide, fun p1 np1 => ?_⟩
      refine ⟨_, rfl, fun D nD => ?_⟩
      have hp1D : p1 ≠ D := ne_of_none (o := .lst [.str (S l)]) upd_same nD
      have hab : ("abcdefghijkl" : Str) = S [97, 98, 99, 100, 101, 102, 103, 104, 105, 106, 107, 108] := by decide +kernel
      rw [hab]
      let H3 := upd H2 p1 (.lst [.str (S l)])
      have nD3 : H3 D = none := nD
      refine lc_it walk_str (fun i H' => H' D = some (.lst ((([97, 98, 99, 100, 101, 102, 103, 104, 105, 106, 107, 108].take i).map fun c => S (l.take 3 ++ [c])).map V.str)) ∧ Same H3 H') ?_ (fun _ _ _ _ => trivial) ?_ ?_
      · exact ⟨upd_same, Same.set (Same.refl H3) nD3⟩
      · rintro i x H' H'' hi ⟨hD, hs⟩ ⟨rfl, c, hc, rfl⟩
        walk_at "rd"
        refine ⟨nm_size hl, ?_⟩
        walk_at "rd"
        rw [show cutS (S l) none (some (3 : Int)) = S (l.take 3) from cutS_to l 3]
        have hi12 : i < 12 := hi
        have hc' : ([97, 98, 99, 100, 101, 102, 103, 104, 105, 106, 107, 108] : List Nat)[i]? = some c := by
          rw [← Array.getElem?_toList] at hc
          exact hc
        refine ⟨?_, _, hD, ?_, ?_, Same.set hs nD3⟩
        · have e1 : (S (l.take 3)).length ≤ 3 := by
            rw [S_len, List.length_take]
            omega
          have e2 : (⟨#[c]⟩ : Str).length = 1 := rfl
          rw [e2, sizeLine_eq]
          omega
        · rw [List.length_map, List.length_map, List.length_take]
          exact small1000 (by omega)
        · rw [upd_same, take_snoc hc', List.map_append, List.map_append]
          show some (HO.lst (_ ++ [V.str (S (l.take 3) ++ S [c])])) = some (HO.lst (_ ++ [V.str (S (l.take 3 ++ [c]))]))
          rw [S_cat]
      · rintro H' ⟨hD, hs⟩
        have hp1 : H' p1 = some (.lst [.str (S l)]) := hs _ _ upd_same
        refine ⟨_, _, _, _, rfl, rfl, hp1, hD, by show 1 + 12 ≤ sizeLine; decide, fun p3 np3 => ?_⟩
        have hb' : Bag H' b c := (hb2.new np1).same hs
        have hk' : Keep H H' b := (hk2.new np1).same hs
        walk_at "rd"
        refine ⟨⟨_, SqL.of upd_same⟩, fun D2 nD2 => ?_⟩
        let H4 := upd H' p3 (.lst ((poolOf l).map V.str))
        have hq4 : H4 q = some (.lst (zs.map V.str)) := by
          have e : H' q = some (.lst (zs.map V.str)) := hk' q _ hq hqb
          exact (upd_ne (ne_of_none e np3)).trans e
        have hb4 : Bag H4 b c := hb'.new np3
        have hk4 : Keep H H4 b := hk'.new np3
        have nD4 : H4 D2 = none := nD2
        have hp4 : H4 p3 = some (.lst ((poolOf l).map V.str)) := upd_same
        refine lc_list (K := K) (a := p3) (xs := (poolOf l).map V.str) (fun i H5 => H5 D2 = some (.lst ((((poolOf l).take i).filter fun z => !decide (z ∈ zs)).map V.str)) ∧ Same H4 H5) ?_ ?_ ?_ ?_
        · exact ⟨upd_same, Same.set (Same.refl H4) nD4⟩
        · rintro i H5 _ ⟨_, hs5⟩
          exact SqL.of (hs5 _ _ hp4)
        · rintro i x H5 hi ⟨hD5, hs5⟩
          obtain ⟨z, hz', rfl⟩ := strs_at hi
          refine ⟨rfl, ?_⟩
          walk_at "rd"
          refine ⟨_, _, rfl, .inl (SqL.of (hs5 _ _ hq4)), rfl, strs_flat zs, ?_⟩
          rw [inV_strs]
          walk_at "rd"
          have hlen : (((poolOf l).take i).filter fun z => !decide (z ∈ zs)).length ≤ 13 := by
            refine Nat.le_trans (List.length_filter_le _ _) ?_
            rw [List.length_take, pool_len]
            omega
          refine ite2 (fun c => ?_) (fun c => ?_)
          · walk_at "rd"
            refine ⟨_, hD5, ?_, ?_, Same.set hs5 nD4⟩
            · rw [List.length_map]
              exact small1000 (by omega)
            · rw [upd_same, take_snoc hz', List.filter_append, List.map_append]
              have c' : (!decide (z ∈ zs)) = true := c
              rw [show List.filter (fun z => !decide (z ∈ zs)) [z] = [z] by simp [List.filter, c']]
              rfl
          · refine ⟨?_, hs5⟩
            have c' : (!decide (z ∈ zs)) = false := by simpa using c
            rw [take_snoc hz', List.filter_append, show List.filter (fun z => !decide (z ∈ zs)) [z] = [] by simp [List.filter, c'], List.append_nil]
            exact hD5
        · rintro H5 ⟨hD5, hs5⟩
          rw [List.length_map, List.take_length] at hD5
          obtain ⟨z0, hz0, hn0⟩ := pool_fresh l hz
          have hm0 : z0 ∈ (poolOf l).filter fun z => !decide (z ∈ zs) := List.mem_filter.mpr ⟨hz0, by simp [hn0]⟩
          obtain ⟨y, ys, ey⟩ := List.exists_cons_of_ne_nil (List.ne_nil_of_mem hm0)
          have hy : y ∈ (poolOf l).filter fun z => !decide (z ∈ zs) := by
            rw [ey]
            exact List.mem_cons_self ..
          obtain ⟨hy1, hy2⟩ := List.mem_filter.mp hy
          rw [ey] at hD5
          walk_at "rd"
          refine ⟨_, _, _, _, rfl, rfl, SqL.of hD5, at_of (j := 0) rfl (v := .str y) rfl, ?_⟩
          exact k y H5 (hb4.same hs5) (hk4.same hs5) (pool_low hl hrp y hy1) (by simpa using hy2)
end
end Fk

namespace Fk
open PySem L2
local macro_rules | `(tactic| walk_at "rdc") => `(tactic| (first | exact Or.inl ⟨by decide, by decide⟩ | exact Or.inr ⟨by decide, by decide⟩ | exact ⟨by decide, by decide⟩ | exact Or.inl ⟨by omega, by omega⟩ | exact Or.inr ⟨by omega, by omega⟩ | ((show (0 : Int) < _); (first | decide | omega)) | exact ⟨by decide, by decide, by decide⟩ | exact ⟨by omega, by assumption⟩))
local macro_rules | `(tactic| walk_at "hp") => `(tactic| (first | exact upd_same | assumption | ((rw [upd_ne (by assumption)]); (first | exact upd_same | assumption | ((rw [upd_ne (by assumption)]); (first | exact upd_same | assumption | ((rw [upd_ne (by assumption)]); (first | exact upd_same | assumption))))))))
local macro_rules | `(tactic| walk_at "r1") => `(tactic| (first | refine ⟨_, rfl, ?_⟩ | refine ⟨_, _, rfl, rfl, ?_⟩ | refine ⟨_, _, rfl, ?_⟩ | refine Or.inl ⟨_, rfl, ?_⟩ | refine ⟨rfl, ?_⟩ | refine ⟨(by walk_at "rdc"), ?_⟩ | refine ⟨_, _, _, _, rfl, rfl, SqL.of (by walk_at "hp"), rfl, ?_⟩ | refine ⟨_, _, _, _, rfl, rfl, (by walk_at "hp"), rfl, ?_⟩ | refine ⟨_, _, _, _, rfl, rfl, SqL.of (by walk_at "hp"), by assumption, ?_⟩))
local macro_rules | `(tactic| walk_at "rd") => `(tactic| (repeat walk_at "r1"))
--#ty is_name word=s
--#ty check_name word=s
--#raising check_name
--#okX check_name
--#ret is_name b
/-! ### names -/
/-- what the program takes for a name -/
def nameB (z : Str) : Bool := decide ((z.length : Int) ≤ 12) && (Txt.isascii z && (Txt.isalpha z && Txt.islower z))
/-- what is known of the module -/
structure Twd (P : Program) (K : PySem.W.Frag) (mg : Str → Option Value) (CB : Addr) (t0 : Tok) : Prop where
  b_len : mg "len" = none
  g_MOST_LETTERS : mg "MOST_LETTERS" = some (.int 12 t0)
  e_BadName : Err1 P K mg "BadName" CB "name" 114
section
variable {P : Program} {w : World} {K : PySem.W.Frag} {mg : Str → Option Value} {base : Heap}
abbrev s_is_name : Stmt := top 15
theorem sc_is_name : FnScope ["word"] ["word"] (defScope s_is_name) := ⟨rfl, rfl, rfl, by decide +kernel, rfl, by decide +kernel, by decide +kernel⟩
def spIsName : Sp := fun vs H Q _ => ∃ z : Str, vs = [.str z] ∧ z.length ≤ 1000 ∧ Q (.bl (nameB z)) H
theorem ok_is_name {f CB : Addr} {t0 : Tok} {fd : FuncData} (F : Fun K "is_name" "is_name" s_is_name f fd) (T : Twd P K mg CB t0) : FnOk P w K mg base CX0 1 f fd ["word"] spIsName := by
  refine F.ok sc_is_name (fun vs H Q E h => ?_) (fun cdv A outer s H vs Q E hr h => ?_)
  · obtain ⟨z, rfl, _⟩ := h
    rfl
  · obtain ⟨z, rfl, hz, k⟩ := h
    refine ⟨_, (pss_one (ps_ret (pe_and (pe_cmpR op_le (pe_callB call_len (by rfl) T.b_len PySem.boot_len (pa_cons (pv 0) pa_nil)) (pe_glob (v := .int _) rfl T.g_MOST_LETTERS ⟨_, rfl⟩) (nomark _)) (pe_and (pe_m0 PySem.F.slot_str_isascii PySem.F.type_str_isascii mt_isascii (pv 0)) (pe_and (pe_m0 PySem.F.slot_str_isalpha PySem.F.type_str_isalpha mt_isalpha (pv 0)) (pe_one (pe_m0 PySem.F.slot_str_islower PySem.F.type_str_islower mt_islower (pv 0)))))))), ?_⟩
    walk_at "rd"
    refine ⟨_, _, rfl, ⟨Nat.le_trans hz (by decide), rfl⟩, ?_⟩
    walk_at "rd"
    have e : Q (.bl (nameB z)) H := k
    unfold nameB at e
    generalize decide ((z.length : Int) ≤ 12) = a1 at e ⊢
    walk_at "rd"
    refine ite2 (fun c => ?_) (fun c => ?_)
    · rw [c] at e
      refine ⟨_, rfl, ⟨_, rfl⟩, _, rfl, rfl, trivial, ?_⟩
      generalize Txt.isascii z = a2 at e ⊢
      walk_at "rd"
      refine ite2 (fun c => ?_) (fun c => ?_)
      · rw [c] at e
        refine ⟨_, rfl, ⟨_, rfl⟩, _, rfl, rfl, trivial, ?_⟩
        generalize Txt.isalpha z = a3 at e ⊢
        walk_at "rd"
        refine ite2 (fun c => ?_) (fun c => ?_)
        · rw [c] at e
          exact ⟨_, rfl, ⟨_, rfl⟩, _, rfl, rfl, trivial, e⟩
        · rw [show a3 = false by simpa using c] at e
          exact e
      · rw [show a2 = false by simpa using c] at e
        exact e
    · rw [show a1 = false by simpa using c] at e
      exact e
abbrev s_check_name : Stmt := top 16
theorem sc_check_name : FnScope ["word"] ["word"] (defScope s_check_name) := ⟨rfl, rfl, rfl, by decide +kernel, rfl, by decide +kernel, by decide +kernel⟩
def spCheck (CB : Addr) : Sp := fun vs H Q E => ∃ z : Str, vs = [.str z] ∧ z.length ≤ 1000 ∧ FmX 114 (.str z) ∧ (nameB z = true → Q .non H) ∧ (nameB z = false → ∀ d, H d = none → E (.ref CB) (some d) (upd H d (.xd [("name", .str z)])))
theorem ok_check_name {f CB : Addr} {t0 : Tok} {fd : FuncData} (F : Fun K "check_name" "check_name" s_check_name f fd) (T : Twd P K mg CB t0) (c_is_name : C8.Cal P w K mg base 1 "is_name" spIsName []) : FnOk P w K mg base (L2N.CX P w) 3 f fd ["word"] (spCheck CB) := by
  refine F.okN sc_check_name (fun vs H Q E h => ?_) (fun cdv A outer s H vs Q E hr h => ?_)
  · obtain ⟨z, rfl, _⟩ := h
    rfl
  · obtain ⟨z, rfl, hz, fm, yes, no⟩ := h
    refine ⟨_, (pss_one (ps_if (pt_not (pt_val (C8.pe_c c_is_name hr (by decide) rfl (pa_cons (pv 0) pa_nil)))) (pss_one (L2N.ps_raise rfl (L2N.takes_of rfl rfl rfl rfl) (by exact (pmk_err1 T.e_BadName hr (pa_cons (pv 0) pa_nil))))) pss_nil)), ?_⟩
    walk_at "rd"
    refine ⟨hz, ?_⟩
    walk_at "rd"
    refine ite2 (fun c => ?_) (fun c => ?_)
    · walk_at "rd"
      exact ⟨⟨_, rfl, fm⟩, fun d hd => no (by simpa using c) d hd⟩
    · exact yes (by simpa using c)
end
end Fk

namespace Fk
open PySem L2
local macro_rules | `(tactic| walk_at "rdc") => `(tactic| (first | exact Or.inl ⟨by decide, by decide⟩ | exact Or.inr ⟨by decide, by decide⟩ | exact ⟨by decide, by decide⟩ | exact Or.inl ⟨by omega, by omega⟩ | exact Or.inr ⟨by omega, by omega⟩ | ((show (0 : Int) < _); (first | decide | omega)) | exact ⟨by decide, by decide, by decide⟩ | exact ⟨by omega, by assumption⟩))
local macro_rules | `(tactic| walk_at "hp") => `(tactic| (first | exact upd_same | assumption | ((rw [upd_ne (by assumption)]); (first | exact upd_same | assumption | ((rw [upd_ne (by assumption)]); (first | exact upd_same | assumption | ((rw [upd_ne (by assumption)]); (first | exact upd_same | assumption))))))))
local macro_rules | `(tactic| walk_at "r1") => `(tactic| (first | refine ⟨_, rfl, ?_⟩ | refine ⟨_, _, rfl, rfl, ?_⟩ | refine ⟨_, _, rfl, ?_⟩ | refine Or.inl ⟨_, rfl, ?_⟩ | refine ⟨rfl, ?_⟩ | refine ⟨(by walk_at "rdc"), ?_⟩ | refine ⟨_, _, _, _, rfl, rfl, SqL.of (by walk_at "hp"), rfl, ?_⟩ | refine ⟨_, _, _, _, rfl, rfl, (by walk_at "hp"), rfl, ?_⟩ | refine ⟨_, _, _, _, rfl, rfl, SqL.of (by walk_at "hp"), by assumption, ?_⟩))
local macro_rules | `(tactic| walk_at "rd") => `(tactic| (repeat walk_at "r1"))
--#ty _law_texts _law_thing=l _law_due=l _law_due_here=l
--#ret _law_is_int b
--#ty _law_names _law_names_here=l
section
variable {P : Program} {w : World} {K : PySem.W.Frag} {mg : Str → Option Value} {base : Heap}
/-- more of the built-ins -/
structure Bm (mg : Str → Option Value) : Prop where
  b_range : mg "range" = none
  b_len : mg "len" = none
  b_isinstance : mg "isinstance" = none
  b_int : mg "int" = none
  b_bool : mg "bool" = none
  b_tuple : mg "tuple" = none
  b_list : mg "list" = none
  b_str : mg "str" = none
  b_all : mg "all" = none
/-! ### what a thing is -/
/-- data without parts -/
def Flat1 : V → Prop
  | .int _ => True
  | .str z => PyData.strOk z = true
  | .bl _ => True
  | _ => False
def pdv : V → PyData
  | .str z => .str z
  | .int i => .int i
  | .bl b => .bool b
  | _ => .none
theorem flat_ints (ns : List Int) : ∀ v ∈ ns.map V.int, Flat1 v := fun v hv => by
  obtain ⟨n, _, rfl⟩ := List.mem_map.mp hv
  trivial
theorem flat_strs {ws : List Str} (h : ∀ z ∈ ws, PyData.strOk z = true) : ∀ v ∈ ws.map V.str, Flat1 v := fun v hv => by
  obtain ⟨z, hz, rfl⟩ := List.mem_map.mp hv
  exact h z hz
theorem flat_dp {K : PySem.W.Frag} {H : Hp} : ∀ {l : List V}, (∀ v ∈ l, Flat1 v) → DpAll K H l (l.map pdv)
  | [], _ => .nil
  | v :: l, h => by
    refine .cons ?_ (flat_dp fun u hu => h u (List.mem_cons_of_mem _ hu))
    have f := h v List.mem_cons_self
    cases v with
    | str z => exact .str _
    | int i => exact .int _
    | bl b => exact .bl _
    | _ => exact f.elim
theorem flat_ok {l : List V} (h : ∀ v ∈ l, Flat1 v) : (SeqAt.shaped (.list (l.map pdv)) = true ∧ PyData.eqv (.list (l.map pdv)) (.list (l.map pdv)) = true) ∧ SeqAt.shaped (.tuple (l.map pdv)) = true ∧ PyData.eqv (.tuple (l.map pdv)) (.tuple (l.map pdv)) = true := by
  have each : ∀ v ∈ l, PyData.canLay0 (pdv v) = true ∧ PyData.eqv (pdv v) (pdv v) = true ∧ PyData.depth (pdv v) = 0 := by
    intro v hv
    have f := h v hv
    cases v with
    | str z => exact ⟨f, by simp [pdv, PyData.eqv], by simp [pdv, PyData.depth]⟩
    | int i => exact ⟨rfl, by simp [pdv, PyData.eqv], by simp [pdv, PyData.depth]⟩
    | bl b => exact ⟨rfl, by simp [pdv, PyData.eqv], by simp [pdv, PyData.depth]⟩
    | _ => exact f.elim
  have many : ∀ m : List V, (∀ v ∈ m, PyData.canLay0 (pdv v) = true ∧ PyData.eqv (pdv v) (pdv v) = true ∧ PyData.depth (pdv v) = 0) → PyData.canLayAll0 (m.map pdv) = true ∧ PyData.eqvAll (m.map pdv) (m.map pdv) = true ∧ PyData.depthAll (m.map pdv) = 0 := by
    intro m
    induction m with
    | nil => exact fun _ => ⟨rfl, rfl, rfl⟩
    | cons v m ih =>
      intro hm
      obtain ⟨a, b, c⟩ := hm v List.mem_cons_self
      obtain ⟨x, y, w⟩ := ih fun u hu => hm u (List.mem_cons_of_mem _ hu)
      exact ⟨by simp [PyData.canLayAll0, a, x], by simp [PyData.eqvAll, b, y], by simp [PyData.depthAll, c, w]⟩
  obtain ⟨x, y, w⟩ := many l each
  exact ⟨⟨by simp [SeqAt.shaped, PyData.canLay0, PyData.depth, x, w], by simp [PyData.eqv, y]⟩, by simp [SeqAt.shaped, PyData.canLay0, PyData.depth, x, w], by simp [PyData.eqv, y]⟩
abbrev s__law_is_int : Stmt := top 46
theorem sc__law_is_int : FnScope ["_law_thing"] ["_law_thing"] (defScope s__law_is_int) := ⟨rfl, rfl, rfl, by decide +kernel, rfl, by decide +kernel, by decide +kernel⟩
def spIsInt : Sp := fun vs H Q _ => ∃ n : Int, vs = [.int n] ∧ Q (.bl true) H
theorem ok_is_int {f : Addr} {fd : FuncData} (F : Fun K "_law_is_int" "_law_is_int" s__law_is_int f fd) (T : Bm mg) : FnOk P w K mg base CX0 1 f fd ["_law_thing"] spIsInt := by
  refine F.ok sc__law_is_int (fun vs H Q E h => ?_) (fun cdv A outer s H vs Q E hr h => ?_)
  · obtain ⟨n, rfl, _⟩ := h
    rfl
  · obtain ⟨n, rfl, k⟩ := h
    refine ⟨_, (pss_one (ps_ret (pe_and (pe_callB call_isi (by rfl) T.b_isinstance (by decide +kernel) (pa_cons (pv 0) (pa_cons (pe_bltn (v := .ty "int") (by rfl) T.b_int (by decide +kernel) rfl) pa_nil))) (pe_one (pe_not (pe_callB call_isi (by rfl) T.b_isinstance (by decide +kernel) (pa_cons (pv 0) (pa_cons (pe_bltn (v := .ty "bool") (by rfl) T.b_bool (by decide +kernel) rfl) pa_nil)))))))), ?_⟩
    walk_at "rd"
    refine ⟨_, _, _, _, true, rfl, .ty _, .base (.int _), kit_ty (by decide +kernel), ?_⟩
    walk_at "rd"
    refine ⟨_, _, _, _, false, rfl, .ty _, .base (.int _), kit_ty (by decide +kernel), ?_⟩
    walk_at "rd"
    exact k
theorem ins_lz {zs : List Str} {z : Str} {r : Nat} (h : ∀ x ∈ zs, Lz x) (hz : Lz z) : ∀ x ∈ zs.take r ++ [z] ++ zs.drop r, Lz x := by
  intro x hx
  simp only [List.mem_append, List.mem_singleton] at hx
  rcases hx with (hx | rfl) | hx
  · exact h x (List.mem_of_mem_take hx)
  · exact hz
  · exact h x (List.mem_of_mem_drop hx)
theorem ins_nodup {zs : List Str} {z : Str} {r : Nat} (h : zs.Nodup) (hz : z ∉ zs) : (zs.take r ++ [z] ++ zs.drop r).Nodup := by
  have e : zs = zs.take r ++ zs.drop r := (List.take_append_drop r zs).symm
  have p : (zs.take r ++ [z] ++ zs.drop r).Perm (z :: zs) := by
    have q : (zs.take r ++ [z] ++ zs.drop r).Perm (z :: (zs.take r ++ zs.drop r)) := by
      rw [List.append_assoc]
      exact List.perm_middle
    rw [List.take_append_drop] at q
    exact q
  exact p.nodup_iff.mpr (List.nodup_cons.mpr ⟨hz, h⟩)
/-! ### _law_names -/
abbrev s__law_names : Stmt := top 45
theorem sc__law_names : FnScope ["_law_bag_here", "_law_many", "_law_names_here", "_law_k"] ["_law_bag_here", "_law_many"] (defScope s__law_names) := ⟨rfl, rfl, rfl, by decide +kernel, rfl, by decide +kernel, by decide +kernel⟩
def spNames : Sp := fun vs H Q _ => ∃ (b c : Addr) (m : Int), vs = [.ref b, .int m] ∧ Bag H b c ∧ 0 ≤ m ∧ m ≤ 10 ∧
  ∀ (q : Addr) (zs : List Str) H', Bag H' b c → Keep H H' b → H q = none → H' q = some (.lst (zs.map V.str)) → zs.length = m.toNat → zs.Nodup → (∀ z ∈ zs, Lz z) → Q (.ref q) H'
theorem ok_law_names {f : Addr} {fd : FuncData} (F : Fun K "_law_names" "_law_names" s__law_names f fd) (T : Bm mg) (c__law_take : C8.Cal P w K mg base 2 "_law_take" spTake []) (c__law_name : C8.Cal P w K mg base 3 "_law_name" spName []) : FnOk P w K mg base CX0 4 f fd ["_law_bag_here", "_law_many"] spNames := by
  refine F.ok sc__law_names (fun vs H Q E h => ?_) (fun cdv A outer s H vs Q E hr h => ?_)
  · obtain ⟨b, c, m, rfl, _⟩ := h
    rfl
  · obtain ⟨b, c, m, rfl, hb, m0, m1, k⟩ := h
    refine ⟨_, (pss_cons (ps_set (i := 2) sc__law_names.nd rfl (by first | exact Or.inl rfl | exact Or.inr rfl) (pe_lst pa_nil))
      (pss_cons (ps_for PassesOwn.never rfl (pi_range1 (by rfl) T.b_range (pa_cons (pv 1) pa_nil)) (pg_name (i := 3) sc__law_names.nd rfl (by first | exact Or.inl rfl | exact Or.inr rfl)) (pss_one (ps_expr (pe_bm PySem.F.plainAttrs_list PySem.F.slot_list_insert PySem.F.type_list_insert mt_insert (pv 2) (pa_cons (C8.pe_c c__law_take hr (by decide) rfl (pa_cons (pv 0) (pa_cons (pe_op op_add (pe_callB call_len (by rfl) T.b_len PySem.boot_len (pa_cons (pv 2) pa_nil)) pe_int) pa_nil))) (pa_cons (C8.pe_c c__law_name hr (by decide) rfl (pa_cons (pv 0) (pa_cons (pv 2) pa_nil))) pa_nil))))))
      (pss_one (ps_ret (pv 2))))), ?_⟩
    walk_at "rd"
    refine ⟨Nat.zero_le _, fun q nq => ?_⟩
    walk_at "rd"
    obtain ⟨hbq, hcq⟩ := hb.off nq
    refine ⟨by omega, by omega, ?_⟩
    refine for_range (lo := 0) (n := m.toNat) (fun i σ H' => ∃ (zs : List Str) (v : Option V), σ = [some (.ref b), some (.int m), some (.ref q), v] ∧ H' q = some (.lst (zs.map V.str)) ∧ zs.length = i ∧ zs.Nodup ∧ (∀ z ∈ zs, Lz z) ∧ Bag H' b c ∧ Keep H H' b)
      ⟨[], none, rfl, upd_same, rfl, List.nodup_nil, (fun _ h => nomatch h), Bag.same hb (Same.new (Same.refl H) nq), (Keep.refl H b).new nq⟩ (fun i σ H' hi hp => ?_) (fun σ H' hp => ?_)
    · obtain ⟨zs, v, rfl, hq, hl, hn, hlow, hb', hk⟩ := hp
      walk_at "rd"
      refine ⟨.inl ⟨rfl, _, SqL.of hq⟩, ?_⟩
      walk_at "rd"
      have i8 : i < 10 := by omega
      refine ⟨_, zs.length, rfl, .inl ⟨_, SqL.of hq, (List.length_map ..).symm⟩, ?_⟩
      walk_at "rd"
      refine ⟨b, c, _, rfl, hb', by omega, fun r H1 hb1 hk1 h0 h1 => ?_⟩
      have hq1 : H1 q = some (.lst (zs.map V.str)) := hk1 _ _ hq hbq.symm
      walk_at "rd"
      refine ⟨b, c, q, zs, rfl, hb1, hq1, by omega, fun z H2 hb2 hk2 lz nz => ?_⟩
      have hq2 : H2 q = some (.lst (zs.map V.str)) := hk2 _ _ hq1 hbq.symm
      have r8 : r < 11 := by
        have e : max (1 : Int) ((zs.length : Int) + 1) = zs.length + 1 := by omega
        rw [e] at h1
        omega
      walk_at "rd"
      refine ⟨q, _, r, _, rfl, rfl, hq2, ?_, h0, by omega, ?_⟩
      · rw [List.length_map]
        exact small1000 (by omega)
      refine ⟨zs.take r.toNat ++ [z] ++ zs.drop r.toNat, _, rfl, ?_, ?_, ins_nodup hn nz, ins_lz hlow lz, ?_, ?_⟩
      · rw [upd_same, List.map_append, List.map_append, List.map_take, List.map_drop]
        rfl
      · simp only [List.length_append, List.length_take, List.length_drop, List.length_singleton]
        omega
      · exact hb2.set hbq hcq
      · intro x o e ne
        have nxq : x ≠ q := fun z => by
          rw [z, nq] at e
          cases e
        rw [upd_ne nxq]
        exact hk2 _ _ (hk1 _ _ (hk _ _ e ne) ne) ne
    · obtain ⟨zs, v, rfl, hq, hl, hn, hlow, hb', hk⟩ := hp
      walk_at "rd"
      exact k q zs H' hb' hk nq hq hl hn hlow
end
end Fk

namespace Fk
open PySem L2 ClX
local macro_rules | `(tactic| walk_at "rdc") => `(tactic| (first | exact Or.inl ⟨by decide, by decide⟩ | exact Or.inr ⟨by decide, by decide⟩ | exact ⟨by decide, by decide⟩ | exact Or.inl ⟨by omega, by omega⟩ | exact Or.inr ⟨by omega, by omega⟩ | ((show (0 : Int) < _); (first | decide | omega)) | exact ⟨by decide, by decide, by decide⟩ | exact ⟨by omega, by assumption⟩))
local macro_rules | `(tactic| walk_at "hp") => `(tactic| (first | exact upd_same | assumption | ((rw [upd_ne (by assumption)]); (first | exact upd_same | assumption | ((rw [upd_ne (by assumption)]); (first | exact upd_same | assumption | ((rw [upd_ne (by assumption)]); (first | exact upd_same | assumption))))))))
local macro_rules | `(tactic| walk_at "r1") => `(tactic| (first | refine ⟨_, rfl, ?_⟩ | refine ⟨_, _, rfl, rfl, ?_⟩ | refine ⟨_, _, rfl, ?_⟩ | refine Or.inl ⟨_, rfl, ?_⟩ | refine ⟨rfl, ?_⟩ | refine ⟨(by walk_at "rdc"), ?_⟩ | refine ⟨_, _, _, _, rfl, rfl, SqL.of (by walk_at "hp"), rfl, ?_⟩ | refine ⟨_, _, _, _, rfl, rfl, (by walk_at "hp"), rfl, ?_⟩ | refine ⟨_, _, _, _, rfl, rfl, SqL.of (by walk_at "hp"), by assumption, ?_⟩))
local macro_rules | `(tactic| walk_at "rd") => `(tactic| (repeat walk_at "r1"))
--#ty * ._forks=t ._strikes=t ._facts=t ._done=l ._undone=l ._limit=i
--#ty Bench.__init__ self=o
--#ty Bench._state self=o
--#ty Bench._begin self=o text=s
--#ty Bench.change self=o what=s
--#ty Bench.history self=o text=s
--#ty Bench.limit self=o
--#ret _state t
--#meth _state _begin
--#raising check_limit
--#okX check_limit Bench.__init__ Bench.change
--#catA 1
section
variable {P : Program} {w : World} {K : PySem.W.Frag} {mg : Str → Option Value} {base : Heap}
/-- what the bench asks of the module -/
structure Tk (P : Program) (K : PySem.W.Frag) (mg : Str → Option Value) (C CL CW : Addr) : Prop where
  cls : Cls K C
  nF : NoAttr K C "_forks"
  nS : NoAttr K C "_strikes"
  nA : NoAttr K C "_facts"
  nL : NoAttr K C "_limit"
  nD : NoAttr K C "_done"
  nU : NoAttr K C "_undone"
  g_Bench : mg "Bench" = some (.ref C)
  e_BadLimit : Err1 P K mg "BadLimit" CL "value" (-1)
  e_BadWord : Err1 P K mg "BadWord" CW "word" 114
  rd : CRead K C (.type "type")
  most : ∃ t, CVal K C (.type "type") "MOST_LIMIT" (.int 3) (.int 3 t)
def BF (fk st fc : Addr) (n : Int) (d u : Addr) : List (Str × V) := [("_forks", .ref fk), ("_strikes", .ref st), ("_facts", .ref fc), ("_limit", .int n), ("_done", .ref d), ("_undone", .ref u)]
/-- tuples of flat things at their places -/
def RowsIn (H : Hp) : List Addr → List (List Fx.FD) → Prop
  | [], [] => True
  | a :: as, r :: rs => H a = some (.tup (r.map Fx.FD.v)) ∧ RowsIn H as rs
  | _, _ => False
/-- the deeds: their texts, each with a state -/
def Deeds (H : Hp) : List Addr → List Str → Prop
  | [], [] => True
  | a :: as, t :: ts => (∃ s, H a = some (.tup [.str t, .ref s])) ∧ Deeds H as ts
  | _, _ => False
theorem RowsIn.at {H : Hp} : ∀ {as : List Addr} {rs : List (List Fx.FD)}, RowsIn H as rs → Fx.RowsAt K H as rs
  | [], [], _ => trivial
  | _ :: _, _ :: _, h => ⟨SqT.of h.1, RowsIn.at h.2⟩
  | [], _ :: _, h => h.elim
  | _ :: _, [], h => h.elim
/-- tuples stay -/
def Tups (H H' : Hp) : Prop := ∀ a xs, H a = some (.tup xs) → H' a = some (.tup xs)
theorem RowsIn.keep {H H' : Hp} (k : Tups H H') : ∀ {as : List Addr} {rs : List (List Fx.FD)}, RowsIn H as rs → RowsIn H' as rs
  | [], [], _ => trivial
  | _ :: _, _ :: _, h => ⟨k _ _ h.1, RowsIn.keep k h.2⟩
  | [], _ :: _, h => h.elim
  | _ :: _, [], h => h.elim
theorem Deeds.keep {H H' : Hp} (k : Tups H H') : ∀ {as : List Addr} {ts : List Str}, Deeds H as ts → Deeds H' as ts
  | [], [], _ => trivial
  | _ :: _, _ :: _, h => ⟨h.1.elim fun s e => ⟨s, k _ _ e⟩, Deeds.keep k h.2⟩
  | [], _ :: _, h => h.elim
  | _ :: _, [], h => h.elim
theorem Deeds.snoc {H : Hp} : ∀ {as : List Addr} {ts : List Str} {a s : Addr} {t : Str}, Deeds H as ts → H a = some (.tup [.str t, .ref s]) → Deeds H (as ++ [a]) (ts ++ [t])
  | [], [], _, s, _, _, e => ⟨⟨s, e⟩, trivial⟩
  | _ :: _, _ :: _, _, _, _, h, e => ⟨h.1, Deeds.snoc h.2 e⟩
  | [], _ :: _, _, _, _, h, _ => h.elim
  | _ :: _, [], _, _, _, h, _ => h.elim
theorem Deeds.len {H : Hp} : ∀ {as : List Addr} {ts : List Str}, Deeds H as ts → as.length = ts.length
  | [], [], _ => rfl
  | _ :: _, _ :: _, h => congrArg Nat.succ (Deeds.len h.2)
  | [], _ :: _, h => h.elim
  | _ :: _, [], h => h.elim
theorem Deeds.get {H : Hp} : ∀ {as : List Addr} {ts : List Str} {i : Nat} {a : Addr}, Deeds H as ts → as[i]? = some a → ∃ t s, ts[i]? = some t ∧ H a = some (.tup [.str t, .ref s])
  | [], [], _, _, _, e => by simp at e
  | a :: _, t :: _, 0, _, h, e => by
    simp at e
    subst e
    exact ⟨t, h.1.choose, rfl, h.1.choose_spec⟩
  | _ :: _, _ :: _, i + 1, _, h, e => by
    simp at e
    obtain ⟨t, s, e1, e2⟩ := Deeds.get h.2 e
    exact ⟨t, s, by simpa using e1, e2⟩
  | [], _ :: _, _, _, h, _ => h.elim
  | _ :: _, [], _, _, h, _ => h.elim
/-- a bench at p, its deeds at d: forks ws, strikes rs, facts fa, limit n, texts of deeds ts -/
def BenchAt (C : Addr) (H : Hp) (p d : Addr) (ws : List Str) (rs : List (List Fx.FD)) (fa : List V) (n : Int) (ts : List Str) : Prop :=
  ∃ dx fk st fc u as bs, H p = some (.ins C dx (BF fk st fc n d u)) ∧ H fk = some (.tup (ws.map V.str)) ∧ H st = some (.tup (bs.map V.ref)) ∧ RowsIn H bs rs ∧ H fc = some (.tup fa) ∧ H d = some (.lst (as.map V.ref)) ∧ Deeds H as ts
theorem Tups.of_same {H H' : Hp} (k : Same H H') : Tups H H' := fun a xs e => k a _ e
theorem BenchAt.same {C : Addr} {H H' : Hp} {p d : Addr} {ws : List Str} {rs : List (List Fx.FD)} {fa : List V} {n : Int} {ts : List Str} (h : BenchAt C H p d ws rs fa n ts) (k : Same H H') : BenchAt C H' p d ws rs fa n ts := by
  obtain ⟨dx, fk, st, fc, u, as, bs, h1, h2, h3, h4, h5, h6, h7⟩ := h
  exact ⟨dx, fk, st, fc, u, as, bs, k _ _ h1, k _ _ h2, k _ _ h3, h4.keep (.of_same k), k _ _ h5, k _ _ h6, h7.keep (.of_same k)⟩
/-- all stays but p and d -/
def Kp2 (H H' : Hp) (p d : Addr) : Prop := ∀ a o, H a = some o → a ≠ p → a ≠ d → H' a = some o
theorem Kp2.refl (H : Hp) (p d : Addr) : Kp2 H H p d := fun _ _ e _ _ => e
theorem Kp2.of {H H' : Hp} {p d : Addr} (s : Same H H') : Kp2 H H' p d := fun a o e _ _ => s a o e
theorem Kp2.trans {H H1 H2 : Hp} {p d : Addr} (x : Kp2 H H1 p d) (y : Kp2 H1 H2 p d) : Kp2 H H2 p d := fun a o e n m => y a o (x a o e n m) n m
theorem Kp2.up1 {H H1 : Hp} {p d : Addr} {o : HO} (x : Kp2 H H1 p d) : Kp2 H (upd H1 p o) p d := fun a u e n m => (upd_ne n).trans (x a u e n m)
theorem Kp2.up2 {H H1 : Hp} {p d : Addr} {o : HO} (x : Kp2 H H1 p d) : Kp2 H (upd H1 d o) p d := fun a u e n m => (upd_ne m).trans (x a u e n m)
theorem Kp2.new {H H1 : Hp} {p d q : Addr} {o : HO} (x : Kp2 H H1 p d) (hq : H1 q = none) : Kp2 H (upd H1 q o) p d := fun a u e n m => by
  have e1 := x a u e n m
  exact (upd_ne (ne_of_none e1 hq)).trans e1
theorem Kp2.tups {C : Addr} {H H' : Hp} {p d dx : Addr} {fs : List (Str × V)} {xs : List V} (k : Kp2 H H' p d) (e1 : H p = some (.ins C dx fs)) (e2 : H d = some (.lst xs)) : Tups H H' := fun a ys e => by
  refine k a _ e (fun z => ?_) (fun z => ?_)
  · subst z
    rw [e1] at e
    cases e
  · subst z
    rw [e2] at e
    cases e
abbrev s_check_limit : Stmt := top 27
theorem sc_check_limit : FnScope ["value"] ["value"] (defScope s_check_limit) := ⟨rfl, rfl, rfl, by decide +kernel, rfl, by decide +kernel, by decide +kernel⟩
def goodL (n : Int) : Prop := 0 ≤ n ∧ n ≤ 3
instance (n : Int) : Decidable (goodL n) := by unfold goodL; exact inferInstance
def spCheckLimit (CL : Addr) : Sp := fun vs H Q E => ∃ n : Int, vs = [.int n] ∧ FmX (-1) (.int n) ∧ (goodL n → Q .non H) ∧ (¬ goodL n → ∀ e, H e = none → E (.ref CL) (some e) (upd H e (.xd [("value", .int n)])))
theorem ok_check_limit {f C CL CW : Addr} {fd : FuncData} (F : Fun K "check_limit" "check_limit" s_check_limit f fd) (T : Tk P K mg C CL CW) : FnOk P w K mg base (L2N.CX P w) 3 f fd ["value"] (spCheckLimit CL) := by
  refine F.okN sc_check_limit (fun vs H Q E h => ?_) (fun cdv A outer s H vs Q E hr h => ?_)
  · obtain ⟨n, rfl, _⟩ := h
    rfl
  · obtain ⟨n, rfl, fm, k1, k2⟩ := h
    refine ⟨_, (pss_one (ps_if (PW.pt (pw_or (pt_cmpR op_lt (pv 0) pe_int (nomark _)) (pw_or1 (pt_cmpR op_gt (pv 0) (pe_cval (pe_glob (v := .ref _) rfl T.g_Bench rfl)) (nomark _))))) (pss_one (L2N.ps_raise rfl (L2N.takes_of rfl rfl rfl rfl) (by exact (pmk_err1 T.e_BadLimit hr (pa_cons (pv 0) pa_nil))))) pss_nil)), ?_⟩
    walk_at "rd"
    obtain ⟨t, hm⟩ := T.most
    refine ite2 (fun c => ?_) (fun c => ?_)
    · walk_at "rd"
      have c1 : n < 0 := by simpa using c
      exact ⟨⟨_, rfl, fm⟩, k2 fun g => absurd g.1 (by omega)⟩
    · have c1 : ¬ n < 0 := by simpa using c
      walk_at "rd"
      refine ⟨_, _, _, _, rfl, T.rd, hm, ?_⟩
      walk_at "rd"
      refine ite2 (fun c => ?_) (fun c => ?_)
      · have c2 : 3 < n := by simpa using c
        walk_at "rd"
        exact ⟨⟨_, rfl, fm⟩, k2 fun g => absurd g.2 (by omega)⟩
      · have c2 : ¬ 3 < n := by simpa using c
        walk_at "rd"
        exact k1 ⟨by omega, by omega⟩
theorem fm_int {m : Int} (h : m.natAbs < 10 ^ 40) : FmX (-1) (.int m) := by
  refine ⟨rfl, ?_⟩
  by_cases z : m.natAbs = 0
  · rw [z]
    decide
  · have h2 : m.natAbs < 2 ^ 1900 := Nat.lt_of_lt_of_le h (by decide +kernel)
    have := (Nat.log2_lt z).mpr h2
    omega
theorem stp {H : Hp} {p t : Addr} {ob o o2 : HO} (hp : H p = some ob) (ht : H t = none) : upd (upd H t o) p o2 p = some o2 ∧ upd (upd H t o) p o2 t = some o ∧ (∀ a x, H a = some x → a ≠ p → upd (upd H t o) p o2 a = some x) ∧ (upd H t o) p = some ob := by
  have ne : p ≠ t := ne_of_none hp ht
  refine ⟨upd_same, (upd_ne ne.symm).trans upd_same, fun a x e n => ?_, (upd_ne ne).trans hp⟩
  exact (upd_ne n).trans ((upd_ne (ne_of_none e ht)).trans e)
abbrev s_Bench___init__ : Stmt := inClass (top 35) 4
theorem sc_Bench___init__ : FnScope ["self", "limit"] ["self", "limit"] (defScope s_Bench___init__) := ⟨rfl, rfl, rfl, by decide +kernel, rfl, by decide +kernel, by decide +kernel⟩
def spInit (C CL : Addr) : Sp := fun vs H Q E => ∃ (p dx : Addr) (n : Int), vs = [.ref p, .int n] ∧ H p = some (.ins C dx []) ∧ FmX (-1) (.int n) ∧
  (goodL n → ∀ H' d, (∀ a o, H a = some o → a ≠ p → H' a = some o) → H d = none → BenchAt C H' p d [] [] [] n [] → Q .non H') ∧ (¬ goodL n → ∀ e, H e = none → E (.ref CL) (some e) (upd H e (.xd [("value", .int n)])))
theorem ok_init {f C CL CW : Addr} {fd : FuncData} (F : FunD K "__init__" "Bench.__init__" (defArgs s_Bench___init__) (defBody s_Bench___init__) (defScope s_Bench___init__) [.int 0] [] f fd) (T : Tk P K mg C CL CW) (c_check_limit : CalX P w K mg base 3 "check_limit" (spCheckLimit CL)) : FnOk P w K mg base (L2N.CX P w) 4 f fd ["self", "limit"] (spInit C CL) := by
  refine F.ok sc_Bench___init__ (fun vs H Q E h => ?_) (fun cdv A outer s H vs Q E hr h => ?_)
  · obtain ⟨p, dx, n, rfl, _⟩ := h
    rfl
  · obtain ⟨p, dx, n, rfl, hp, fm, k1, k2⟩ := h
    refine ⟨_, (pss_cons (ps_expr (pe_cX c_check_limit hr (by decide) rfl (L2N.takes_of rfl rfl rfl rfl) (pa_cons (pv 1) pa_nil)))
      (pss_cons (ps_fld (pv 0) (pe_tup pa_nil) rfl)
      (pss_cons (ps_fld (pv 0) (pe_tup pa_nil) rfl)
      (pss_cons (ps_fld (pv 0) (pe_tup pa_nil) rfl)
      (pss_cons (ps_fld (pv 0) (pv 1) rfl)
      (pss_cons (ps_fld (pv 0) (pe_lst pa_nil) rfl)
      (pss_one (ps_fld (pv 0) (pe_lst pa_nil) rfl)))))))), ?_⟩
    walk_at "rd"
    refine ⟨fm, fun g => ?_, k2⟩
    walk_at "rd"
    refine ⟨Nat.zero_le _, fun t1 n1 => ?_⟩
    obtain ⟨e1, f1, g1, j1⟩ := stp (o := .tup []) (o2 := .ins C dx [("_forks", .ref t1)]) hp n1
    walk_at "rd"
    refine ⟨p, C, dx, [], rfl, j1, T.cls, T.nF, by decide, ?_⟩
    rw [show putF "_forks" (V.ref t1) ([] : List (Str × V)) = ([("_forks", .ref t1)] : List (Str × V)) from rfl]
    generalize upd (upd H t1 (.tup [])) p (.ins C dx [("_forks", .ref t1)]) = H1 at e1 f1 g1 ⊢
    walk_at "rd"
    refine ⟨Nat.zero_le _, fun t2 n2 => ?_⟩
    obtain ⟨e2, f2, g2, j2⟩ := stp (o := .tup []) (o2 := .ins C dx [("_forks", .ref t1), ("_strikes", .ref t2)]) e1 n2
    walk_at "rd"
    refine ⟨p, C, dx, _, rfl, j2, T.cls, T.nS, by show 1 < 1000; decide, ?_⟩
    rw [show putF "_strikes" (V.ref t2) ([("_forks", .ref t1)] : List (Str × V)) = ([("_forks", .ref t1), ("_strikes", .ref t2)] : List (Str × V)) from rfl]
    generalize upd (upd H1 t2 (.tup [])) p (.ins C dx [("_forks", .ref t1), ("_strikes", .ref t2)]) = H2 at e2 f2 g2 ⊢
    walk_at "rd"
    refine ⟨Nat.zero_le _, fun t3 n3 => ?_⟩
    obtain ⟨e3, f3, g3, j3⟩ := stp (o := .tup []) (o2 := .ins C dx [("_forks", .ref t1), ("_strikes", .ref t2), ("_facts", .ref t3)]) e2 n3
    walk_at "rd"
    refine ⟨p, C, dx, _, rfl, j3, T.cls, T.nA, by show 2 < 1000; decide, ?_⟩
    rw [show putF "_facts" (V.ref t3) ([("_forks", .ref t1), ("_strikes", .ref t2)] : List (Str × V)) = ([("_forks", .ref t1), ("_strikes", .ref t2), ("_facts", .ref t3)] : List (Str × V)) from rfl]
    generalize upd (upd H2 t3 (.tup [])) p (.ins C dx [("_forks", .ref t1), ("_strikes", .ref t2), ("_facts", .ref t3)]) = H3 at e3 f3 g3 ⊢
    walk_at "rd"
    refine ⟨p, C, dx, _, rfl, e3, T.cls, T.nL, by show 3 < 1000; decide, ?_⟩
    have e4 : upd H3 p (.ins C dx [("_forks", .ref t1), ("_strikes", .ref t2), ("_facts", .ref t3), ("_limit", .int n)]) p = _ := upd_same
    have g4 : ∀ a x, H3 a = some x → a ≠ p → upd H3 p (.ins C dx [("_forks", .ref t1), ("_strikes", .ref t2), ("_facts", .ref t3), ("_limit", .int n)]) a = some x := fun a x e ne => (upd_ne ne).trans e
    rw [show putF "_limit" (V.int n) ([("_forks", .ref t1), ("_strikes", .ref t2), ("_facts", .ref t3)] : List (Str × V)) = ([("_forks", .ref t1), ("_strikes", .ref t2), ("_facts", .ref t3), ("_limit", .int n)] : List (Str × V)) from rfl]
    generalize upd H3 p (.ins C dx [("_forks", .ref t1), ("_strikes", .ref t2), ("_facts", .ref t3), ("_limit", .int n)]) = H4 at e4 g4 ⊢
    walk_at "rd"
    refine ⟨Nat.zero_le _, fun t5 n5 => ?_⟩
    obtain ⟨e5, f5, g5, j5⟩ := stp (o := .lst []) (o2 := .ins C dx [("_forks", .ref t1), ("_strikes", .ref t2), ("_facts", .ref t3), ("_limit", .int n), ("_done", .ref t5)]) e4 n5
    walk_at "rd"
    refine ⟨p, C, dx, _, rfl, j5, T.cls, T.nD, by show 4 < 1000; decide, ?_⟩
    rw [show putF "_done" (V.ref t5) ([("_forks", .ref t1), ("_strikes", .ref t2), ("_facts", .ref t3), ("_limit", .int n)] : List (Str × V)) = ([("_forks", .ref t1), ("_strikes", .ref t2), ("_facts", .ref t3), ("_limit", .int n), ("_done", .ref t5)] : List (Str × V)) from rfl]
    generalize upd (upd H4 t5 (.lst [])) p (.ins C dx [("_forks", .ref t1), ("_strikes", .ref t2), ("_facts", .ref t3), ("_limit", .int n), ("_done", .ref t5)]) = H5 at e5 f5 g5 ⊢
    walk_at "rd"
    refine ⟨Nat.zero_le _, fun t6 n6 => ?_⟩
    obtain ⟨e6, f6, g6, j6⟩ := stp (o := .lst []) (o2 := .ins C dx (BF t1 t2 t3 n t5 t6)) e5 n6
    walk_at "rd"
    refine ⟨p, C, dx, _, rfl, j6, T.cls, T.nU, by show 5 < 1000; decide, ?_⟩
    rw [show putF "_undone" (V.ref t6) ([("_forks", .ref t1), ("_strikes", .ref t2), ("_facts", .ref t3), ("_limit", .int n), ("_done", .ref t5)] : List (Str × V)) = BF t1 t2 t3 n t5 t6 from rfl]
    generalize upd (upd H5 t6 (.lst [])) p (.ins C dx (BF t1 t2 t3 n t5 t6)) = H6 at e6 f6 g6 ⊢
    have p1 : t1 ≠ p := (ne_of_none hp n1).symm
    have p2 : t2 ≠ p := (ne_of_none e1 n2).symm
    have p3 : t3 ≠ p := (ne_of_none e2 n3).symm
    have p5 : t5 ≠ p := (ne_of_none e4 n5).symm
    have p6 : t6 ≠ p := (ne_of_none e5 n6).symm
    walk_at "rd"
    refine k1 g H6 t5 (fun a o e ne => ?_) ?_ ⟨dx, t1, t2, t3, t6, [], [], e6, ?_, ?_, trivial, ?_, ?_, trivial⟩
    · exact g6 _ _ (g5 _ _ (g4 _ _ (g3 _ _ (g2 _ _ (g1 _ _ e ne) ne) ne) ne) ne) ne
    · cases z : H t5 with
      | none => rfl
      | some o =>
        have := g4 _ _ (g3 _ _ (g2 _ _ (g1 _ _ z p5) p5) p5) p5
        rw [n5] at this
        cases this
    · exact g6 _ _ (g5 _ _ (g4 _ _ (g3 _ _ (g2 _ _ f1 p1) p1) p1) p1) p1
    · exact g6 _ _ (g5 _ _ (g4 _ _ (g3 _ _ f2 p2) p2) p2) p2
    · exact g6 _ _ (g5 _ _ (g4 _ _ f3 p3) p3) p3
    · exact g6 _ _ f5 p5
abbrev s_Bench_limit : Stmt := inClass (top 35) 20
theorem sc_Bench_limit : FnScope ["self"] ["self"] (defScope s_Bench_limit) := ⟨rfl, rfl, rfl, by decide +kernel, rfl, by decide +kernel, by decide +kernel⟩
def spLimit (C : Addr) : Sp := fun vs H Q _ => ∃ (p dx fk st fc d u : Addr) (n : Int), vs = [.ref p] ∧ H p = some (.ins C dx (BF fk st fc n d u)) ∧ Q (.int n) H
theorem ok_limit {f C CL CW : Addr} {fd : FuncData} (F : Fun K "limit" "Bench.limit" s_Bench_limit f fd) (T : Tk P K mg C CL CW) : FnOk P w K mg base CX0 1 f fd ["self"] (spLimit C) := by
  refine F.ok sc_Bench_limit (fun vs H Q E h => ?_) (fun cdv A outer s H vs Q E hr h => ?_)
  · obtain ⟨p, dx, fk, st, fc, d, u, n, rfl, _⟩ := h
    rfl
  · obtain ⟨p, dx, fk, st, fc, d, u, n, rfl, hp, k⟩ := h
    refine ⟨_, (pss_one (ps_ret (pe_fld (pv 0) rfl))), ?_⟩
    walk_at "rd"
    exact ⟨p, C, dx, _, _, rfl, hp, T.cls, T.nL, rfl, k⟩
abbrev s_Bench__state : Stmt := inClass (top 35) 25
theorem sc_Bench__state : FnScope ["self"] ["self"] (defScope s_Bench__state) := ⟨rfl, rfl, rfl, by decide +kernel, rfl, by decide +kernel, by decide +kernel⟩
def spState (C : Addr) : Sp := fun vs H Q _ => ∃ (p dx fk st fc d u : Addr) (n : Int), vs = [.ref p] ∧ H p = some (.ins C dx (BF fk st fc n d u)) ∧ ∀ q, H q = none → Q (.ref q) (upd H q (.tup [.ref fk, .ref st, .ref fc, .int n]))
theorem ok_state {f C CL CW : Addr} {fd : FuncData} (F : Fun K "_state" "Bench._state" s_Bench__state f fd) (T : Tk P K mg C CL CW) : FnOk P w K mg base CX0 1 f fd ["self"] (spState C) := by
  refine F.ok sc_Bench__state (fun vs H Q E h => ?_) (fun cdv A outer s H vs Q E hr h => ?_)
  · obtain ⟨p, dx, fk, st, fc, d, u, n, rfl, _⟩ := h
    rfl
  · obtain ⟨p, dx, fk, st, fc, d, u, n, rfl, hp, k⟩ := h
    refine ⟨_, (pss_one (ps_ret (pe_tup (pa_cons (pe_fld (pv 0) rfl) (pa_cons (pe_fld (pv 0) rfl) (pa_cons (pe_fld (pv 0) rfl) (pa_cons (pe_fld (pv 0) rfl) pa_nil))))))), ?_⟩
    walk_at "rd"
    refine ⟨p, C, dx, _, _, rfl, hp, T.cls, T.nF, rfl, ?_⟩
    walk_at "rd"
    refine ⟨p, C, dx, _, _, rfl, hp, T.cls, T.nS, rfl, ?_⟩
    walk_at "rd"
    refine ⟨p, C, dx, _, _, rfl, hp, T.cls, T.nA, rfl, ?_⟩
    walk_at "rd"
    refine ⟨p, C, dx, _, _, rfl, hp, T.cls, T.nL, rfl, ?_⟩
    walk_at "rd"
    refine ⟨by show 4 ≤ sizeLine; decide, fun q nq => k q nq⟩
abbrev s_Bench__begin : Stmt := inClass (top 35) 23
theorem sc_Bench__begin : FnScope ["self", "text"] ["self", "text"] (defScope s_Bench__begin) := ⟨rfl, rfl, rfl, by decide +kernel, rfl, by decide +kernel, by decide +kernel⟩
def spBegin (C : Addr) : Sp := fun vs H Q _ => ∃ (p d : Addr) (ws : List Str) (rs : List (List Fx.FD)) (fa : List V) (n : Int) (ts : List Str) (t : Str), vs = [.ref p, .str t] ∧ BenchAt C H p d ws rs fa n ts ∧ ts.length ≤ 200 ∧
  ∀ H', Kp2 H H' p d → BenchAt C H' p d ws rs fa n (ts ++ [t]) → Q .non H'
theorem ok_begin {f C CL CW : Addr} {fd : FuncData} (F : Fun K "_begin" "Bench._begin" s_Bench__begin f fd) (T : Tk P K mg C CL CW) (q__state : Fx.MethC P w K mg base 1 C "_state" (spState C)) : FnOk P w K mg base CX0 2 f fd ["self", "text"] (spBegin C) := by
  refine F.ok sc_Bench__begin (fun vs H Q E h => ?_) (fun cdv A outer s H vs Q E hr h => ?_)
  · obtain ⟨p, d, ws, rs, fa, n, ts, t, rfl, _⟩ := h
    rfl
  · obtain ⟨p, d, ws, rs, fa, n, ts, t, rfl, hB, hl, k⟩ := h
    obtain ⟨dx, fk, st, fc, u, as, bs, h1, h2, h3, h4, h5, h6, h7⟩ := hB
    refine ⟨_, (pss_cons (ps_expr (pe_bm PySem.F.plainAttrs_list PySem.F.slot_list_append PySem.F.type_list_append mt_append (pe_fld (pv 0) rfl) (pa_cons (pe_tup (pa_cons (pv 1) (pa_cons (Fx.pe_mc0 q__state T.cls hr (by decide) (pv 0)) pa_nil))) pa_nil)))
      (pss_one (ps_fld (pv 0) (pe_lst pa_nil) rfl))), ?_⟩
    walk_at "rd"
    refine ⟨p, C, dx, _, _, rfl, h1, T.cls, T.nD, rfl, ?_⟩
    walk_at "rd"
    refine ⟨.inl ⟨rfl, _, SqL.of h6⟩, ?_⟩
    walk_at "rd"
    refine ⟨p, dx, _, rfl, h1, rfl, ?_⟩
    refine ⟨p, dx, fk, st, fc, d, u, n, rfl, h1, fun q nq => ?_⟩
    walk_at "rd"
    refine ⟨by show 2 ≤ sizeLine; decide, fun r nr => ?_⟩
    have s1 : Same H (upd (upd H q (.tup [.ref fk, .ref st, .ref fc, .int n])) r (.tup [.str t, .ref q])) := Same.new (Same.new (Same.refl H) nq) nr
    refine ⟨d, _, _, rfl, rfl, s1 _ _ h6, ?_, ?_⟩
    · rw [List.length_map, h7.len]
      exact small1000 (by omega)
    walk_at "rd"
    refine ⟨Nat.zero_le _, fun v nv => ?_⟩
    have dp : d ≠ p := ne_of h6 h1 (by intro z; cases z)
    have rd : r ≠ d := (ne_of_none ((Same.new (Same.refl H) nq) _ _ h6) nr).symm
    have rp : r ≠ p := (ne_of_none ((Same.new (Same.refl H) nq) _ _ h1) nr).symm
    have vp : v ≠ p := fun z => by
      rw [z, upd_ne dp.symm, s1 _ _ h1] at nv
      cases nv
    have vr : v ≠ r := fun z => by
      rw [z, upd_ne rd, upd_same] at nv
      cases nv
    have vd : v ≠ d := fun z => by
      rw [z, upd_same] at nv
      cases nv
    walk_at "rd"
    refine ⟨p, C, dx, _, rfl, (upd_ne vp.symm).trans ((upd_ne dp.symm).trans (s1 _ _ h1)), T.cls, T.nU, by show 6 < 1000; decide, ?_⟩
    have kp : Kp2 H (upd (upd (upd (upd (upd H q (.tup [.ref fk, .ref st, .ref fc, .int n])) r (.tup [.str t, .ref q])) d (.lst (as.map V.ref ++ [.ref r]))) v (.lst [])) p (.ins C dx (BF fk st fc n d v))) p d := (((Kp2.of s1).up2).new nv).up1
    have tp := kp.tups h1 h6
    refine k _ kp ⟨dx, fk, st, fc, v, as ++ [r], bs, upd_same, tp _ _ h2, tp _ _ h3, h4.keep tp, tp _ _ h5, ?_, (h7.keep tp).snoc (s := q) ?_⟩
    · rw [upd_ne dp, upd_ne vd.symm, upd_same, List.map_append]
      rfl
    · rw [upd_ne rp, upd_ne vr.symm, upd_ne rd, upd_same]
abbrev s_Bench_change : Stmt := inClass (top 35) 10
theorem sc_Bench_change : FnScope ["self", "what", "value"] ["self", "what", "value"] (defScope s_Bench_change) := ⟨rfl, rfl, rfl, by decide +kernel, rfl, by decide +kernel, by decide +kernel⟩
def spChange (C CL CW : Addr) : Sp := fun vs H Q E => ∃ (p d : Addr) (ws : List Str) (rs : List (List Fx.FD)) (fa : List V) (n : Int) (ts : List Str) (t : Str) (m : Int), vs = [.ref p, .str t, .int m] ∧ BenchAt C H p d ws rs fa n ts ∧ ts.length ≤ 200 ∧ FmX 114 (.str t) ∧ m.natAbs < 10 ^ 40 ∧
  (t ≠ "limit" → ∀ e, H e = none → E (.ref CW) (some e) (upd H e (.xd [("word", .str t)]))) ∧ (t = "limit" → ¬ goodL m → ∀ e, H e = none → E (.ref CL) (some e) (upd H e (.xd [("value", .int m)]))) ∧
  (t = "limit" → goodL m → ∀ H', Kp2 H H' p d → BenchAt C H' p d ws rs fa m (ts ++ ["limit " ++ Tx.dec m]) → Q .non H')
theorem ok_change {f C CL CW : Addr} {fd : FuncData} (F : Fun K "change" "Bench.change" s_Bench_change f fd) (T : Tk P K mg C CL CW) (c_check_limit : CalX P w K mg base 3 "check_limit" (spCheckLimit CL)) (q__begin : Fx.MethC P w K mg base 2 C "_begin" (spBegin C)) : FnOk P w K mg base (L2N.CX P w) 4 f fd ["self", "what", "value"] (spChange C CL CW) := by
  refine F.okN sc_Bench_change (fun vs H Q E h => ?_) (fun cdv A outer s H vs Q E hr h => ?_)
  · obtain ⟨p, d, ws, rs, fa, n, ts, t, m, rfl, _⟩ := h
    rfl
  · obtain ⟨p, d, ws, rs, fa, n, ts, t, m, rfl, hB, hl, f1, f2, k1, k2, k3⟩ := h
    refine ⟨_, (pss_cons (ps_if (pt_cmpR op_ne (pv 1) pe_str (nomark _)) (pss_one (L2N.ps_raise rfl (L2N.takes_of rfl rfl rfl rfl) (by exact (pmk_err1 T.e_BadWord hr (pa_cons (pv 1) pa_nil))))) pss_nil)
      (pss_cons (ps_expr (pe_cX c_check_limit hr (by decide) rfl (L2N.takes_of rfl rfl rfl rfl) (pa_cons (pv 2) pa_nil)))
      (pss_cons (ps_expr (Fx.pe_mc q__begin T.cls hr (by decide) (pv 0) (pa_cons (Fx.pe_joinedD (.cons pe_str (.cons (pe_fmt (pv 2)) .nil))) pa_nil)))
      (pss_one (ps_fld (pv 0) (pv 2) rfl))))), ?_⟩
    walk_at "rd"
    refine ite2 (fun c => ?_) (fun c => ?_)
    · walk_at "rd"
      have c1 : t ≠ "limit" := by simpa using c
      exact ⟨⟨_, rfl, f1⟩, k1 c1⟩
    · have c1 : t = "limit" := by simpa using c
      walk_at "rd"
      refine ⟨fm_int f2, fun g => ?_, k2 c1⟩
      walk_at "rd"
      obtain ⟨dx, fk, st, fc, u, as, bs, h1, h2, h3, h4, h5, h6, h7⟩ := id hB
      refine ⟨p, dx, _, rfl, h1, rfl, ?_⟩
      walk_at "rd"
      have ln : ("limit " ++ Tx.dec m).length ≤ 1000 := by
        have := Tx.dec_len f2
        rw [Str.length_append]
        have : (Str.ofString "limit ").length = 6 := by decide +kernel
        omega
      have e0 : Str.empty ++ Str.ofString "limit " ++ toString m = "limit " ++ Tx.dec m := rfl
      refine ⟨by decide +kernel, ?_⟩
      walk_at "rd"
      refine .inr ⟨m, rfl, (fm_int f2).2, ?_⟩
      refine ⟨_, rfl, by rw [e0]; exact Nat.le_of_lt (small1000 ln), ?_⟩
      rw [e0]
      refine ⟨p, d, ws, rs, fa, n, ts, _, rfl, hB, hl, fun H1 kp hB1 => ?_⟩
      walk_at "rd"
      obtain ⟨dx1, fk1, st1, fc1, u1, as1, bs1, a1, a2, a3, a4, a5, a6, a7⟩ := id hB1
      refine ⟨p, C, dx1, _, rfl, a1, T.cls, T.nL, by show 6 < 1000; decide, ?_⟩
      have dp : d ≠ p := ne_of a6 a1 (by intro z; cases z)
      have tp : Tups H1 (upd H1 p (.ins C dx1 (BF fk1 st1 fc1 m d u1))) := (((Kp2.refl H1 p d)).up1 (o := .ins C dx1 (BF fk1 st1 fc1 m d u1))).tups a1 a6
      exact k3 c1 g _ kp.up1 ⟨dx1, fk1, st1, fc1, u1, as1, bs1, upd_same, tp _ _ a2, tp _ _ a3, a4.keep tp, tp _ _ a5, (upd_ne dp).trans a6, a7.keep tp⟩
abbrev s_Bench_history : Stmt := inClass (top 35) 13
theorem sc_Bench_history : FnScope ["self", "text", "_"] ["self"] (defScope s_Bench_history) := ⟨rfl, rfl, rfl, by decide +kernel, rfl, by decide +kernel, by decide +kernel⟩
def spHistory (C : Addr) : Sp := fun vs H Q _ => ∃ (p d : Addr) (ws : List Str) (rs : List (List Fx.FD)) (fa : List V) (n : Int) (ts : List Str), vs = [.ref p] ∧ BenchAt C H p d ws rs fa n ts ∧ ts.length ≤ 200 ∧
  ∀ q H', Same H H' → H q = none → H' q = some (.lst (ts.map V.str)) → Q (.ref q) H'
theorem ok_history {f C CL CW : Addr} {fd : FuncData} (F : Fun K "history" "Bench.history" s_Bench_history f fd) (T : Tk P K mg C CL CW) : FnOk P w K mg base CX0 1 f fd ["self"] (spHistory C) := by
  refine F.ok sc_Bench_history (fun vs H Q E h => ?_) (fun cdv A outer s H vs Q E hr h => ?_)
  · obtain ⟨p, d, ws, rs, fa, n, ts, rfl, _⟩ := h
    rfl
  · obtain ⟨p, d, ws, rs, fa, n, ts, rfl, hB, hl, k⟩ := h
    obtain ⟨dx, fk, st, fc, u, as, bs, h1, h2, h3, h4, h5, h6, h7⟩ := hB
    refine ⟨_, (pss_one (ps_ret (pe_lc (own := [("text", 1), ("_", 2)]) (g := (gTup K 2 (gCons (gName 1) (gCons (gName 2) gNil)))) (tt := tYes) rfl sc_Bench_history.nd (pi_list (pe_fld (pv 0) rfl)) (blkOk_by (own := [("text", 1), ("_", 2)]) (N := ["self", "text", "_"]) (sc := defScope s_Bench_history) (by decide +kernel)) (fun _ _ _ _ _ => (show PG _ _ (gTup K 2 (gCons (gName 1) (gCons (gName 2) gNil))) from pg_tup rfl (pgs_cons (pg_name (i := 1) sc_Bench_history.nd rfl (by first | exact Or.inl rfl | exact Or.inr rfl)) (pgs_cons (pg_name (i := 2) sc_Bench_history.nd rfl (by first | exact Or.inl rfl | exact Or.inr rfl)) pgs_nil)))) (fun _ _ _ _ _ => pts_nil) (fun _ _ _ _ _ => (pv 1))))), ?_⟩
    walk_at "rd"
    refine ⟨p, C, dx, _, _, rfl, h1, T.cls, T.nD, rfl, ?_⟩
    walk_at "rd"
    refine ⟨⟨_, SqL.of h6⟩, fun D nD => ?_⟩
    refine lc_list (K := K) (a := d) (xs := as.map V.ref) (fun i H' => H' D = some (.lst ((ts.take i).map V.str)) ∧ Same H H') ⟨upd_same, Same.new (Same.refl H) nD⟩ (fun i H' _ hp => SqL.of (hp.2 _ _ h6)) (fun i x H' hi hp => ?_) (fun H' hp => ?_)
    · obtain ⟨hD, hs⟩ := hp
      obtain ⟨a, ha, rfl⟩ : ∃ a, as[i]? = some a ∧ x = .ref a := by
        rw [List.getElem?_map] at hi
        cases e : as[i]? with
        | none =>
          rw [e] at hi
          cases hi
        | some a =>
          rw [e] at hi
          cases hi
          exact ⟨a, rfl, rfl⟩
      obtain ⟨t, q, e1, e2⟩ := h7.get ha
      refine ⟨a, _, rfl, SqT.of (hs _ _ e2), rfl, ?_⟩
      refine ⟨_, _, rfl, _, _, rfl, rfl, ?_⟩
      refine ⟨rfl, ?_⟩
      walk_at "rd"
      have it : i < ts.length := (List.getElem?_eq_some_iff.mp e1).1
      refine ⟨_, hD, ?_, ?_, Same.set hs nD⟩
      · rw [List.length_map, List.length_take]
        exact small1000 (by omega)
      · rw [upd_same, List.take_succ, e1, List.map_append]
        rfl
    · obtain ⟨hD, hs⟩ := hp
      rw [List.length_map, h7.len, List.take_length] at hD
      walk_at "rd"
      exact k D H' hs nD hD
end
end Fk

namespace Fk
open PySem L2 ClX
local macro_rules | `(tactic| walk_at "rdc") => `(tactic| (first | exact Or.inl ⟨by decide, by decide⟩ | exact Or.inr ⟨by decide, by decide⟩ | exact ⟨by decide, by decide⟩ | exact Or.inl ⟨by omega, by omega⟩ | exact Or.inr ⟨by omega, by omega⟩ | ((show (0 : Int) < _); (first | decide | omega)) | exact ⟨by decide, by decide, by decide⟩ | exact ⟨by omega, by assumption⟩))
local macro_rules | `(tactic| walk_at "hp") => `(tactic| (first | exact upd_same | assumption | ((rw [upd_ne (by assumption)]); (first | exact upd_same | assumption | ((rw [upd_ne (by assumption)]); (first | exact upd_same | assumption | ((rw [upd_ne (by assumption)]); (first | exact upd_same | assumption))))))))
local macro_rules | `(tactic| walk_at "r1") => `(tactic| (first | refine ⟨_, rfl, ?_⟩ | refine ⟨_, _, rfl, rfl, ?_⟩ | refine ⟨_, _, rfl, ?_⟩ | refine Or.inl ⟨_, rfl, ?_⟩ | refine ⟨rfl, ?_⟩ | refine ⟨(by walk_at "rdc"), ?_⟩ | refine ⟨_, _, _, _, rfl, rfl, SqL.of (by walk_at "hp"), rfl, ?_⟩ | refine ⟨_, _, _, _, rfl, rfl, (by walk_at "hp"), rfl, ?_⟩ | refine ⟨_, _, _, _, rfl, rfl, SqL.of (by walk_at "hp"), by assumption, ?_⟩))
local macro_rules | `(tactic| walk_at "rd") => `(tactic| (repeat walk_at "r1"))
--#ty * ._forks=t ._strikes=t ._facts=t ._done=l ._undone=l ._limit=i
--#ty check_room what=s
--#ty check_new names=t forks=t seen=d name=s @name=s
--#ty check_known names=l forks=t name=s
--#ty check_strike forks=t a=s b=s
--#ty spaced word=s others=t
--#ty Bench.add self=o names=t
--#ty Bench.add_all self=o names=t
--#ty Bench.strike self=o a=s b=s
--#ty Bench.strikes self=o
--#ty Bench.forks self=o
--#ret spaced s
--#raising check_count check_room check_new check_name check_known check_strike
--#okX check_count check_room check_new check_known check_strike Bench.add_all Bench.add Bench.strike
--#meth _begin
--#methX add_all
--#catA 1
section
variable {P : Program} {w : World} {K : PySem.W.Frag} {mg : Str → Option Value} {base : Heap}
/-- what strikes and new forks ask of the module -/
structure Ts (P : Program) (K : PySem.W.Frag) (mg : Str → Option Value) (C CF CB CR CU CC : Addr) : Prop where
  g_Bench : mg "Bench" = some (.ref C)
  g_Fact : mg "Fact" = some (.ref CF)
  e_BadName : Err1 P K mg "BadName" CB "name" 114
  e_RepeatedFork : Err1 P K mg "RepeatedFork" CR "name" 114
  e_UnknownFork : Err1 P K mg "UnknownFork" CU "name" 114
  e_BadCount : Err1 P K mg "BadCount" CC "count" (-1)
  rd : CRead K C (.type "type")
  rf : CRead K CF (.type "type")
  forks : ∃ t, CVal K C (.type "type") "MOST_FORKS" (.int 10) (.int 10 t)
  strikes : ∃ t, CVal K C (.type "type") "MOST_STRIKES" (.int 20) (.int 20 t)
  count : ∃ t, CVal K CF (.type "type") "MOST_COUNT" (.int 1000000000) (.int 1000000000 t)
  b_len : mg "len" = none
  b_tuple : mg "tuple" = none
  b_list : mg "list" = none
  cls : Cls K C
  nF : NoAttr K C "_forks"
  nS : NoAttr K C "_strikes"
abbrev s_check_count : Stmt := top 18
theorem sc_check_count : FnScope ["count"] ["count"] (defScope s_check_count) := ⟨rfl, rfl, rfl, by decide +kernel, rfl, by decide +kernel, by decide +kernel⟩
def goodC (n : Int) : Prop := 0 ≤ n ∧ n ≤ 1000000000
instance (n : Int) : Decidable (goodC n) := by unfold goodC; exact inferInstance
def spCheckCount (CC : Addr) : Sp := fun vs H Q E => ∃ n : Int, vs = [.int n] ∧ n.natAbs < 10 ^ 40 ∧ (goodC n → Q .non H) ∧ (¬ goodC n → ∀ e, H e = none → E (.ref CC) (some e) (upd H e (.xd [("count", .int n)])))
theorem ok_check_count {f C CF CB CR CU CC : Addr} {fd : FuncData} (F : Fun K "check_count" "check_count" s_check_count f fd) (T : Ts P K mg C CF CB CR CU CC) : FnOk P w K mg base (L2N.CX P w) 3 f fd ["count"] (spCheckCount CC) := by
  refine F.okN sc_check_count (fun vs H Q E h => ?_) (fun cdv A outer s H vs Q E hr h => ?_)
  · obtain ⟨n, rfl, _⟩ := h
    rfl
  · obtain ⟨n, rfl, fm, k1, k2⟩ := h
    refine ⟨_, (pss_one (ps_if (PW.pt (pw_or (pt_cmpR op_lt (pv 0) pe_int (nomark _)) (pw_or1 (pt_cmpR op_gt (pv 0) (pe_cval (pe_glob (v := .ref _) rfl T.g_Fact rfl)) (nomark _))))) (pss_one (L2N.ps_raise rfl (L2N.takes_of rfl rfl rfl rfl) (by exact (pmk_err1 T.e_BadCount hr (pa_cons (pv 0) pa_nil))))) pss_nil)), ?_⟩
    walk_at "rd"
    obtain ⟨t, hm⟩ := T.count
    refine ite2 (fun c => ?_) (fun c => ?_)
    · walk_at "rd"
      have c1 : n < 0 := by simpa using c
      exact ⟨⟨_, rfl, fm_int fm⟩, k2 fun g => absurd g.1 (by omega)⟩
    · have c1 : ¬ n < 0 := by simpa using c
      walk_at "rd"
      refine ⟨_, _, _, _, rfl, T.rf, hm, ?_⟩
      walk_at "rd"
      refine ite2 (fun c => ?_) (fun c => ?_)
      · have c2 : 1000000000 < n := by simpa using c
        walk_at "rd"
        exact ⟨⟨_, rfl, fm_int fm⟩, k2 fun g => absurd g.2 (by omega)⟩
      · have c2 : ¬ 1000000000 < n := by simpa using c
        walk_at "rd"
        exact k1 ⟨by omega, by omega⟩
abbrev s_check_room : Stmt := top 28
theorem sc_check_room : FnScope ["what", "many", "most"] ["what", "many", "most"] (defScope s_check_room) := ⟨rfl, rfl, rfl, by decide +kernel, rfl, by decide +kernel, by decide +kernel⟩
def spRoom : Sp := fun vs H Q _ => ∃ (z : Str) (a b : Int), vs = [.str z, .int a, .int b] ∧ a ≤ b ∧ Q .non H
theorem ok_check_room {f : Addr} {fd : FuncData} (F : Fun K "check_room" "check_room" s_check_room f fd) : FnOk P w K mg base (L2N.CX P w) 1 f fd ["what", "many", "most"] spRoom := by
  refine F.okN sc_check_room (fun vs H Q E h => ?_) (fun cdv A outer s H vs Q E hr h => ?_)
  · obtain ⟨z, a, b, rfl, _⟩ := h
    rfl
  · obtain ⟨z, a, b, rfl, hab, k⟩ := h
    refine ⟨_, (pss_one (ps_if (pt_cmpR op_gt (pv 1) (pv 2) (nomark _)) (pss_one Fx.ps_dead) pss_nil)), ?_⟩
    walk_at "rd"
    refine ite2 (fun c => absurd (show b < a by simpa using c) (by omega)) (fun c => ?_)
    walk_at "rd"
    exact k
theorem sum_le {m : Nat} : ∀ {l : List Str}, (∀ y ∈ l, y.length ≤ m) → (l.map fun x => x.length).sum ≤ l.length * m
  | [], _ => by simp
  | y :: l, h => by
    have a := h y List.mem_cons_self
    have b := sum_le (l := l) fun z hz => h z (List.mem_cons_of_mem _ hz)
    rw [List.map_cons, List.sum_cons, List.length_cons, Nat.add_mul]
    omega
abbrev s_spaced : Stmt := top 20
theorem sc_spaced : FnScope ["word", "others"] ["word", "others"] (defScope s_spaced) := ⟨rfl, rfl, rfl, by decide +kernel, rfl, by decide +kernel, by decide +kernel⟩
def spSpaced : Sp := fun vs H Q _ => ∃ (z : Str) (t : Addr) (zs : List Str), vs = [.str z, .ref t] ∧ H t = some (.tup (zs.map V.str)) ∧ zs.length ≤ 100 ∧ z.length ≤ 1000 ∧ (∀ y ∈ zs, y.length ≤ 1000) ∧ ∀ H', Same H H' → Q (.str (Txt.join " " (z :: zs))) H'
theorem ok_spaced {f : Addr} {oc kV dc pm cd ct : Value} {od an : Option Addr} {sl : Array (Option Value)} (lk : K.lookup f = some ⟨oc, od, .func (PySem.W.fnOf "spaced" "spaced" (defArgs s_spaced) (defBody s_spaced) (defScope s_spaced) .none kV dc pm an cd ct), sl⟩) (hcd : PySem.W.codeIn K cd "spaced" = true) :
    L2.FnR P w K mg base CX0 2 f (fun vs H Q E => ∃ ws rest, vs = ws ++ rest ∧ ws.length = ["word"].length ∧ rest.length ≤ sizeLine ∧ ∀ p, H p = Option.none → spSpaced (ws ++ [V.ref p]) (upd H p (.tup rest)) Q E) := by
  refine StX.fn_star (ps := ["word"]) (pv := "others") lk hcd sc_spaced StX.cxUp_none (fun us rest hl => match us, rest, hl with | [_], [], _ => rfl | [_], _ :: _, _ => rfl) (fun A outer s H vs Q E hr h => ?_)
  obtain ⟨z, t, zs, rfl, ht, hl, hz, hy, k⟩ := h
  refine ⟨_, (pss_one (ps_ret (pe_join pe_str (pe_lst (pa_cons (pv 0) (StX.pa_star (pv 1) pa_nil)))))), ?_⟩
  walk_at "rd"
  refine ⟨⟨_, rfl⟩, _, rfl, _, rfl, t, zs.map V.str, rfl, .inl (SqT.of ht), ?_⟩
  walk_at "rd"
  refine ⟨?_, fun D nD => ?_⟩
  · simp only [List.length_cons, List.length_append, List.length_map, List.length_nil]
    exact Nat.le_of_lt (small1000 (by omega))
  refine ⟨_, D, z :: zs, rfl, rfl, .inl (SqL.of ?_), ?_, k _ (Same.new (Same.refl H) nD)⟩
  · rw [upd_same, List.append_nil]
    rfl
  · have a := sum_le (m := 1000) (l := z :: zs) fun y h => (List.mem_cons.mp h).elim (fun e => e ▸ hz) (hy y)
    have b : (Str.ofString " ").length = 1 := by decide +kernel
    rw [b]
    rw [List.length_cons] at a ⊢
    have c : (zs.length + 1) * 1000 ≤ 101 * 1000 := Nat.mul_le_mul_right _ (by omega)
    omega
abbrev s_check_new : Stmt := top 29
theorem sc_check_new : FnScope ["names", "forks", "name", "seen"] ["names", "forks"] (defScope s_check_new) := ⟨rfl, rfl, rfl, by decide +kernel, rfl, by decide +kernel, by decide +kernel⟩
/-- what is wrong first with the first i of zs, new beside ws -/
def vn (ws zs : List Str) : Nat → Option (Bool × Str)
  | 0 => none
  | i + 1 => match vn ws zs i with
    | some v => some v
    | none => match zs[i]? with
      | some z => if nameB z = false then some (true, z) else if z ∈ ws ++ zs.take i then some (false, z) else none
      | none => none
theorem vn_stays {ws zs : List Str} {i : Nat} {v : Bool × Str} (h : vn ws zs i = some v) : ∀ {j : Nat}, i ≤ j → vn ws zs j = some v
  | 0, hj => by
    have : i = 0 := by omega
    rw [← this]
    exact h
  | j + 1, hj => by
    by_cases e : i = j + 1
    · rw [← e]
      exact h
    · unfold vn
      rw [vn_stays h (show i ≤ j by omega)]
theorem vn_next {ws zs : List Str} {i : Nat} {z : Str} (h : vn ws zs i = none) (hz : zs[i]? = some z) : vn ws zs (i + 1) = if nameB z = false then some (true, z) else if z ∈ ws ++ zs.take i then some (false, z) else none := by
  show (match vn ws zs i with | some v => some v | none => match zs[i]? with | some z => (if nameB z = false then some (true, z) else if z ∈ ws ++ zs.take i then some (false, z) else none) | none => none) = _
  rw [h, hz]
/-- names, each told True -/
def tru (ws : List Str) : List (Key × V) := ws.map fun z => ((Sum.inr z : Key), V.bl true)
theorem tru_some (z : Str) : ∀ ws : List Str, (valV (tru ws) (Sum.inr z : Key)).isSome = decide (z ∈ ws)
  | [] => by simp [tru, valV]
  | y :: l => by
    have ih := tru_some z l
    by_cases e : y = z
    · subst e
      simp [tru, valV]
    · have e2 : tru (y :: l) = (Sum.inr y, V.bl true) :: tru l := rfl
      rw [e2, valV_neg (fun q => e (Sum.inr.inj q)), ih]
      have : (z = y) = False := eq_false fun q => e q.symm
      simp [this]
theorem tru_new {z : Str} {ws : List Str} (h : z ∉ ws) : putK (tru ws) (Sum.inr z) (V.bl true) = tru (ws ++ [z]) := by
  have f : valV (tru ws) (Sum.inr z : Key) = none := by
    have q := tru_some z ws
    rw [decide_eq_false h] at q
    simpa using q
  rw [putK_new _ f]
  unfold tru
  rw [List.map_append]
  rfl
theorem take_nx {α : Type} {l : List α} {i : Nat} {x : α} (h : l[i]? = some x) : l.take (i + 1) = l.take i ++ [x] := by
  rw [List.take_succ, h]
  rfl
def spNewNames (CB CR : Addr) : Sp := fun vs H Q E => ∃ (t f : Addr) (zs ws : List Str), vs = [.ref t, .ref f] ∧ H t = some (.tup (zs.map V.str)) ∧ H f = some (.tup (ws.map V.str)) ∧ ws.Nodup ∧ ws.length ≤ 100 ∧ zs.length ≤ 100 ∧ (∀ z ∈ zs, z.length ≤ 1000 ∧ FmX 114 (.str z)) ∧
  match vn ws zs zs.length with
  | none => ∀ H', Same H H' → Q .non H'
  | some (bad, z) => ∀ (d : Addr) H', Same H H' → H d = none → H' d = some (.xd [("name", .str z)]) → E (.ref (if bad then CB else CR)) (some d) H'
theorem ok_check_new {f C CF CB CR CU CC : Addr} {fd : FuncData} (F : Fun K "check_new" "check_new" s_check_new f fd) (T : Ts P K mg C CF CB CR CU CC) (c_check_name : CalX P w K mg base 3 "check_name" (spCheck CB)) : FnOk P w K mg base (L2N.CX P w) 4 f fd ["names", "forks"] (spNewNames CB CR) := by
  refine F.okN sc_check_new (fun vs H Q E h => ?_) (fun cdv A outer s H vs Q E hr h => ?_)
  · obtain ⟨t, f, zs, ws, rfl, _⟩ := h
    rfl
  · obtain ⟨t, f, zs, ws, rfl, ht, hf, hn, hl, hz, hw, k⟩ := h
    have hu := hu_of hr
    refine ⟨_, (pss_cons (Fx.ps_setDc (i := 3) (own := [("name", 2)]) (g := gName 2) (tt := tYes) rfl sc_check_new.nd rfl rfl (Fx.sw_trueD rfl rfl rfl (by decide +kernel)) (pi_tup (pv 1)) (blkOk_by (own := [("name", 2)]) (N := ["names", "forks", "name", "seen"]) (sc := defScope s_check_new) (by decide +kernel)) (fun _ _ _ _ _ => pg_name (i := 2) sc_check_new.nd rfl (by first | exact Or.inl rfl | exact Or.inr rfl)) (fun _ _ _ _ _ => pts_nil) (fun _ _ _ _ _ => (pv 2)) (fun _ _ _ _ _ => pe_bl))
      (pss_one (ps_for (passes_of rfl) rfl (pi_tup (pv 0)) (pg_name (i := 2) sc_check_new.nd rfl (by first | exact Or.inl rfl | exact Or.inr rfl)) (pss_cons (ps_expr (pe_cX c_check_name hr (by decide) rfl (L2N.takes_of rfl rfl rfl rfl) (pa_cons (pv 2) pa_nil)))
      (pss_cons (ps_if (pt_cmp (pc_din hu (pv 2) (pv 3))) (pss_one (L2N.ps_raise rfl (L2N.takes_of rfl rfl rfl rfl) (by exact (pmk_err1 T.e_RepeatedFork hr (pa_cons (pv 2) pa_nil))))) pss_nil)
      (pss_one (ps_dput hu (pv 3) (pv 2) pe_bl rfl))))))), ?_⟩
    walk_at "rd"
    refine ⟨⟨_, SqT.of hf⟩, fun D nD => ?_⟩
    refine dc_tup (K := K) (a := f) (xs := ws.map V.str) (fun i H' => H' D = some (.dK (tru (ws.take i))) ∧ Same H H') ⟨upd_same, Same.new (Same.refl H) nD⟩ (fun i H' _ hp => SqT.of (hp.2 _ _ hf)) (fun i x H' hi hp => ?_) (fun H1 hp => ?_)
    · obtain ⟨hD, hs⟩ := hp
      obtain ⟨z, hz1, rfl⟩ := strs_at hi
      have it : i < ws.length := (List.getElem?_eq_some_iff.mp hz1).1
      refine ⟨rfl, ?_⟩
      walk_at "rd"
      have fr : z ∉ ws.take i := fun q => by
        obtain ⟨j, hj, e⟩ := List.mem_take_iff_getElem.mp q
        have e2 : ws[i] = z := by
          have := List.getElem?_eq_getElem it
          rw [this] at hz1
          exact Option.some.inj hz1
        have := (List.getElem_inj (h₀ := by omega) (h₁ := it) hn).mp (e.trans e2.symm)
        omega
      refine ⟨_, Sum.inr z, rfl, hD, ?_, ?_, Same.set hs nD⟩
      · refine small1000 ?_
        unfold tru
        rw [List.length_map, List.length_take]
        omega
      · rw [upd_same, tru_new fr, take_nx hz1]
    · obtain ⟨hD, hs⟩ := hp
      rw [List.length_map, List.take_length] at hD
      walk_at "rd"
      refine ⟨⟨_, SqT.of (hs _ _ ht)⟩, ?_⟩
      refine for_tup (K := K) (a := t) (xs := zs.map V.str) (fun i σ H' => vn ws zs i = none ∧ (∃ u, σ = [some (.ref t), some (.ref f), u, some (.ref D)]) ∧ H' D = some (.dK (tru (ws ++ zs.take i))) ∧ Same H H')
        ⟨rfl, ⟨_, rfl⟩, by rw [List.take_zero, List.append_nil]; exact hD, hs⟩ (fun i σ H' _ hp => SqT.of (hp.2.2.2 _ _ ht)) (fun i x σ H' hi hp => ?_) (fun σ H' hp => ?_)
      · obtain ⟨hv, ⟨u, rfl⟩, hD', hs'⟩ := hp
        obtain ⟨z, hz1, rfl⟩ := strs_at hi
        have hmem := hw z (List.mem_of_getElem? hz1)
        have il : i < zs.length := (List.getElem?_eq_some_iff.mp hz1).1
        have next := vn_next hv hz1
        walk_at "rd"
        refine ⟨hmem.1, hmem.2, fun good => ?_, fun bad d hd => ?_⟩
        · rw [if_neg (by rw [good]; decide)] at next
          walk_at "rd"
          refine ⟨D, _, rfl, DGet.k (k := Sum.inr z) hD', ?_⟩
          walk_at "rd"
          rw [tru_some]
          refine ite2 (fun c => ?_) (fun c => ?_)
          · rw [if_pos (of_decide_eq_true c)] at next
            rw [vn_stays next il] at k
            walk_at "rd"
            exact ⟨⟨_, rfl, hmem.2⟩, fun d hd => k d _ (Same.new hs' hd) (Same.free hs' hd) upd_same⟩
          · have c' : z ∉ ws ++ zs.take i := fun q => c (decide_eq_true q)
            rw [if_neg c'] at next
            walk_at "rd"
            refine ⟨D, _, rfl, DPut.k (k := Sum.inr z) hD' ?_, next, ⟨_, rfl⟩, ?_, Same.set hs' nD⟩
            · refine small1000 ?_
              unfold tru
              rw [List.length_map, List.length_append, List.length_take]
              omega
            · rw [upd_same, tru_new c', List.append_assoc, take_nx hz1]
        · rw [if_pos bad] at next
          rw [vn_stays next il] at k
          exact k d _ (Same.new hs' hd) (Same.free hs' hd) upd_same
      · obtain ⟨hv, ⟨u, rfl⟩, hD', hs'⟩ := hp
        rw [List.length_map] at hv
        rw [hv] at k
        walk_at "rd"
        exact k H' hs'
abbrev s_check_known : Stmt := top 30
theorem sc_check_known : FnScope ["names", "forks", "name"] ["names", "forks"] (defScope s_check_known) := ⟨rfl, rfl, rfl, by decide +kernel, rfl, by decide +kernel, by decide +kernel⟩
def spKnown (CU : Addr) : Sp := fun vs H Q E => ∃ (t f : Addr) (zs ws : List Str), vs = [.ref t, .ref f] ∧ H t = some (.lst (zs.map V.str)) ∧ (H f = some (.tup (ws.map V.str)) ∨ H f = some (.lst (ws.map V.str))) ∧ ws.length ≤ 100 ∧ (∀ z ∈ zs, FmX 114 (.str z)) ∧
  match zs.find? (fun z => !decide (z ∈ ws)) with
  | none => Q .non H
  | some z => ∀ d, H d = none → E (.ref CU) (some d) (upd H d (.xd [("name", .str z)]))
theorem find_take {zs : List Str} {p : Str → Bool} : ∀ {i : Nat} {z : Str}, (zs.take i).find? p = none → zs[i]? = some z → p z = true → zs.find? p = some z := by
  induction zs with
  | nil => intro i z _ h; simp at h
  | cons y zs ih =>
    intro i z h e pz
    cases i with
    | zero =>
      simp at e
      subst e
      rw [List.find?_cons, pz]
    | succ i =>
      simp at e
      rw [List.take_succ_cons, List.find?_cons] at h
      cases py : p y with
      | true => rw [py] at h; cases h
      | false =>
        rw [py] at h
        rw [List.find?_cons, py]
        exact ih h e pz
theorem ok_check_known {f C CF CB CR CU CC : Addr} {fd : FuncData} (F : Fun K "check_known" "check_known" s_check_known f fd) (T : Ts P K mg C CF CB CR CU CC) : FnOk P w K mg base (L2N.CX P w) 2 f fd ["names", "forks"] (spKnown CU) := by
  refine F.okN sc_check_known (fun vs H Q E h => ?_) (fun cdv A outer s H vs Q E hr h => ?_)
  · obtain ⟨t, f, zs, ws, rfl, _⟩ := h
    rfl
  · obtain ⟨t, f, zs, ws, rfl, ht, hf, hl, hz, k⟩ := h
    refine ⟨_, (pss_one (ps_for (passes_of rfl) rfl (pi_list (pv 0)) (pg_name (i := 2) sc_check_known.nd rfl (by first | exact Or.inl rfl | exact Or.inr rfl)) (pss_one (ps_if (pt_cmpR op_notIn_seq (pv 2) (pv 1) (by rfl)) (pss_one (L2N.ps_raise rfl (L2N.takes_of rfl rfl rfl rfl) (by exact (pmk_err1 T.e_UnknownFork hr (pa_cons (pv 2) pa_nil))))) pss_nil)))), ?_⟩
    walk_at "rd"
    refine ⟨⟨_, SqL.of ht⟩, ?_⟩
    refine for_list (K := K) (a := t) (xs := zs.map V.str) (fun i σ H' => H' = H ∧ (zs.take i).find? (fun z => !decide (z ∈ ws)) = none ∧ ∃ u, σ = [some (.ref t), some (.ref f), u])
      ⟨rfl, by simp, _, rfl⟩ (fun i σ H' _ hp => by rw [hp.1]; exact SqL.of ht) (fun i x σ H' hi hp => ?_) (fun σ H' hp => ?_)
    · obtain ⟨rfl, hv, u, rfl⟩ := hp
      obtain ⟨z, hz1, rfl⟩ := strs_at hi
      walk_at "rd"
      refine ⟨f, _, rfl, hf.elim (fun h => .inr (SqT.of h)) (fun h => .inl (SqL.of h)), rfl, strs_flat ws, _, rfl, ?_⟩
      rw [inV_strs]
      refine ite2 (fun c => ?_) (fun c => ?_)
      · have pz : (!decide (z ∈ ws)) = true := by simpa using c
        have fm := hz z (List.mem_of_getElem? hz1)
        rw [find_take hv hz1 pz] at k
        walk_at "rd"
        exact ⟨⟨_, rfl, fm⟩, k⟩
      · have pz : (!decide (z ∈ ws)) = false := by simpa using c
        walk_at "rd"
        refine ⟨?_, _, rfl⟩
        rw [take_nx hz1, List.find?_append, hv, List.find?_cons, pz]
        rfl
    · obtain ⟨rfl, hv, u, rfl⟩ := hp
      rw [List.length_map, List.take_length] at hv
      rw [hv] at k
      walk_at "rd"
      exact k
abbrev s_check_strike : Stmt := top 31
theorem sc_check_strike : FnScope ["forks", "a", "b", "count"] ["forks", "a", "b", "count"] (defScope s_check_strike) := ⟨rfl, rfl, rfl, by decide +kernel, rfl, by decide +kernel, by decide +kernel⟩
/-- what is wrong with a strike -/
inductive Wrong where
  | unknown (z : Str)
  | twice (z : Str)
  | count (n : Int)
def sv (ws : List Str) (a b : Str) (n : Int) : Option Wrong :=
  if a ∉ ws then some (.unknown a) else if b ∉ ws then some (.unknown b) else if a = b then some (.twice b) else if ¬ goodC n then some (.count n) else none
def Wrong.cls (CR CU CC : Addr) : Wrong → Addr
  | .unknown _ => CU
  | .twice _ => CR
  | .count _ => CC
def Wrong.fs : Wrong → List (Str × V)
  | .unknown z => [("name", .str z)]
  | .twice z => [("name", .str z)]
  | .count n => [("count", .int n)]
def spCheckStrike (CR CU CC : Addr) : Sp := fun vs H Q E => ∃ (f : Addr) (ws : List Str) (a b : Str) (n : Int), vs = [.ref f, .str a, .str b, .int n] ∧ H f = some (.tup (ws.map V.str)) ∧ ws.length ≤ 100 ∧ FmX 114 (.str a) ∧ FmX 114 (.str b) ∧ n.natAbs < 10 ^ 40 ∧
  match sv ws a b n with
  | none => ∀ H', Same H H' → Q .non H'
  | some x => ∀ d H', Same H H' → H d = none → H' d = some (.xd x.fs) → E (.ref (x.cls CR CU CC)) (some d) H'
theorem ok_check_strike {f C CF CB CR CU CC : Addr} {fd : FuncData} (F : Fun K "check_strike" "check_strike" s_check_strike f fd) (T : Ts P K mg C CF CB CR CU CC) (c_check_known : CalX P w K mg base 2 "check_known" (spKnown CU)) (c_check_count : CalX P w K mg base 3 "check_count" (spCheckCount CC)) : FnOk P w K mg base (L2N.CX P w) 4 f fd ["forks", "a", "b", "count"] (spCheckStrike CR CU CC) := by
  refine F.okN sc_check_strike (fun vs H Q E h => ?_) (fun cdv A outer s H vs Q E hr h => ?_)
  · obtain ⟨f, ws, a, b, n, rfl, _⟩ := h
    rfl
  · obtain ⟨f, ws, a, b, n, rfl, hf, hl, fa, fb, fn, k⟩ := h
    refine ⟨_, (pss_cons (ps_expr (pe_cX c_check_known hr (by decide) rfl (L2N.takes_of rfl rfl rfl rfl) (pa_cons (pe_lst (pa_cons (pv 1) (pa_cons (pv 2) pa_nil))) (pa_cons (pv 0) pa_nil))))
      (pss_cons (ps_if (pt_cmpR op_eq (pv 1) (pv 2) (nomark _)) (pss_one (L2N.ps_raise rfl (L2N.takes_of rfl rfl rfl rfl) (by exact (pmk_err1 T.e_RepeatedFork hr (pa_cons (pv 2) pa_nil))))) pss_nil)
      (pss_one (ps_expr (pe_cX c_check_count hr (by decide) rfl (L2N.takes_of rfl rfl rfl rfl) (pa_cons (pv 3) pa_nil)))))), ?_⟩
    walk_at "rd"
    refine ⟨by show 2 ≤ sizeLine; decide, fun D nD => ?_⟩
    have sD : Same H (upd H D (.lst [.str a, .str b])) := Same.new (Same.refl H) nD
    walk_at "rd"
    refine ⟨D, f, [a, b], ws, rfl, upd_same, .inl (sD _ _ hf), hl, ?_, ?_⟩
    · intro z hz
      simp only [List.mem_cons, List.not_mem_nil, or_false] at hz
      rcases hz with rfl | rfl
      · exact fa
      · exact fb
    by_cases ha : a ∈ ws
    · by_cases hb : b ∈ ws
      · have e : [a, b].find? (fun z => !decide (z ∈ ws)) = none := by simp [ha, hb]
        rw [e]
        walk_at "rd"
        unfold sv at k
        rw [if_neg (by simpa using ha), if_neg (by simpa using hb)] at k
        refine ite2 (fun c => ?_) (fun c => ?_)
        · have c1 : a = b := by simpa using c
          rw [if_pos c1] at k
          walk_at "rd"
          exact ⟨⟨_, rfl, fb⟩, fun d hd => k d _ (Same.new sD hd) (Same.free sD hd) upd_same⟩
        · have c1 : a ≠ b := by simpa using c
          rw [if_neg c1] at k
          walk_at "rd"
          refine ⟨fn, fun g => ?_, fun g d hd => ?_⟩
          · rw [if_neg (by simpa using g)] at k
            walk_at "rd"
            exact k _ sD
          · rw [if_pos g] at k
            exact k d _ (Same.new sD hd) (Same.free sD hd) upd_same
      · have e : [a, b].find? (fun z => !decide (z ∈ ws)) = some b := by simp [ha, hb]
        rw [e]
        unfold sv at k
        rw [if_neg (by simpa using ha), if_pos hb] at k
        exact fun d hd => k d _ (Same.new sD hd) (Same.free sD hd) upd_same
    · have e : [a, b].find? (fun z => !decide (z ∈ ws)) = some a := by simp [ha]
      rw [e]
      unfold sv at k
      rw [if_pos ha] at k
      exact fun d hd => k d _ (Same.new sD hd) (Same.free sD hd) upd_same
abbrev s_Bench_forks : Stmt := inClass (top 35) 14
theorem sc_Bench_forks : FnScope ["self"] ["self"] (defScope s_Bench_forks) := ⟨rfl, rfl, rfl, by decide +kernel, rfl, by decide +kernel, by decide +kernel⟩
def spForks (C : Addr) : Sp := fun vs H Q _ => ∃ (p d : Addr) (ws : List Str) (rs : List (List Fx.FD)) (fa : List V) (n : Int) (ts : List Str), vs = [.ref p] ∧ BenchAt C H p d ws rs fa n ts ∧ ∀ q, H q = none → Q (.ref q) (upd H q (.lst (ws.map V.str)))
theorem ok_forks {f C CF CB CR CU CC : Addr} {fd : FuncData} (F : Fun K "forks" "Bench.forks" s_Bench_forks f fd) (T : Ts P K mg C CF CB CR CU CC) : FnOk P w K mg base CX0 1 f fd ["self"] (spForks C) := by
  refine F.ok sc_Bench_forks (fun vs H Q E h => ?_) (fun cdv A outer s H vs Q E hr h => ?_)
  · obtain ⟨p, d, ws, rs, fa, n, ts, rfl, _⟩ := h
    rfl
  · obtain ⟨p, d, ws, rs, fa, n, ts, rfl, hB, k⟩ := h
    obtain ⟨dx, fk, st, fc, u, as, bs, h1, h2, h3, h4, h5, h6, h7⟩ := hB
    refine ⟨_, (pss_one (ps_ret (pe_callTy call_list_of (by rfl) T.b_list (by decide +kernel) (pa_cons (pe_fld (pv 0) rfl) pa_nil)))), ?_⟩
    walk_at "rd"
    refine ⟨p, C, dx, _, _, rfl, h1, T.cls, T.nF, rfl, ?_⟩
    walk_at "rd"
    exact ⟨fk, _, rfl, .inr (SqT.of h2), fun q nq => k q nq⟩
abbrev s_Bench_strikes : Stmt := inClass (top 35) 15
theorem sc_Bench_strikes : FnScope ["self"] ["self"] (defScope s_Bench_strikes) := ⟨rfl, rfl, rfl, by decide +kernel, rfl, by decide +kernel, by decide +kernel⟩
/-- .. the list of its strikes, at the places where they stand -/
def spStrikes (C : Addr) : Sp := fun vs H Q _ => ∃ (p d : Addr) (ws : List Str) (rs : List (List Fx.FD)) (fa : List V) (n : Int) (ts : List Str), vs = [.ref p] ∧ BenchAt C H p d ws rs fa n ts ∧ ∀ q bs, H q = none → RowsIn H bs rs → Q (.ref q) (upd H q (.lst (bs.map V.ref)))
theorem ok_strikes {f C CF CB CR CU CC : Addr} {fd : FuncData} (F : Fun K "strikes" "Bench.strikes" s_Bench_strikes f fd) (T : Ts P K mg C CF CB CR CU CC) : FnOk P w K mg base CX0 1 f fd ["self"] (spStrikes C) := by
  refine F.ok sc_Bench_strikes (fun vs H Q E h => ?_) (fun cdv A outer s H vs Q E hr h => ?_)
  · obtain ⟨p, d, ws, rs, fa, n, ts, rfl, _⟩ := h
    rfl
  · obtain ⟨p, d, ws, rs, fa, n, ts, rfl, hB, k⟩ := h
    obtain ⟨dx, fk, st, fc, u, as, bs, h1, h2, h3, h4, h5, h6, h7⟩ := hB
    refine ⟨_, (pss_one (ps_ret (pe_callTy call_list_of (by rfl) T.b_list (by decide +kernel) (pa_cons (pe_fld (pv 0) rfl) pa_nil)))), ?_⟩
    walk_at "rd"
    refine ⟨p, C, dx, _, _, rfl, h1, T.cls, T.nS, rfl, ?_⟩
    walk_at "rd"
    exact ⟨st, _, rfl, .inr (SqT.of h3), fun q nq => k q bs nq h4⟩
theorem RowsIn.snoc {H : Hp} : ∀ {as : List Addr} {rs : List (List Fx.FD)} {a : Addr} {r : List Fx.FD}, RowsIn H as rs → H a = some (.tup (r.map Fx.FD.v)) → RowsIn H (as ++ [a]) (rs ++ [r])
  | [], [], _, _, _, h => ⟨h, trivial⟩
  | _ :: _, _ :: _, _, _, h, q => ⟨h.1, RowsIn.snoc h.2 q⟩
  | [], _ :: _, _, _, h, _ => h.elim
  | _ :: _, [], _, _, h, _ => h.elim
abbrev s_Bench_strike : Stmt := inClass (top 35) 8
theorem sc_Bench_strike : FnScope ["self", "a", "b", "count"] ["self", "a", "b", "count"] (defScope s_Bench_strike) := ⟨rfl, rfl, rfl, by decide +kernel, rfl, by decide +kernel, by decide +kernel⟩
def strikeText (a b : Str) (n : Int) : Str := "strike " ++ a ++ " " ++ b ++ " " ++ Tx.dec n
def strikeRow (a b : Str) (n : Int) : List Fx.FD := [.s a, .s b, .i n]
def spStrike (C CR CU CC : Addr) : Sp := fun vs H Q E => ∃ (p d : Addr) (ws : List Str) (rs : List (List Fx.FD)) (fa : List V) (lim : Int) (ts : List Str) (a b : Str) (n : Int), vs = [.ref p, .str a, .str b, .int n] ∧ BenchAt C H p d ws rs fa lim ts ∧ ws.length ≤ 100 ∧ rs.length < 20 ∧ ts.length ≤ 200 ∧
  a.length ≤ 1000 ∧ b.length ≤ 1000 ∧ FmX 114 (.str a) ∧ FmX 114 (.str b) ∧ n.natAbs < 10 ^ 40 ∧
  match sv ws a b n with
  | none => ∀ H', Kp2 H H' p d → BenchAt C H' p d ws (rs ++ [strikeRow a b n]) fa lim (ts ++ [strikeText a b n]) → Q (.int rs.length) H'
  | some x => ∀ e H', Same H H' → H e = none → H' e = some (.xd x.fs) → E (.ref (x.cls CR CU CC)) (some e) H'
theorem ok_strike {f C CF CB CR CU CC CL CW : Addr} {fd : FuncData} (F : Fun K "strike" "Bench.strike" s_Bench_strike f fd) (T : Ts P K mg C CF CB CR CU CC) (c_check_strike : CalX P w K mg base 4 "check_strike" (spCheckStrike CR CU CC)) (c_check_room : CalX P w K mg base 1 "check_room" spRoom) (q__begin : Fx.MethC P w K mg base 2 C "_begin" (spBegin C)) :
    FnOk P w K mg base (L2N.CX P w) 6 f fd ["self", "a", "b", "count"] (spStrike C CR CU CC) := by
  refine F.okN sc_Bench_strike (fun vs H Q E h => ?_) (fun cdv A outer s H vs Q E hr h => ?_)
  · obtain ⟨p, d, ws, rs, fa, lim, ts, a, b, n, rfl, _⟩ := h
    rfl
  · obtain ⟨p, d, ws, rs, fa, lim, ts, a, b, n, rfl, hB, hw, hrs, hts, la, lb, ga, gb, gn, k⟩ := h
    obtain ⟨dx, fk, st, fc, u, as, bs, h1, h2, h3, h4, h5, h6, h7⟩ := id hB
    obtain ⟨mt, hm⟩ := T.strikes
    refine ⟨_, (pss_cons (ps_expr (pe_cX c_check_strike hr (by decide) rfl (L2N.takes_of rfl rfl rfl rfl) (pa_cons (pe_fld (pv 0) rfl) (pa_cons (pv 1) (pa_cons (pv 2) (pa_cons (pv 3) pa_nil))))))
      (pss_cons (ps_expr (pe_cX c_check_room hr (by decide) rfl (L2N.takes_of rfl rfl rfl rfl) (pa_cons pe_str (pa_cons (pe_op op_add (pe_callB call_len (by rfl) T.b_len PySem.boot_len (pa_cons (pe_fld (pv 0) rfl) pa_nil)) pe_int) (pa_cons (pe_cval (pe_glob (v := .ref _) rfl T.g_Bench rfl)) pa_nil)))))
      (pss_cons (ps_expr (Fx.pe_mc q__begin T.cls hr (by decide) (pv 0) (pa_cons (Fx.pe_joinedD (.cons pe_str (.cons (pe_fmt (pv 1)) (.cons pe_str (.cons (pe_fmt (pv 2)) (.cons pe_str (.cons (pe_fmt (pv 3)) .nil))))))) pa_nil)))
      (pss_cons (ps_fld (pv 0) (pe_op op_catA (pe_fld (pv 0) rfl) (pe_tup (pa_cons (pe_tup (pa_cons (pv 1) (pa_cons (pv 2) (pa_cons (pv 3) pa_nil)))) pa_nil))) rfl)
      (pss_one (ps_ret (pe_op op_sub (pe_callB call_len (by rfl) T.b_len PySem.boot_len (pa_cons (pe_fld (pv 0) rfl) pa_nil)) pe_int))))))), ?_⟩
    walk_at "rd"
    refine ⟨p, C, dx, _, _, rfl, h1, T.cls, T.nF, rfl, ?_⟩
    walk_at "rd"
    refine ⟨fk, ws, a, b, n, rfl, h2, hw, ga, gb, gn, ?_⟩
    cases hv : sv ws a b n with
    | some x =>
      rw [hv] at k
      exact k
    | none =>
      rw [hv] at k
      intro H1 s1
      have hB1 := hB.same s1
      walk_at "rd"
      refine ⟨p, C, dx, _, _, rfl, s1 _ _ h1, T.cls, T.nS, rfl, ?_⟩
      walk_at "rd"
      refine ⟨_, bs.length, rfl, .inr ⟨_, SqT.of (s1 _ _ h3), (List.length_map ..).symm⟩, ?_⟩
      walk_at "rd"
      refine ⟨_, _, _, _, rfl, T.rd, hm, ?_⟩
      walk_at "rd"
      have hbl : bs.length = rs.length := (RowsIn.at (K := K) h4).len
      refine ⟨_, _, _, rfl, by rw [hbl]; show (rs.length : Int) + 1 ≤ 20; omega, ?_⟩
      walk_at "rd"
      obtain ⟨dx, fk, st, fc, u, as, bs, h1, h2, h3, h4, h5, h6, h7⟩ := id hB1
      refine ⟨p, dx, _, rfl, h1, rfl, ?_⟩
      have l0 : (Str.ofString "strike ").length = 7 := by decide +kernel
      have l1 : (Str.ofString " ").length = 1 := by decide +kernel
      have l2 := Tx.dec_len gn
      have ls : sizeLine = 16777216 := sizeLine_eq
      have le : Str.empty.length = 0 := rfl
      have e0 : Str.empty ++ Str.ofString "strike " ++ a ++ Str.ofString " " ++ b ++ Str.ofString " " ++ toString n = strikeText a b n := rfl
      walk_at "rd"
      refine ⟨by decide +kernel, ?_⟩
      walk_at "rd"
      refine ⟨by omega, ?_⟩
      refine ⟨_, rfl, by simp only [Str.length_append]; omega, ?_⟩
      walk_at "rd"
      refine ⟨by simp only [Str.length_append]; omega, ?_⟩
      walk_at "rd"
      refine ⟨by omega, ?_⟩
      refine ⟨_, rfl, by simp only [Str.length_append]; omega, ?_⟩
      walk_at "rd"
      refine ⟨by simp only [Str.length_append]; omega, ?_⟩
      walk_at "rd"
      refine .inr ⟨n, rfl, (fm_int gn).2, ?_⟩
      refine ⟨_, rfl, ?_, ?_⟩
      · show (Str.empty ++ Str.ofString "strike " ++ a ++ Str.ofString " " ++ b ++ Str.ofString " " ++ Tx.dec n).length ≤ sizeLine
        simp only [Str.length_append]
        omega
      rw [e0]
      refine ⟨p, d, ws, rs, fa, lim, ts, _, rfl, hB1, hts, fun H2 kp hB2 => ?_⟩
      obtain ⟨dx2, fk2, st2, fc2, u2, as2, bs2, a1, a2, a3, a4, a5, a6, a7⟩ := id hB2
      have hbl2 : bs2.length = rs.length := (RowsIn.at (K := K) a4).len
      walk_at "rd"
      refine ⟨p, C, dx2, _, _, rfl, a1, T.cls, T.nS, rfl, ?_⟩
      walk_at "rd"
      refine ⟨by show 3 ≤ sizeLine; decide, fun q nq => ?_⟩
      walk_at "rd"
      refine ⟨by show 1 ≤ sizeLine; decide, fun r nr => ?_⟩
      have sq := Same.new (o := .tup [.str a, .str b, .int n]) (Same.refl H2) nq
      have sr := Same.new (o := .tup [.ref q]) sq nr
      have hq : upd (upd H2 q (.tup [.str a, .str b, .int n])) r (.tup [.ref q]) q = some (.tup ((strikeRow a b n).map Fx.FD.v)) := (Same.new (o := .tup [.ref q]) (Same.refl _) nr) _ _ upd_same
      have hr2 : upd (upd H2 q (.tup [.str a, .str b, .int n])) r (.tup [.ref q]) r = some (.tup [.ref q]) := upd_same
      generalize upd (upd H2 q (.tup [.str a, .str b, .int n])) r (.tup [.ref q]) = H3 at sr hq hr2 ⊢
      have fin : ∀ (x : Addr) (H4 : Hp), Same H3 H4 → H4 x = some (.tup ((bs2 ++ [q]).map V.ref)) → Kp2 H (upd H4 p (.ins C dx2 (BF fk2 x fc2 lim d u2))) p d ∧ BenchAt C (upd H4 p (.ins C dx2 (BF fk2 x fc2 lim d u2))) p d ws (rs ++ [strikeRow a b n]) fa lim (ts ++ [strikeText a b n]) := by
        intro x H4 s4 hx
        have s24 : Same H2 H4 := sr.trans s4
        have k24 : Kp2 H2 (upd H4 p (.ins C dx2 (BF fk2 x fc2 lim d u2))) p d := (Kp2.of s24).up1
        have tp := k24.tups a1 a6
        have dp : d ≠ p := ne_of a6 a1 (by intro z; cases z)
        have xp : x ≠ p := ne_of hx (s24 _ _ a1) (by intro z; cases z)
        have qp : q ≠ p := ne_of (s4 _ _ hq) (s24 _ _ a1) (by intro z; cases z)
        refine ⟨((Kp2.of s1).trans kp).trans k24, dx2, fk2, x, fc2, u2, as2, bs2 ++ [q], upd_same, tp _ _ a2, (upd_ne xp).trans hx, ?_, tp _ _ a5, (upd_ne dp).trans (s24 _ _ a6), a7.keep tp⟩
        exact (a4.keep tp).snoc ((upd_ne qp).trans (s4 _ _ hq))
      refine ⟨st2, r, bs2.map V.ref, [.ref q], rfl, rfl, SqT.of (sr _ _ a3), SqT.of hr2, ?_, fun e => ?_, fun e e2 => absurd e2 (by simp), fun e _ y ny => ?_⟩
      · rw [List.length_map]
        show bs2.length + 1 ≤ sizeLine
        omega
      · have e2 : bs2 = [] := List.map_eq_nil_iff.mp e
        have hr3 : H3 r = some (.tup ((bs2 ++ [q]).map V.ref)) := by rw [e2]; exact hr2
        obtain ⟨kf, hf⟩ := fin r H3 (Same.refl H3) (hr3)
        walk_at "rd"
        refine ⟨p, C, dx2, _, rfl, (Same.refl H3) _ _ (sr _ _ a1), T.cls, T.nS, by show 6 < 1000; decide, ?_⟩
        walk_at "rd"
        refine ⟨p, C, dx2, _, _, rfl, upd_same, T.cls, T.nS, rfl, ?_⟩
        walk_at "rd"
        have xp : r ≠ p := ne_of (hr3) ((Same.refl H3) _ _ (sr _ _ a1)) (by intro z; cases z)
        refine ⟨_, (bs2 ++ [q]).length, rfl, .inr ⟨_, SqT.of ((upd_ne xp).trans (hr3)), (List.length_map ..).symm⟩, ?_⟩
        have q2 := k _ kf hf
        have en : (((bs2 ++ [q]).length : Nat) : Int) - 1 = (rs.length : Int) := by
          rw [List.length_append]
          show ((bs2.length + 1 : Nat) : Int) - 1 = _
          omega
        rw [← en] at q2
        walk_at "rd"
        exact q2
      · have sy := Same.new (o := .tup (bs2.map V.ref ++ [.ref q])) (Same.refl H3) ny
        have hy : upd H3 y (.tup (bs2.map V.ref ++ [.ref q])) y = some (.tup ((bs2 ++ [q]).map V.ref)) := by rw [upd_same, List.map_append]; rfl
        obtain ⟨kf, hf⟩ := fin y _ sy (hy)
        walk_at "rd"
        refine ⟨p, C, dx2, _, rfl, sy _ _ (sr _ _ a1), T.cls, T.nS, by show 6 < 1000; decide, ?_⟩
        walk_at "rd"
        refine ⟨p, C, dx2, _, _, rfl, upd_same, T.cls, T.nS, rfl, ?_⟩
        walk_at "rd"
        have xp : y ≠ p := ne_of (hy) (sy _ _ (sr _ _ a1)) (by intro z; cases z)
        refine ⟨_, (bs2 ++ [q]).length, rfl, .inr ⟨_, SqT.of ((upd_ne xp).trans (hy)), (List.length_map ..).symm⟩, ?_⟩
        have q2 := k _ kf hf
        have en : (((bs2 ++ [q]).length : Nat) : Int) - 1 = (rs.length : Int) := by
          rw [List.length_append]
          show ((bs2.length + 1 : Nat) : Int) - 1 = _
          omega
        rw [← en] at q2
        walk_at "rd"
        exact q2
end
end Fk

namespace Fk
open PySem L2 ClX
local macro_rules | `(tactic| walk_at "rdc") => `(tactic| (first | exact Or.inl ⟨by decide, by decide⟩ | exact Or.inr ⟨by decide, by decide⟩ | exact ⟨by decide, by decide⟩ | exact Or.inl ⟨by omega, by omega⟩ | exact Or.inr ⟨by omega, by omega⟩ | ((show (0 : Int) < _); (first | decide | omega)) | exact ⟨by decide, by decide, by decide⟩ | exact ⟨by omega, by assumption⟩))
local macro_rules | `(tactic| walk_at "hp") => `(tactic| (first | exact upd_same | assumption | ((rw [upd_ne (by assumption)]); (first | exact upd_same | assumption | ((rw [upd_ne (by assumption)]); (first | exact upd_same | assumption | ((rw [upd_ne (by assumption)]); (first | exact upd_same | assumption))))))))
local macro_rules | `(tactic| walk_at "r1") => `(tactic| (first | refine ⟨_, rfl, ?_⟩ | refine ⟨_, _, rfl, rfl, ?_⟩ | refine ⟨_, _, rfl, ?_⟩ | refine Or.inl ⟨_, rfl, ?_⟩ | refine ⟨rfl, ?_⟩ | refine ⟨(by walk_at "rdc"), ?_⟩ | refine ⟨_, _, _, _, rfl, rfl, SqL.of (by walk_at "hp"), rfl, ?_⟩ | refine ⟨_, _, _, _, rfl, rfl, (by walk_at "hp"), rfl, ?_⟩ | refine ⟨_, _, _, _, rfl, rfl, SqL.of (by walk_at "hp"), by assumption, ?_⟩))
local macro_rules | `(tactic| walk_at "rd") => `(tactic| (repeat walk_at "r1"))
--#ty * ._forks=t ._strikes=t ._facts=t ._done=l ._undone=l ._limit=i
--#ty check_room what=s
--#ty check_new names=t forks=t seen=d name=s @name=s
--#ty check_known names=l forks=t name=s
--#ty check_strike forks=t a=s b=s
--#ty spaced word=s others=t
--#ty Bench.add self=o names=t
--#ty Bench.add_all self=o names=t
--#ty Bench.strike self=o a=s b=s
--#ty Bench.strikes self=o
--#ty Bench.forks self=o
--#ret spaced s
--#raising check_count check_room check_new check_name check_known check_strike
--#okX check_count check_room check_new check_known check_strike Bench.add_all Bench.add Bench.strike
--#meth _begin
--#methX add_all
--#catA 1
section
variable {P : Program} {w : World} {K : PySem.W.Frag} {mg : Str → Option Value} {base : Heap}
abbrev s_Bench_add_all : Stmt := inClass (top 35) 7
theorem sc_Bench_add_all : FnScope ["self", "names"] ["self", "names"] (defScope s_Bench_add_all) := ⟨rfl, rfl, rfl, by decide +kernel, rfl, by decide +kernel, by decide +kernel⟩
def addText (zs : List Str) : Str := Txt.join " " ("add" :: zs)
/-- a new fork or more: all good, or refused -/
def spAddAll (C CB CR : Addr) : Sp := fun vs H Q E => ∃ (p d t : Addr) (ws : List Str) (rs : List (List Fx.FD)) (fa : List V) (lim : Int) (ts : List Str) (zs : List Str), vs = [.ref p, .ref t] ∧ BenchAt C H p d ws rs fa lim ts ∧ H t = some (.tup (zs.map V.str)) ∧ ws.Nodup ∧ ws.length ≤ 100 ∧ zs.length ≤ 100 ∧ ts.length ≤ 200 ∧
  (∀ z ∈ zs, z.length ≤ 1000 ∧ FmX 114 (.str z)) ∧
  match vn ws zs zs.length with
  | none => ws.length + zs.length ≤ 10 ∧ ∀ H', Kp2 H H' p d → BenchAt C H' p d (ws ++ zs) rs fa lim (ts ++ [addText zs]) → Q .non H'
  | some (bad, z) => ∀ (e : Addr) H', Same H H' → H e = none → H' e = some (.xd [("name", .str z)]) → E (.ref (if bad then CB else CR)) (some e) H'
theorem ok_add_all {f C CF CB CR CU CC : Addr} {fd : FuncData} (F : Fun K "add_all" "Bench.add_all" s_Bench_add_all f fd) (T : Ts P K mg C CF CB CR CU CC) (c_check_new : CalX P w K mg base 4 "check_new" (spNewNames CB CR)) (c_check_room : CalX P w K mg base 1 "check_room" spRoom) (q__begin : Fx.MethC P w K mg base 2 C "_begin" (spBegin C))
    (c_spaced : Fx.CalR P w K mg base 2 "spaced" (fun vs H Q E => ∃ ws rest, vs = ws ++ rest ∧ ws.length = ["word"].length ∧ rest.length ≤ sizeLine ∧ ∀ p, H p = Option.none → spSpaced (ws ++ [V.ref p]) (upd H p (.tup rest)) Q E)) :
    FnOk P w K mg base (L2N.CX P w) 6 f fd ["self", "names"] (spAddAll C CB CR) := by
  refine F.okN sc_Bench_add_all (fun vs H Q E h => ?_) (fun cdv A outer s H vs Q E hr h => ?_)
  · obtain ⟨p, d, t, ws, rs, fa, lim, ts, zs, rfl, _⟩ := h
    rfl
  · obtain ⟨p, d, t, ws, rs, fa, lim, ts, zs, rfl, hB, ht, hn, hl, hz, hts, hw, k⟩ := h
    obtain ⟨dx, fk, st, fc, u, as, bs, h1, h2, h3, h4, h5, h6, h7⟩ := id hB
    obtain ⟨mt, hm⟩ := T.forks
    refine ⟨_, (pss_cons (ps_expr (pe_cX c_check_new hr (by decide) rfl (L2N.takes_of rfl rfl rfl rfl) (pa_cons (pv 1) (pa_cons (pe_fld (pv 0) rfl) pa_nil))))
      (pss_cons (ps_expr (pe_cX c_check_room hr (by decide) rfl (L2N.takes_of rfl rfl rfl rfl) (pa_cons pe_str (pa_cons (pe_op op_add (pe_callB call_len (by rfl) T.b_len PySem.boot_len (pa_cons (pe_fld (pv 0) rfl) pa_nil)) (pe_callB call_len (by rfl) T.b_len PySem.boot_len (pa_cons (pv 1) pa_nil))) (pa_cons (pe_cval (pe_glob (v := .ref _) rfl T.g_Bench rfl)) pa_nil)))))
      (pss_cons (ps_expr (Fx.pe_mc q__begin T.cls hr (by decide) (pv 0) (pa_cons (Fx.pe_cR c_spaced hr (by decide) rfl (pa_cons pe_str (StX.pa_star (pv 1) pa_nil))) pa_nil)))
      (pss_one (ps_fld (pv 0) (pe_op op_catA (pe_fld (pv 0) rfl) (pe_callTy call_tuple_of (by rfl) T.b_tuple (by decide +kernel) (pa_cons (pv 1) pa_nil))) rfl))))), ?_⟩
    walk_at "rd"
    refine ⟨p, C, dx, _, _, rfl, h1, T.cls, T.nF, rfl, ?_⟩
    refine ⟨t, fk, zs, ws, rfl, ht, h2, hn, hl, hz, hw, ?_⟩
    cases hv : vn ws zs zs.length with
    | some x =>
      obtain ⟨bad, z⟩ := x
      rw [hv] at k
      exact k
    | none =>
      rw [hv] at k
      obtain ⟨room, k⟩ := k
      intro H1 s1
      have hB1 := hB.same s1
      walk_at "rd"
      refine ⟨p, C, dx, _, _, rfl, s1 _ _ h1, T.cls, T.nF, rfl, ?_⟩
      walk_at "rd"
      refine ⟨_, ws.length, rfl, .inr ⟨_, SqT.of (s1 _ _ h2), (List.length_map ..).symm⟩, ?_⟩
      walk_at "rd"
      refine ⟨_, zs.length, rfl, .inr ⟨_, SqT.of (s1 _ _ ht), (List.length_map ..).symm⟩, ?_⟩
      walk_at "rd"
      refine ⟨_, _, _, _, rfl, T.rd, hm, ?_⟩
      walk_at "rd"
      refine ⟨_, _, _, rfl, by show (ws.length : Int) + zs.length ≤ 10; omega, ?_⟩
      walk_at "rd"
      refine ⟨p, dx, _, rfl, s1 _ _ h1, rfl, ?_⟩
      walk_at "rd"
      refine ⟨t, zs.map V.str, rfl, .inl (SqT.of (s1 _ _ ht)), ?_⟩
      walk_at "rd"
      refine ⟨[.str "add"], zs.map V.str, by simp, rfl, by rw [List.length_map]; exact Nat.le_of_lt (small1000 (by omega)), fun q nq => ?_⟩
      refine ⟨"add", q, zs, rfl, upd_same, hz, by decide +kernel, fun y hy => (hw y hy).1, fun H2 s2 => ?_⟩
      have s12 := (Same.new (o := .tup (zs.map V.str)) (Same.refl H1) nq).trans s2
      have hB2 := hB1.same s12
      walk_at "rd"
      refine ⟨p, d, ws, rs, fa, lim, ts, addText zs, rfl, hB2, hts, fun H3 kp hB3 => ?_⟩
      obtain ⟨dx2, fk2, st2, fc2, u2, as2, bs2, a1, a2, a3, a4, a5, a6, a7⟩ := id hB3
      have s02 := s1.trans s12
      have tp0 : Tups H2 H3 := kp.tups (s02 _ _ h1) (s02 _ _ h6)
      have ht3 := tp0 _ _ (s02 _ _ ht)
      have fin : ∀ (x : Addr) (H4 : Hp), Same H3 H4 → H4 x = some (.tup ((ws ++ zs).map V.str)) → Kp2 H (upd H4 p (.ins C dx2 (BF x st2 fc2 lim d u2))) p d ∧ BenchAt C (upd H4 p (.ins C dx2 (BF x st2 fc2 lim d u2))) p d (ws ++ zs) rs fa lim (ts ++ [addText zs]) := by
        intro x H4 s4 hx
        have k24 : Kp2 H3 (upd H4 p (.ins C dx2 (BF x st2 fc2 lim d u2))) p d := (Kp2.of s4).up1
        have tp := k24.tups a1 a6
        have dp : d ≠ p := ne_of a6 a1 (by intro z; cases z)
        have xp : x ≠ p := ne_of hx (s4 _ _ a1) (by intro z; cases z)
        exact ⟨((Kp2.of s02).trans kp).trans k24, dx2, x, st2, fc2, u2, as2, bs2, upd_same, (upd_ne xp).trans hx, tp _ _ a3, a4.keep tp, tp _ _ a5, (upd_ne dp).trans (s4 _ _ a6), a7.keep tp⟩
      walk_at "rd"
      refine ⟨p, C, dx2, _, _, rfl, a1, T.cls, T.nF, rfl, ?_⟩
      walk_at "rd"
      refine ⟨t, _, rfl, .inr ⟨SqT.of ht3, ?_⟩⟩
      have emp : ∀ l : List Str, l.map V.str = [] → l = [] := fun l e => List.map_eq_nil_iff.mp e
      refine ⟨fk2, t, ws.map V.str, zs.map V.str, rfl, rfl, SqT.of a2, SqT.of ht3, ?_, fun e => ?_, fun _ e => ?_, fun _ _ y ny => ?_⟩
      · rw [List.length_map, List.length_map]
        exact Nat.le_of_lt (small1000 (by omega))
      · have hx : H3 t = some (.tup ((ws ++ zs).map V.str)) := by rw [emp ws e]; exact ht3
        obtain ⟨kf, hf⟩ := fin t H3 (Same.refl H3) hx
        walk_at "rd"
        refine ⟨p, C, dx2, _, rfl, a1, T.cls, T.nF, by show 6 < 1000; decide, ?_⟩
        exact k _ kf hf
      · have hx : H3 fk2 = some (.tup ((ws ++ zs).map V.str)) := by rw [emp zs e, List.append_nil]; exact a2
        obtain ⟨kf, hf⟩ := fin fk2 H3 (Same.refl H3) hx
        walk_at "rd"
        refine ⟨p, C, dx2, _, rfl, a1, T.cls, T.nF, by show 6 < 1000; decide, ?_⟩
        exact k _ kf hf
      · have sy := Same.new (o := .tup (ws.map V.str ++ zs.map V.str)) (Same.refl H3) ny
        have hy : upd H3 y (.tup (ws.map V.str ++ zs.map V.str)) y = some (.tup ((ws ++ zs).map V.str)) := by rw [upd_same, List.map_append]
        obtain ⟨kf, hf⟩ := fin y _ sy hy
        walk_at "rd"
        refine ⟨p, C, dx2, _, rfl, sy _ _ a1, T.cls, T.nF, by show 6 < 1000; decide, ?_⟩
        exact k _ kf hf
abbrev s_Bench_add : Stmt := inClass (top 35) 6
theorem sc_Bench_add : FnScope ["self", "names"] ["self", "names"] (defScope s_Bench_add) := ⟨rfl, rfl, rfl, by decide +kernel, rfl, by decide +kernel, by decide +kernel⟩
def spAddS (C CB CR : Addr) : Sp := fun vs H Q E => ∃ (p t : Addr), vs = [.ref p, .ref t] ∧ spAddAll C CB CR [.ref p, .ref t] H Q E
/-- bench.add(name, ..) -/
def spAdd (C CB CR : Addr) : Sp := fun vs H Q E => ∃ ws rest, vs = ws ++ rest ∧ ws.length = ["self"].length ∧ rest.length ≤ sizeLine ∧ ∀ p, H p = Option.none → spAddS C CB CR (ws ++ [V.ref p]) (upd H p (.tup rest)) Q E
theorem ok_add {f C CF CB CR CU CC : Addr} {oc kV dc pm cd ct : Value} {od an : Option Addr} {sl : Array (Option Value)} (lk : K.lookup f = some ⟨oc, od, .func (PySem.W.fnOf "add" "Bench.add" (defArgs s_Bench_add) (defBody s_Bench_add) (defScope s_Bench_add) .none kV dc pm an cd ct), sl⟩) (hcd : PySem.W.codeIn K cd "Bench.add" = true)
    (T : Ts P K mg C CF CB CR CU CC) (x_add_all : Fx.MethX P w K mg base 6 C "add_all" (spAddAll C CB CR)) :
    L2.FnR P w K mg base (L2N.CX P w) 7 f (spAdd C CB CR) := by
  refine StX.fn_star (ps := ["self"]) (pv := "names") lk hcd sc_Bench_add Fx.cxUpN (fun us rest hl => match us, rest, hl with | [_], [], _ => rfl | [_], _ :: _, _ => rfl) (fun A outer s H vs Q E hr h => ?_)
  obtain ⟨p, t, rfl, h⟩ := h
  refine ⟨_, (pss_one (ps_expr (Fx.pe_mx x_add_all T.cls hr (by decide) (L2N.takes_of rfl rfl rfl rfl) (pv 0) (pa_cons (pv 1) pa_nil)))), ?_⟩
  walk_at "rd"
  obtain ⟨p1, d, t1, ws, rs, fa, lim, ts, zs, e, hB, rest⟩ := id h
  cases e
  obtain ⟨dx, fk, st, fc, u, as, bs, h1, _⟩ := hB
  refine ⟨p, dx, _, rfl, h1, rfl, ?_⟩
  walk_at "rd"
  obtain ⟨p1, d, t1, ws, rs, fa, lim, ts, zs, e, hB, hz, hn, l1, l2, l3, hw, k⟩ := h
  cases e
  refine ⟨p, d, t, ws, rs, fa, lim, ts, zs, rfl, hB, hz, hn, l1, l2, l3, hw, ?_⟩
  exact k
end
end Fk

namespace Fk
open PySem L2 ClX
local macro_rules | `(tactic| walk_at "rdc") => `(tactic| (first | exact Or.inl ⟨by decide, by decide⟩ | exact Or.inr ⟨by decide, by decide⟩ | exact ⟨by decide, by decide⟩ | exact Or.inl ⟨by omega, by omega⟩ | exact Or.inr ⟨by omega, by omega⟩ | ((show (0 : Int) < _); (first | decide | omega)) | exact ⟨by decide, by decide, by decide⟩ | exact ⟨by omega, by assumption⟩))
local macro_rules | `(tactic| walk_at "hp") => `(tactic| (first | exact upd_same | assumption | ((rw [upd_ne (by assumption)]); (first | exact upd_same | assumption | ((rw [upd_ne (by assumption)]); (first | exact upd_same | assumption | ((rw [upd_ne (by assumption)]); (first | exact upd_same | assumption))))))))
local macro_rules | `(tactic| walk_at "r1") => `(tactic| (first | refine ⟨_, rfl, ?_⟩ | refine ⟨_, _, rfl, rfl, ?_⟩ | refine ⟨_, _, rfl, ?_⟩ | refine Or.inl ⟨_, rfl, ?_⟩ | refine ⟨rfl, ?_⟩ | refine ⟨(by walk_at "rdc"), ?_⟩ | refine ⟨_, _, _, _, rfl, rfl, SqL.of (by walk_at "hp"), rfl, ?_⟩ | refine ⟨_, _, _, _, rfl, rfl, (by walk_at "hp"), rfl, ?_⟩ | refine ⟨_, _, _, _, rfl, rfl, SqL.of (by walk_at "hp"), by assumption, ?_⟩))
local macro_rules | `(tactic| walk_at "rd") => `(tactic| (repeat walk_at "r1"))
--#ty _law_bench _law_names_here=l _law_strikes=l _law_bench_here=o
section
variable {P : Program} {w : World} {K : PySem.W.Frag} {mg : Str → Option Value} {base : Heap}
def Asc (z : Str) : Prop := z.length ≤ 40 ∧ ∀ c ∈ z.cps.toList, c < 128
theorem asc_S {l : List Nat} (h : l.length ≤ 40) (hc : ∀ c ∈ l, c < 128) : Asc (S l) := ⟨by rw [S_len]; exact h, fun c q => hc c (by simpa using q)⟩
theorem low_asc {z : Str} (h : Low z) : Asc z := by
  obtain ⟨l, rfl, h1, h2, h3⟩ := h
  exact asc_S (by omega) fun c hc => by have := h3 c hc; omega
theorem upper_one : ∀ c < 123, 97 ≤ c → Unicode.upperOf c = [c - 32] := by decide +kernel
theorem upper_asc {z : Str} (h : Low z) : Asc (Txt.upper z) := by
  obtain ⟨l, rfl, h1, h2, h3⟩ := h
  refine ⟨Nat.le_trans (PyProof.Rows.len_upper _) (by rw [S_len]; omega), fun c hc => ?_⟩
  have hc' : c ∈ (placed (S l) fun _ c => Unicode.upperOf c) := Array.mem_def.mpr hc
  unfold placed at hc'
  obtain ⟨a, ha, hca⟩ := Array.mem_flatten.mp hc'
  obtain ⟨i, hi, rfl⟩ := Array.mem_mapIdx.mp ha
  have hm : (S l).cps[i] ∈ l := by
    have := Array.getElem_mem (xs := (S l).cps) hi
    simpa using this
  have q := h3 _ hm
  have hca : c ∈ (Unicode.upperOf (S l).cps[i]).toArray := hca
  rw [upper_one _ (by omega) q.1] at hca
  have e : c = (S l).cps[i] - 32 := by simpa using hca
  omega
theorem Asc.long {z : Str} (h : Asc z) : z.length ≤ 1000 := Nat.le_trans h.1 (by decide)
theorem Asc.fm {z : Str} (h : Asc z) : FmX 114 (.str z) := by
  refine .inl ⟨rfl, ?_⟩
  have q := StrLaws.reprText_len z fun c hc => Nat.lt_trans (h.2 c hc) (by decide)
  have := h.1
  omega
theorem Asc.ok {z : Str} (h : Asc z) : PyData.strOk z = true := by
  show z.cps.all (· < 0x110000) = true
  rw [Array.all_eq_true_iff_forall_mem]
  intro c hc
  have := h.2 c (Array.mem_def.mp hc)
  exact decide_eq_true (by omega)
theorem Asc.ascii {z : Str} (h : Asc z) : Txt.isascii z = true := by
  show z.cps.all (· < 128) = true
  rw [Array.all_eq_true_iff_forall_mem]
  intro c hc
  exact decide_eq_true (h.2 c (Array.mem_def.mp hc))
theorem small_letter : ∀ c < 123, 97 ≤ c → Unicode.isAlpha c = true ∧ Unicode.isLower c = true ∧ Unicode.isUpper c = false ∧ Unicode.isTitle c = false := by decide +kernel
theorem low_good {z : Str} (h : Low z) : nameB z = true := by
  have asc := (low_asc h).ascii
  obtain ⟨l, rfl, h1, h2, h3⟩ := h
  have each : ∀ c ∈ (S l).cps, Unicode.isAlpha c = true ∧ Unicode.isLower c = true ∧ Unicode.isUpper c = false ∧ Unicode.isTitle c = false := fun c hc => by
    have q := h3 c (by simpa using hc)
    exact small_letter c (by omega) q.1
  have a1 : Txt.isalpha (S l) = true := by
    show (decide ((S l).length > 0) && (S l).cps.all Unicode.isAlpha) = true
    rw [Bool.and_eq_true, Array.all_eq_true_iff_forall_mem]
    exact ⟨decide_eq_true (by rw [S_len]; omega), fun c hc => (each c hc).1⟩
  have a2 : Txt.islower (S l) = true := by
    show ((S l).cps.any Unicode.isLower && !(S l).cps.any fun c => Unicode.isUpper c || Unicode.isTitle c) = true
    rw [show (S l).cps.any Unicode.isLower = l.any Unicode.isLower by simp, show ((S l).cps.any fun c => Unicode.isUpper c || Unicode.isTitle c) = l.any fun c => Unicode.isUpper c || Unicode.isTitle c by simp]
    have one : l.any Unicode.isLower = true := by
      cases l with
      | nil => simp at h1
      | cons c r => exact List.any_eq_true.mpr ⟨c, List.mem_cons_self, (each c (by simp)).2.1⟩
    have no : (l.any fun c => Unicode.isUpper c || Unicode.isTitle c) = false := by
      rw [List.any_eq_false]
      intro c hc
      have q := each c (by simpa using hc)
      rw [q.2.2.1, q.2.2.2]
      decide
    rw [one, no]
    rfl
  unfold nameB
  rw [asc, a1, a2, decide_eq_true (show ((S l).length : Int) ≤ 12 by rw [S_len]; omega)]
  rfl
theorem Bag.ne_strs {H : Hp} {b c q : Addr} {zs : List Str} (h : Bag H b c) (hq : H q = some (.lst (zs.map V.str))) : q ≠ b := by
  obtain ⟨n, acc, pos, base, cells, h1, _⟩ := h
  rintro rfl
  rw [hq] at h1
  have e := HO.lst.inj (Option.some.inj h1)
  cases zs with
  | nil => cases e
  | cons z r => cases (List.cons.inj e).1
theorem low_zy : Low zyS := ⟨_, rfl, by decide, by decide, fun c hc => by simp at hc; omega⟩
theorem Bag.kp2 {H H' : Hp} {b c p d : Addr} (h : Bag H b c) (k : Kp2 H H' p d) (e1 : b ≠ p) (e2 : b ≠ d) (e3 : c ≠ p) (e4 : c ≠ d) : Bag H' b c := by
  obtain ⟨n, acc, pos, base, cells, h1, h2, r⟩ := h
  exact ⟨n, acc, pos, base, cells, k _ _ h1 e1 e2, k _ _ h2 e3 e4, r⟩
theorem BenchAt.keep {C : Addr} {H H' : Hp} {p d b c : Addr} {ws : List Str} {rs : List (List Fx.FD)} {fa : List V} {n : Int} {ts : List Str} (h : BenchAt C H p d ws rs fa n ts) (hb : Bag H b c) (k : Keep H H' b) (e : d ≠ b) : BenchAt C H' p d ws rs fa n ts := by
  obtain ⟨dx, fk, st, fc, u, as, bs, h1, h2, h3, h4, h5, h6, h7⟩ := h
  obtain ⟨n, acc, pos, base, cells, b1, _⟩ := hb
  have tp : Tups H H' := fun a xs z => k _ _ z fun q => by
    rw [q, b1] at z
    cases z
  exact ⟨dx, fk, st, fc, u, as, bs, k _ _ h1 (fun q => by rw [q, b1] at h1; cases h1), tp _ _ h2, tp _ _ h3, h4.keep tp, tp _ _ h5, k _ _ h6 e, h7.keep tp⟩
theorem strOk_of {z : Str} (h : ∀ c ∈ z.cps.toList, c < 0x110000) : PyData.strOk z = true := by
  show z.cps.all (· < 0x110000) = true
  rw [Array.all_eq_true_iff_forall_mem]
  intro c hc
  exact decide_eq_true (h c (Array.mem_def.mp hc))
theorem strOk_mem {z : Str} (h : PyData.strOk z = true) : ∀ c ∈ z.cps.toList, c < 0x110000 := by
  have h : z.cps.all (· < 0x110000) = true := h
  rw [Array.all_eq_true_iff_forall_mem] at h
  exact fun c hc => of_decide_eq_true (h c (Array.mem_def.mpr hc))
theorem strOk_cat {x y : Str} (h : PyData.strOk x = true) (k : PyData.strOk y = true) : PyData.strOk (x ++ y) = true := by
  refine strOk_of fun c hc => ?_
  have hc : c ∈ (x.cps ++ y.cps).toList := hc
  rw [Array.toList_append, List.mem_append] at hc
  exact hc.elim (strOk_mem h c) (strOk_mem k c)
theorem strOk_dec (m : Int) : PyData.strOk (Tx.dec m) = true := strOk_of fun c hc => by
  rcases Tx.dec_signs m c hc with h | h <;> omega
theorem BenchAt.updL {C : Addr} {H : Hp} {p d q : Addr} {xs : List V} {o : HO} {ws : List Str} {rs : List (List Fx.FD)} {fa : List V} {n : Int} {ts : List Str} (h : BenchAt C H p d ws rs fa n ts) (hq : H q = some (.lst xs)) (e : d ≠ q) : BenchAt C (upd H q o) p d ws rs fa n ts := by
  obtain ⟨dx, fk, st, fc, u, as, bs, h1, h2, h3, h4, h5, h6, h7⟩ := h
  have tp : Tups H (upd H q o) := fun a xs z => (upd_ne fun y => by rw [y, hq] at z; cases z).trans z
  exact ⟨dx, fk, st, fc, u, as, bs, (upd_ne fun y => by rw [y, hq] at h1; cases h1).trans h1, tp _ _ h2, tp _ _ h3, h4.keep tp, tp _ _ h5, (upd_ne e).trans h6, h7.keep tp⟩

/-- what a text must be to go through the program -/
structure Tok1 (z : Str) : Prop where
  len : z.length ≤ 1000
  fm : FmX 114 (.str z)
  ok : PyData.strOk z = true
theorem Asc.tok {z : Str} (h : Asc z) : Tok1 z := ⟨h.long, h.fm, h.ok⟩
theorem Low.tok {z : Str} (h : Low z) : Tok1 z := (low_asc h).tok
theorem nd_new {l : List Addr} {H : Hp} {x : Addr} (nd : l.Nodup) (al : ∀ a ∈ l, ∃ o, H a = some o) (hx : H x = none) : (x :: l).Nodup := by
  refine List.nodup_cons.mpr ⟨fun hm => ?_, nd⟩
  obtain ⟨o, e⟩ := al x hm
  rw [hx] at e
  cases e
theorem vn_one {ws : List Str} {z : Str} (h : nameB z = true) (hz : z ∉ ws) : vn ws [z] [z].length = none := by
  show vn ws [z] (0 + 1) = none
  rw [vn_next (i := 0) (z := z) rfl rfl, if_neg (by rw [h]; decide), if_neg (by simpa using hz)]
theorem join1 (x y : Str) : Txt.join " " [x, y] = x ++ " " ++ y := by
  show Str.join " " [x, y] = x ++ " " ++ y
  unfold Str.join
  rfl
theorem addText1 (z : Str) : addText [z] = "add " ++ z := by
  unfold addText
  rw [join1]
  rfl
theorem bench_new {C CL p dx : Addr} {H : Hp} {n : Int} {R : Hp → Prop} {EE : XK} (np : H p = none) (ndx : H dx = none) (ne : dx ≠ p) (g : goodL n)
    (k : ∀ d H', Same H H' → H d = none → d ≠ p → BenchAt C H' p d [] [] [] n [] → R H') : spInit C CL [.ref p, .int n] (upd (upd H dx (.own p)) p (.ins C dx [])) (fun v H2 => v = .non ∧ R H2) EE := by
  have sH : Same H (upd (upd H dx (.own p)) p (.ins C dx [])) := Same.new (Same.new (Same.refl H) ndx) ((upd_ne ne.symm).trans np)
  have sm : n.natAbs < 10 ^ 40 := by
    have := g.1
    have := g.2
    omega
  refine ⟨p, dx, n, rfl, upd_same, fm_int sm, fun _ G1 d k1 nd hB => ⟨rfl, ?_⟩, fun ng => absurd g ng⟩
  refine k d G1 (fun x o e => k1 _ _ (sH _ _ e) (ne_of_none e np)) (Same.free sH nd) (fun e => ?_) hB
  rw [e, upd_same] at nd
  cases nd
end
end Fk

namespace Fk
open PySem L2 ClX
local macro_rules | `(tactic| walk_at "rdc") => `(tactic| (first | exact Or.inl ⟨by decide, by decide⟩ | exact Or.inr ⟨by decide, by decide⟩ | exact ⟨by decide, by decide⟩ | exact Or.inl ⟨by omega, by omega⟩ | exact Or.inr ⟨by omega, by omega⟩ | ((show (0 : Int) < _); (first | decide | omega)) | exact ⟨by decide, by decide, by decide⟩ | exact ⟨by omega, by assumption⟩))
local macro_rules | `(tactic| walk_at "hp") => `(tactic| (first | exact upd_same | assumption | ((rw [upd_ne (by assumption)]); (first | exact upd_same | assumption | ((rw [upd_ne (by assumption)]); (first | exact upd_same | assumption | ((rw [upd_ne (by assumption)]); (first | exact upd_same | assumption))))))))
local macro_rules | `(tactic| walk_at "r1") => `(tactic| (first | refine ⟨_, rfl, ?_⟩ | refine ⟨_, _, rfl, rfl, ?_⟩ | refine ⟨_, _, rfl, ?_⟩ | refine Or.inl ⟨_, rfl, ?_⟩ | refine ⟨rfl, ?_⟩ | refine ⟨(by walk_at "rdc"), ?_⟩ | refine ⟨_, _, _, _, rfl, rfl, SqL.of (by walk_at "hp"), rfl, ?_⟩ | refine ⟨_, _, _, _, rfl, rfl, (by walk_at "hp"), rfl, ?_⟩ | refine ⟨_, _, _, _, rfl, rfl, SqL.of (by walk_at "hp"), by assumption, ?_⟩))
local macro_rules | `(tactic| walk_at "rd") => `(tactic| (repeat walk_at "r1"))
--#ty _law_some _law_names_here=l _law_rest=l _law_found=l
section
variable {P : Program} {w : World} {K : PySem.W.Frag} {mg : Str → Option Value} {base : Heap}
structure Bt (mg : Str → Option Value) : Prop where
  b_min : mg "min" = none
  b_len : mg "len" = none
  b_list : mg "list" = none
  b_range : mg "range" = none
  b_tuple : mg "tuple" = none
theorem drop_strs : ∀ (ns : List Str) (k : Nat), (ns.map V.str).eraseIdx k = (ns.eraseIdx k).map V.str
  | [], k => by simp
  | n :: ns, 0 => rfl
  | n :: ns, k + 1 => by
    have ih := drop_strs ns k
    simp [ih]
theorem erase_perm {α : Type} : ∀ (l : List α) (k : Nat) (h : k < l.length), (l[k] :: l.eraseIdx k).Perm l
  | [], _, h => absurd h (Nat.not_lt_zero _)
  | a :: l, 0, _ => List.Perm.refl _
  | a :: l, k + 1, h => by
    have hk : k < l.length := Nat.lt_of_succ_lt_succ h
    have ih := erase_perm l k hk
    show (l[k] :: a :: l.eraseIdx k).Perm (a :: l)
    exact (List.Perm.swap a l[k] _).trans (ih.cons a)
/-! ### _law_some -/
abbrev s__law_some : Stmt := top 48
theorem sc__law_some : FnScope ["_law_bag_here", "_law_names_here", "_law_many", "_law_rest", "_law_found", "_law_k"] ["_law_bag_here", "_law_names_here", "_law_many"] (defScope s__law_some) := ⟨rfl, rfl, rfl, by decide +kernel, rfl, by decide +kernel, by decide +kernel⟩
def spSome : Sp := fun vs H Q _ => ∃ (b c a : Addr) (A : List Str) (m : Nat), vs = [.ref b, .ref a, .int m] ∧ Bag H b c ∧ H a = some (.lst (A.map V.str)) ∧ m ≤ A.length ∧ A.length ≤ 100 ∧
  ∀ (p : Addr) (B R : List Str) H', Bag H' b c → Keep H H' b → H p = none → H' p = some (.lst (B.map V.str)) → B.length = m → (B ++ R).Perm A → Q (.ref p) H'
theorem ok_some {f : Addr} {fd : FuncData} (F : Fun K "_law_some" "_law_some" s__law_some f fd) (T : Bt mg) (c__law_take : C8.Cal P w K mg base 2 "_law_take" spTake []) : FnOk P w K mg base CX0 3 f fd ["_law_bag_here", "_law_names_here", "_law_many"] spSome := by
  refine F.ok sc__law_some (fun vs H Q E h => ?_) (fun cdv A outer s H vs Q E hr h => ?_)
  · obtain ⟨b, c, a, A, m, rfl, _⟩ := h
    rfl
  · obtain ⟨b, c, a, A, m, rfl, hb, ha, lm, la, k⟩ := h
    refine ⟨_, (pss_cons (ps_set (i := 3) sc__law_some.nd rfl (by first | exact Or.inl rfl | exact Or.inr rfl) (pe_callTy call_list_of (by rfl) T.b_list (by decide +kernel) (pa_cons (pv 1) pa_nil)))
      (pss_cons (ps_set (i := 4) sc__law_some.nd rfl (by first | exact Or.inl rfl | exact Or.inr rfl) (pe_lst pa_nil))
      (pss_cons (ps_for PassesOwn.never rfl (pi_range1 (by rfl) T.b_range (pa_cons (pe_callB (call_min2 rfl) (by rfl) T.b_min (by decide +kernel) (pa_cons (pv 2) (pa_cons (pe_callB call_len (by rfl) T.b_len PySem.boot_len (pa_cons (pv 1) pa_nil)) pa_nil))) pa_nil)) (pg_name (i := 5) sc__law_some.nd rfl (by first | exact Or.inl rfl | exact Or.inr rfl)) (pss_one (ps_expr (pe_bm PySem.F.plainAttrs_list PySem.F.slot_list_append PySem.F.type_list_append mt_append (pv 4) (pa_cons (pe_bm PySem.F.plainAttrs_list PySem.F.slot_list_pop PySem.F.type_list_pop mt_popAt (pv 3) (pa_cons (C8.pe_c c__law_take hr (by decide) rfl (pa_cons (pv 0) (pa_cons (pe_callB call_len (by rfl) T.b_len PySem.boot_len (pa_cons (pv 3) pa_nil)) pa_nil))) pa_nil)) pa_nil)))))
      (pss_one (ps_ret (pv 4)))))), ?_⟩
    walk_at "rd"
    refine ⟨a, _, rfl, .inl (SqL.of ha), fun r nr => ?_⟩
    refine ⟨by show 0 ≤ sizeLine; decide, fun D nD => ?_⟩
    have rD : r ≠ D := ne_of_none upd_same nD
    have nD0 : H D = none := (Same.new (Same.refl H) nr).free nD
    have ra : a ≠ r := ne_of_none ha nr
    have aD : a ≠ D := ne_of_none ha nD0
    walk_at "rd"
    refine ⟨_, A.length, rfl, .inl ⟨_, SqL.of ((upd_ne aD).trans ((upd_ne ra).trans ha)), (List.length_map ..).symm⟩, ?_⟩
    walk_at "rd"
    have em : (if (A.length : Int) < (m : Int) then (A.length : Int) else (m : Int)) = (m : Int) := by
      by_cases e : A.length < m
      · omega
      · rw [if_neg (by omega)]
    rw [em]
    refine ⟨by omega, by omega, ?_⟩
    obtain ⟨br, cr⟩ := hb.off nr
    obtain ⟨bD, cD⟩ := hb.off nD0
    refine for_range (n := m) (fun i σ H' => ∃ v R B, σ = [some (.ref b), some (.ref a), some (.int m), some (.ref r), some (.ref D), v] ∧ H' r = some (.lst (R.map V.str)) ∧ H' D = some (.lst (B.map V.str)) ∧ (B ++ R).Perm A ∧ B.length = i ∧ Bag H' b c ∧ Keep H H' b)
      ⟨none, A, [], rfl, (upd_ne rD).trans upd_same, upd_same, List.Perm.refl _, rfl, Bag.set (Bag.set hb br cr) bD cD, ((Keep.refl H b).new nr).new nD⟩ ?_ ?_
    · rintro i σ H1 hi ⟨v, R, B, rfl, hr1, hD1, hR, hB, hb1, hk1⟩
      have hRl : R.length + i = A.length := by
        have := hR.length_eq
        rw [List.length_append, hB] at this
        omega
      walk_at "rd"
      refine ⟨.inl ⟨rfl, _, SqL.of hD1⟩, ?_⟩
      walk_at "rd"
      refine ⟨.inl ⟨rfl, _, SqL.of hr1⟩, ?_⟩
      walk_at "rd"
      refine ⟨_, R.length, rfl, .inl ⟨_, SqL.of hr1, (List.length_map ..).symm⟩, ?_⟩
      refine ⟨b, c, _, rfl, hb1, by omega, fun x H2 hb2 hk2 x0 x1 => ?_⟩
      have xR : x < R.length := by
        have e : max (1 : Int) R.length = R.length := by omega
        rw [e] at x1
        exact x1
      have hr2 := hk2 _ _ hr1 br.symm
      have hD2 := hk2 _ _ hD1 bD.symm
      have xl : x.toNat < R.length := by omega
      have hz : R[x.toNat]? = some R[x.toNat] := List.getElem?_eq_getElem xl
      refine ⟨r, _, x, x.toNat, V.str R[x.toNat], rfl, rfl, hr2, by omega, by omega, ?_, by rw [List.getElem?_map, hz]; rfl, ?_⟩
      · have e : seqIndex? x R.length = some x.toNat := by
          unfold seqIndex?
          simp only []
          rw [if_neg (show ¬ x < 0 by omega), if_pos (by simp; omega)]
        rw [List.length_map]
        exact e
      rw [drop_strs]
      have hD3 : (upd H2 r (.lst ((R.eraseIdx x.toNat).map V.str))) D = some (.lst (B.map V.str)) := (upd_ne rD.symm).trans hD2
      walk_at "rd"
      refine ⟨D, _, _, rfl, rfl, hD3, small1000 (by rw [List.length_map]; omega), ?_⟩
      refine ⟨_, R.eraseIdx x.toNat, B ++ [R[x.toNat]], rfl, (upd_ne rD).trans upd_same, by rw [upd_same, List.map_append]; rfl, ?_, by rw [List.length_append, hB]; rfl, Bag.set (Bag.set hb2 br cr) bD cD, fun q o e ne => ?_⟩
      · rw [List.append_assoc]
        exact ((erase_perm R x.toNat xl).append_left B).trans hR
      · have q1 : q ≠ r := ne_of_none e nr
        have q2 : q ≠ D := ne_of_none e nD0
        exact (upd_ne q2).trans ((upd_ne q1).trans (hk2 _ _ (hk1 _ _ e ne) ne))
    · rintro σ H1 ⟨v, R, B, rfl, hr1, hD1, hR, hB, hb1, hk1⟩
      walk_at "rd"
      exact k D B R H1 hb1 hk1 nD0 hD1 hB hR
theorem rows_get {H : Hp} : ∀ {as : List Addr} {rs : List (List Fx.FD)} {i : Nat} {a : Addr}, RowsIn H as rs → as[i]? = some a → ∃ r, rs[i]? = some r ∧ H a = some (.tup (r.map Fx.FD.v))
  | [], [], _, _, _, e => by cases e
  | a :: as, r :: rs, 0, b, h, e => by
    cases e
    exact ⟨r, rfl, h.1⟩
  | a :: as, r :: rs, i + 1, b, h, e => rows_get (as := as) (rs := rs) (i := i) h.2 e
  | [], _ :: _, _, _, h, _ => h.elim
  | _ :: _, [], _, _, h, _ => h.elim
theorem rows_len {H : Hp} : ∀ {as : List Addr} {rs : List (List Fx.FD)}, RowsIn H as rs → as.length = rs.length
  | [], [], _ => rfl
  | _ :: _, _ :: _, h => congrArg Nat.succ (rows_len h.2)
  | [], _ :: _, h => h.elim
  | _ :: _, [], h => h.elim
end
end Fk

namespace Fk
open PySem L2 ClX
local macro_rules | `(tactic| walk_at "rdc") => `(tactic| (first | exact Or.inl ⟨by decide, by decide⟩ | exact Or.inr ⟨by decide, by decide⟩ | exact ⟨by decide, by decide⟩ | exact Or.inl ⟨by omega, by omega⟩ | exact Or.inr ⟨by omega, by omega⟩ | ((show (0 : Int) < _); (first | decide | omega)) | exact ⟨by decide, by decide, by decide⟩ | exact ⟨by omega, by assumption⟩))
local macro_rules | `(tactic| walk_at "hp") => `(tactic| (first | exact upd_same | assumption | ((rw [upd_ne (by assumption)]); (first | exact upd_same | assumption | ((rw [upd_ne (by assumption)]); (first | exact upd_same | assumption | ((rw [upd_ne (by assumption)]); (first | exact upd_same | assumption))))))))
local macro_rules | `(tactic| walk_at "r1") => `(tactic| (first | refine ⟨_, rfl, ?_⟩ | refine ⟨_, _, rfl, rfl, ?_⟩ | refine ⟨_, _, rfl, ?_⟩ | refine Or.inl ⟨_, rfl, ?_⟩ | refine ⟨rfl, ?_⟩ | refine ⟨(by walk_at "rdc"), ?_⟩ | refine ⟨_, _, _, _, rfl, rfl, SqL.of (by walk_at "hp"), rfl, ?_⟩ | refine ⟨_, _, _, _, rfl, rfl, (by walk_at "hp"), rfl, ?_⟩ | refine ⟨_, _, _, _, rfl, rfl, SqL.of (by walk_at "hp"), by assumption, ?_⟩))
local macro_rules | `(tactic| walk_at "rd") => `(tactic| (repeat walk_at "r1"))
--#ty _law_pairs _law_names_here=l _law_order=l _law_order[]=s _law_loose=b _law_pairs_here=l _law_near=s _law_mixed_here=l _law_a=s _law_b=s _law_pair=t
--#ret _law_some l
--#cut _law_pairs 0 1 2 3 4 5 6
section
variable {P : Program} {w : World} {K : PySem.W.Frag} {mg : Str → Option Value} {base : Heap}
/-- a pair in a row -/
def row2 (e : Str × Str) : List Fx.FD := [.s e.1, .s e.2]
/-- pairs of two forks -/
def GoodP (ws : List Str) (ps : List (Str × Str)) : Prop := ∀ e ∈ ps, e.1 ∈ ws ∧ e.2 ∈ ws ∧ e.1 ≠ e.2
theorem GoodP.snoc {ws : List Str} {ps : List (Str × Str)} {a b : Str} (h : GoodP ws ps) (ha : a ∈ ws) (hb : b ∈ ws) (ne : a ≠ b) : GoodP ws (ps ++ [(a, b)]) := by
  intro e he
  rcases List.mem_append.mp he with he | he
  · exact h e he
  · rw [List.mem_singleton.mp he]
    exact ⟨ha, hb, ne⟩
theorem GoodP.ins {ws : List Str} {ps : List (Str × Str)} {a b : Str} {r : Nat} (h : GoodP ws ps) (ha : a ∈ ws) (hb : b ∈ ws) (ne : a ≠ b) : GoodP ws (ps.take r ++ [(a, b)] ++ ps.drop r) := by
  intro e he
  simp only [List.mem_append, List.mem_singleton] at he
  rcases he with (he | rfl) | he
  · exact h e (List.mem_of_mem_take he)
  · exact ⟨ha, hb, ne⟩
  · exact h e (List.mem_of_mem_drop he)
theorem RowsIn.app {H : Hp} : ∀ {as bs : List Addr} {rs ss : List (List Fx.FD)}, RowsIn H as rs → RowsIn H bs ss → RowsIn H (as ++ bs) (rs ++ ss)
  | [], _, [], _, _, h => h
  | _ :: _, _, _ :: _, _, h, q => ⟨h.1, RowsIn.app h.2 q⟩
  | [], _, _ :: _, _, h, _ => h.elim
  | _ :: _, _, [], _, h, _ => h.elim
theorem RowsIn.tk {H : Hp} : ∀ {as : List Addr} {rs : List (List Fx.FD)} (k : Nat), RowsIn H as rs → RowsIn H (as.take k) (rs.take k)
  | _, _, 0, _ => by rw [List.take_zero, List.take_zero]; trivial
  | [], [], _ + 1, _ => trivial
  | _ :: _, _ :: _, k + 1, h => ⟨h.1, RowsIn.tk k h.2⟩
  | [], _ :: _, _, h => h.elim
  | _ :: _, [], _, h => h.elim
theorem RowsIn.dp {H : Hp} : ∀ {as : List Addr} {rs : List (List Fx.FD)} (k : Nat), RowsIn H as rs → RowsIn H (as.drop k) (rs.drop k)
  | _, _, 0, h => h
  | [], [], _ + 1, _ => trivial
  | _ :: _, _ :: _, k + 1, h => RowsIn.dp k h.2
  | [], _ :: _, _, h => h.elim
  | _ :: _, [], _, h => h.elim
theorem Bag.tups {H H' : Hp} {b c : Addr} (h : Bag H b c) (k : Keep H H' b) : Tups H H' := by
  obtain ⟨n, acc, pos, bb, cells, h1, _⟩ := h
  exact fun a xs z => k _ _ z fun q => by
    rw [q, h1] at z
    cases z
theorem Tups.updL {H H' : Hp} {D : Addr} {xs ys : List V} (t : Tups H H') (hD : H' D = some (.lst xs)) : Tups H (upd H' D (.lst ys)) := fun a zs e => (upd_ne fun z => by
  have := t a zs e
  rw [z, hD] at this
  cases this).trans (t a zs e)
abbrev s__law_pairs : Stmt := top 49
theorem sc__law_pairs : FnScope ["_law_bag_here", "_law_names_here", "_law_extra", "_law_order", "_law_loose", "_law_pairs_here", "_law_k", "_law_near", "_law_mixed_here", "_law_a", "_law_b", "_law_pair"] ["_law_bag_here", "_law_names_here", "_law_extra"] (defScope s__law_pairs) := ⟨rfl, rfl, rfl, by decide +kernel, rfl, by decide +kernel, by decide +kernel⟩
def spPairs : Sp := fun vs H Q _ => ∃ (b c l : Addr) (ws : List Str) (x : Int), vs = [.ref b, .ref l, .int x] ∧ Bag H b c ∧ H l = some (.lst (ws.map V.str)) ∧ ws.length ≤ 10 ∧ ws.Nodup ∧ 0 ≤ x ∧ x ≤ 9 ∧
  ∀ (p : Addr) (as : List Addr) (ps : List (Str × Str)) H', Bag H' b c → Keep H H' b → H p = none → H' p = some (.lst (as.map V.ref)) → RowsIn H' as (ps.map row2) → ps.length ≤ 18 → GoodP ws ps → Q (.ref p) H'
/-- a list of pairs that grows at D -/
structure Grow (H0 : Hp) (b c D : Addr) (ws : List Str) (ps : List (Str × Str)) (H : Hp) : Prop where
  bag : Bag H b c
  keep : Keep H0 H b
  at_ : ∃ as : List Addr, H D = some (.lst (as.map V.ref)) ∧ RowsIn H as (ps.map row2)
  good : GoodP ws ps
theorem Grow.mono {H0 H H' : Hp} {b c D : Addr} {ws : List Str} {ps : List (Str × Str)} (g : Grow H0 b c D ws ps H) (bD : D ≠ b) (hb : Bag H' b c) (k : Keep H H' b) : Grow H0 b c D ws ps H' :=
  ⟨hb, g.keep.trans k, g.at_.elim fun as h => ⟨as, k _ _ h.1 bD, h.2.keep (g.bag.tups k)⟩, g.good⟩
theorem rows2_len {H : Hp} {as : List Addr} {ps : List (Str × Str)} (h : RowsIn H as (ps.map row2)) : as.length = ps.length := by
  rw [rows_len h, List.length_map]
theorem Grow.put {H0 H : Hp} {b c D q : Addr} {ws : List Str} {ps : List (Str × Str)} {x y : Str} (g : Grow H0 b c D ws ps H) (nD : H0 D = none) (bD : D ≠ b) (cD : c ≠ D) (nq : H q = none) (hx : x ∈ ws) (hy : y ∈ ws) (ne : x ≠ y) :
    ∃ as : List Addr, upd H q (.tup [.str x, .str y]) D = some (.lst (as.map V.ref)) ∧ as.length = ps.length ∧ Grow H0 b c D ws (ps ++ [(x, y)]) (upd (upd H q (.tup [.str x, .str y])) D (.lst (as.map V.ref ++ [.ref q]))) := by
  obtain ⟨gb, gk, ⟨as, hD, hr⟩, gg⟩ := g
  have sq := Same.new (o := .tup [.str x, .str y]) (Same.refl H) nq
  have hD1 := sq _ _ hD
  have hq1 : upd H q (.tup [.str x, .str y]) q = some (.tup [.str x, .str y]) := upd_same
  refine ⟨as, hD1, rows2_len hr, (gb.same sq).set bD.symm cD, fun a o e n => (upd_ne (ne_of_none e nD)).trans (sq _ _ (gk a o e n)), ⟨as ++ [q], ?_, ?_⟩, gg.snoc hx hy ne⟩
  · rw [upd_same, List.map_append]
    rfl
  · have t1 : Tups H (upd (upd H q (.tup [.str x, .str y])) D (.lst (as.map V.ref ++ [.ref q]))) := Tups.updL (.of_same sq) hD1
    have t2 : Tups (upd H q (.tup [.str x, .str y])) (upd (upd H q (.tup [.str x, .str y])) D (.lst (as.map V.ref ++ [.ref q]))) := Tups.updL (fun _ _ e => e) hD1
    rw [List.map_append]
    exact (hr.keep t1).snoc (t2 _ _ hq1)
theorem Grow.ins {H0 H : Hp} {b c D q : Addr} {ws : List Str} {ps : List (Str × Str)} {x y : Str} (r : Nat) (g : Grow H0 b c D ws ps H) (nD : H0 D = none) (bD : D ≠ b) (cD : c ≠ D) (hq : H q = some (.tup [.str x, .str y])) (hx : x ∈ ws) (hy : y ∈ ws) (ne : x ≠ y) :
    ∃ as : List Addr, H D = some (.lst (as.map V.ref)) ∧ as.length = ps.length ∧ Grow H0 b c D ws (ps.take r ++ [(x, y)] ++ ps.drop r) (upd H D (.lst ((as.map V.ref).take r ++ [.ref q] ++ (as.map V.ref).drop r))) := by
  obtain ⟨gb, gk, ⟨as, hD, hr⟩, gg⟩ := g
  refine ⟨as, hD, rows2_len hr, gb.set bD.symm cD, fun a o e n => (upd_ne (ne_of_none e nD)).trans (gk a o e n), ⟨as.take r ++ [q] ++ as.drop r, ?_, ?_⟩, gg.ins hx hy ne⟩
  · rw [upd_same, List.map_append, List.map_append, List.map_take, List.map_drop]
    rfl
  · have t1 : Tups H (upd H D (.lst ((as.map V.ref).take r ++ [.ref q] ++ (as.map V.ref).drop r))) := Tups.updL (fun _ _ e => e) hD
    have h2 := hr.keep t1
    rw [List.map_append, List.map_append, List.map_take, List.map_drop]
    exact ((h2.tk r).snoc (t1 _ _ hq)).app (h2.dp r)
theorem ok_pairs {f : Addr} {fd : FuncData} (F : Fun K "_law_pairs" "_law_pairs" s__law_pairs f fd) (T : Bt mg) (c__law_take : C8.Cal P w K mg base 2 "_law_take" spTake []) (c__law_some : C8.Cal P w K mg base 3 "_law_some" spSome []) : FnOk P w K mg base CX0 4 f fd ["_law_bag_here", "_law_names_here", "_law_extra"] spPairs := by
  refine F.ok sc__law_pairs (fun vs H Q E h => ?_) (fun cdv A outer s H vs Q E hr h => ?_)
  · obtain ⟨b, c, l, ws, x, rfl, _⟩ := h
    rfl
  · obtain ⟨b, c, l, ws, x, rfl, hb, hl, wl, wn, x0, x9, k⟩ := h
    refine ⟨_, (C8.pss_cut (ps_set (i := 3) sc__law_pairs.nd rfl (by first | exact Or.inl rfl | exact Or.inr rfl) (C8.pe_c c__law_some hr (by decide) rfl (pa_cons (pv 0) (pa_cons (pv 1) (pa_cons (pe_callB call_len (by rfl) T.b_len PySem.boot_len (pa_cons (pv 1) pa_nil)) pa_nil)))))
      (C8.pss_cut (ps_set (i := 4) sc__law_pairs.nd rfl (by first | exact Or.inl rfl | exact Or.inr rfl) (pe_cmpR op_eq (C8.pe_c c__law_take hr (by decide) rfl (pa_cons (pv 0) (pa_cons pe_int pa_nil))) pe_int (nomark _)))
      (C8.pss_cut (ps_set (i := 5) sc__law_pairs.nd rfl (by first | exact Or.inl rfl | exact Or.inr rfl) (pe_lst pa_nil))
      (C8.pss_cut (ps_for PassesOwn.never rfl (pi_range2 (by rfl) T.b_range (pa_cons pe_int (pa_cons (pe_callB call_len (by rfl) T.b_len PySem.boot_len (pa_cons (pv 3) pa_nil)) pa_nil))) (pg_name (i := 6) sc__law_pairs.nd rfl (by first | exact Or.inl rfl | exact Or.inr rfl)) (pss_cons (ps_set (i := 7) sc__law_pairs.nd rfl (by first | exact Or.inl rfl | exact Or.inr rfl) (pe_ix ix_list (pv 3) (C8.pe_c c__law_take hr (by decide) rfl (pa_cons (pv 0) (pa_cons (pv 6) pa_nil))) (fun _ _ => rfl)))
      (pss_one (ps_if (PW.pt (pw_or (pt_not (pt_val (pv 4))) (pw_or1 (pt_cmpR op_gt (C8.pe_c c__law_take hr (by decide) rfl (pa_cons (pv 0) (pa_cons pe_int pa_nil))) pe_int (nomark _))))) (pss_one (ps_expr (pe_bm PySem.F.plainAttrs_list PySem.F.slot_list_append PySem.F.type_list_append mt_append (pv 5) (pa_cons (pe_tup (pa_cons (pv 7) (pa_cons (pe_ix ix_list (pv 3) (pv 6) (fun _ _ => rfl)) pa_nil))) pa_nil)))) pss_nil))))
      (C8.pss_cut (ps_if (pt_cmpR op_gt (pe_callB call_len (by rfl) T.b_len PySem.boot_len (pa_cons (pv 1) pa_nil)) pe_int (nomark _)) (pss_one (ps_for PassesOwn.never rfl (pi_range1 (by rfl) T.b_range (pa_cons (C8.pe_c c__law_take hr (by decide) rfl (pa_cons (pv 0) (pa_cons (pe_op op_add (pv 2) pe_int) pa_nil))) pa_nil)) (pg_name (i := 6) sc__law_pairs.nd rfl (by first | exact Or.inl rfl | exact Or.inr rfl)) (pss_one (ps_expr (pe_bm PySem.F.plainAttrs_list PySem.F.slot_list_append PySem.F.type_list_append mt_append (pv 5) (pa_cons (pe_callTy call_tuple_of (by rfl) T.b_tuple (by decide +kernel) (pa_cons (C8.pe_c c__law_some hr (by decide) rfl (pa_cons (pv 0) (pa_cons (pv 1) (pa_cons pe_int pa_nil)))) pa_nil)) pa_nil)))))) pss_nil)
      (C8.pss_cut (ps_set (i := 8) sc__law_pairs.nd rfl (by first | exact Or.inl rfl | exact Or.inr rfl) (pe_lst pa_nil))
      (C8.pss_cut (ps_for PassesOwn.never rfl (pi_list (pv 5)) (pg_tup rfl (pgs_cons (pg_name (i := 9) sc__law_pairs.nd rfl (by first | exact Or.inl rfl | exact Or.inr rfl)) (pgs_cons (pg_name (i := 10) sc__law_pairs.nd rfl (by first | exact Or.inl rfl | exact Or.inr rfl)) pgs_nil))) (pss_cons (ps_set (i := 11) sc__law_pairs.nd rfl (by first | exact Or.inl rfl | exact Or.inr rfl) (pe_tup (pa_cons (pv 9) (pa_cons (pv 10) pa_nil))))
      (pss_cons (ps_if (pt_cmpR op_eq (C8.pe_c c__law_take hr (by decide) rfl (pa_cons (pv 0) (pa_cons pe_int pa_nil))) pe_int (nomark _)) (pss_one (ps_set (i := 11) sc__law_pairs.nd rfl (by first | exact Or.inl rfl | exact Or.inr rfl) (pe_tup (pa_cons (pv 10) (pa_cons (pv 9) pa_nil))))) pss_nil)
      (pss_one (ps_expr (pe_bm PySem.F.plainAttrs_list PySem.F.slot_list_insert PySem.F.type_list_insert mt_insert (pv 8) (pa_cons (C8.pe_c c__law_take hr (by decide) rfl (pa_cons (pv 0) (pa_cons (pe_op op_add (pe_callB call_len (by rfl) T.b_len PySem.boot_len (pa_cons (pv 8) pa_nil)) pe_int) pa_nil))) (pa_cons (pv 11) pa_nil))))))))
      (pss_one (ps_ret (pv 8)))))))))), ?_⟩
    refine ⟨fun σ' H' => ∃ (o : Addr) (B : List Str), σ' = [some (.ref b), some (.ref l), some (.int x), some (.ref o), none, none, none, none, none, none, none, none] ∧ Bag H' b c ∧ Keep H H' b ∧ H' o = some (.lst (B.map V.str)) ∧ B.length = ws.length ∧ B.Nodup ∧ (∀ z ∈ B, z ∈ ws), ?_, ?_⟩
    · walk_at "rd"
      refine ⟨_, ws.length, rfl, .inl ⟨_, SqL.of hl, (List.length_map ..).symm⟩, ?_⟩
      refine ⟨b, c, l, ws, ws.length, rfl, hb, hl, Nat.le_refl _, by omega, fun o B R H1 hb1 hk1 no ho hB hp => ?_⟩
      exact ⟨o, B, rfl, hb1, hk1, ho, hB, (List.nodup_append.mp (hp.nodup_iff.mpr wn)).1, fun z hz => hp.subset (List.mem_append_left _ hz)⟩
    rintro σ' H1 ⟨o, B, rfl, hb1, hk1, ho1, hBl, hBn, hBs⟩
    refine ⟨fun σ' H' => ∃ (lo : Bool), σ' = [some (.ref b), some (.ref l), some (.int x), some (.ref o), some (.bl lo), none, none, none, none, none, none, none] ∧ Bag H' b c ∧ Keep H H' b ∧ H' o = some (.lst (B.map V.str)), ?_, ?_⟩
    · walk_at "rd"
      refine ⟨b, c, _, rfl, hb1, by decide, fun r H2 hb2 hk2 r0 r1 => ?_⟩
      walk_at "rd"
      exact ⟨hb2, hk1.trans hk2, hk2 _ _ ho1 (hb1.ne_strs ho1)⟩
    rintro σ' H2 ⟨lo, rfl, hb2, hk2, ho2⟩
    clear hb1 hk1 ho1
    refine ⟨fun σ' H' => ∃ (D : Addr), σ' = [some (.ref b), some (.ref l), some (.int x), some (.ref o), some (.bl lo), some (.ref D), none, none, none, none, none, none] ∧ Grow H b c D ws [] H' ∧ H' o = some (.lst (B.map V.str)) ∧ H D = none ∧ D ≠ b ∧ c ≠ D ∧ o ≠ D, ?_, ?_⟩
    · walk_at "rd"
      refine ⟨Nat.zero_le _, fun D nD => ?_⟩
      have sD := Same.new (o := .lst []) (Same.refl H2) nD
      refine ⟨D, rfl, ⟨hb2.same sD, hk2.same sD, ⟨[], upd_same, trivial⟩, fun _ h => nomatch h⟩, sD _ _ ho2, ?_, (hb2.off nD).1.symm, (hb2.off nD).2, ne_of_none ho2 nD⟩
      cases z : H D with
      | none => rfl
      | some y =>
        by_cases e : D = b
        · exact absurd e (hb2.off nD).1.symm
        · rw [hk2 _ _ z e] at nD
          cases nD
    rintro σ' H3 ⟨D, rfl, g3, ho3, nD, bD, cD, oD⟩
    clear hb2 hk2 ho2
    refine ⟨fun σ' H' => ∃ (v6 v7 : Option V) (ps : List (Str × Str)), σ' = [some (.ref b), some (.ref l), some (.int x), some (.ref o), some (.bl lo), some (.ref D), v6, v7, none, none, none, none] ∧ Grow H b c D ws ps H' ∧ ps.length ≤ 9, ?_, ?_⟩
    · walk_at "rd"
      refine ⟨_, B.length, rfl, .inl ⟨_, SqL.of ho3, (List.length_map ..).symm⟩, ?_⟩
      walk_at "rd"
      refine ⟨⟨by omega, by omega, by omega, by omega⟩, ?_⟩
      refine for_range (lo := 1) (n := ((B.length : Int) - 1).toNat) (fun i σ H' => ∃ (v6 v7 : Option V) (ps : List (Str × Str)), σ = [some (.ref b), some (.ref l), some (.int x), some (.ref o), some (.bl lo), some (.ref D), v6, v7, none, none, none, none] ∧ Grow H b c D ws ps H' ∧ H' o = some (.lst (B.map V.str)) ∧ ps.length ≤ i)
        ⟨_, _, [], rfl, g3, ho3, Nat.le_refl _⟩ (fun i σ H' hi hp => ?_) (fun σ H' hp => ?_)
      · obtain ⟨v6, v7, ps, rfl, g, ho, lp⟩ := hp
        walk_at "rd"
        refine ⟨b, c, _, rfl, g.bag, by omega, fun r H4 hb4 hk4 r0 r1 => ?_⟩
        have rk : r.toNat < 1 + i := by
          have e : max (1 : Int) (1 + (i : Int)) = 1 + i := by omega
          rw [e] at r1
          omega
        have rB : r.toNat < B.length := by omega
        have kB : 1 + i < B.length := by omega
        have ho4 := hk4 _ _ ho (g.bag.ne_strs ho)
        have g4 := g.mono bD hb4 hk4
        have at1 : atI (B.map V.str) r = some (.str B[r.toNat]) := at_of (j := r.toNat) (by omega) (by rw [List.getElem?_map, List.getElem?_eq_getElem rB]; rfl)
        have at2 : atI (B.map V.str) (1 + (i : Int)) = some (.str B[1 + i]) := at_of (j := 1 + i) (by omega) (by rw [List.getElem?_map, List.getElem?_eq_getElem kB]; rfl)
        have ne : B[r.toNat] ≠ B[1 + i] := fun e => by
          have := (List.getElem_inj (h₀ := rB) (h₁ := kB) hBn).mp e
          omega
        cases lo with
        | false =>
          walk_at "rd"
          obtain ⟨as0, hD0, _⟩ := g4.at_
          refine ⟨.inl ⟨rfl, _, SqL.of hD0⟩, ?_⟩
          walk_at "rd"
          refine ⟨by show 2 ≤ sizeLine; decide, fun q nq => ?_⟩
          obtain ⟨as, hD1, el, g6⟩ := g4.put nD bD cD nq (hBs _ (List.getElem_mem rB)) (hBs _ (List.getElem_mem kB)) ne
          walk_at "rd"
          refine ⟨D, _, _, rfl, rfl, hD1, small1000 (by rw [List.length_map, el]; omega), ?_⟩
          refine ⟨_, _, _, rfl, g6, (upd_ne oD).trans ((upd_ne (ne_of_none ho4 nq)).trans ho4), ?_⟩
          rw [List.length_append]
          exact Nat.succ_le_succ lp
        | true =>
          walk_at "rd"
          refine ⟨b, c, _, rfl, g4.bag, by decide, fun r2 H5 hb5 hk5 _ _ => ?_⟩
          have g5 := g4.mono bD hb5 hk5
          have ho5 := hk5 _ _ ho4 (g4.bag.ne_strs ho4)
          walk_at "rd"
          refine ite2 (fun _ => ?_) (fun _ => ?_)
          · walk_at "rd"
            obtain ⟨as0, hD0, _⟩ := g5.at_
            refine ⟨.inl ⟨rfl, _, SqL.of hD0⟩, ?_⟩
            walk_at "rd"
            refine ⟨by show 2 ≤ sizeLine; decide, fun q nq => ?_⟩
            obtain ⟨as, hD1, el, g6⟩ := g5.put nD bD cD nq (hBs _ (List.getElem_mem rB)) (hBs _ (List.getElem_mem kB)) ne
            walk_at "rd"
            refine ⟨D, _, _, rfl, rfl, hD1, small1000 (by rw [List.length_map, el]; omega), ?_⟩
            refine ⟨_, _, _, rfl, g6, (upd_ne oD).trans ((upd_ne (ne_of_none ho5 nq)).trans ho5), ?_⟩
            rw [List.length_append]
            exact Nat.succ_le_succ lp
          · walk_at "rd"
            exact ⟨_, _, ps, rfl, g5, ho5, by omega⟩
      · obtain ⟨v6, v7, ps, rfl, g, ho, lp⟩ := hp
        exact ⟨_, _, ps, rfl, g, by omega⟩
    rintro σ' H4 ⟨v6, v7, ps, rfl, g4, l4⟩
    clear g3 ho3
    have hl4 := g4.keep _ _ hl (hb.ne_strs hl)
    refine ⟨fun σ' H' => ∃ (v6 v7 : Option V) (ps : List (Str × Str)), σ' = [some (.ref b), some (.ref l), some (.int x), some (.ref o), some (.bl lo), some (.ref D), v6, v7, none, none, none, none] ∧ Grow H b c D ws ps H' ∧ ps.length ≤ 18, ?_, ?_⟩
    · walk_at "rd"
      refine ⟨_, ws.length, rfl, .inl ⟨_, SqL.of hl4, (List.length_map ..).symm⟩, ?_⟩
      walk_at "rd"
      refine ite2 (fun c1 => ?_) (fun _ => ?_)
      rotate_left
      · walk_at "rd"
        exact ⟨_, _, ps, rfl, g4, by omega⟩
      have two : 2 ≤ ws.length := by
        have c1 : (1 : Int) < ws.length := by simpa using c1
        omega
      walk_at "rd"
      refine ⟨b, c, _, rfl, g4.bag, by omega, fun m H5 hb5 hk5 m0 m1 => ?_⟩
      have m9 : m.toNat ≤ 9 := by
        have e : max (1 : Int) (x + 1) = x + 1 := by omega
        rw [e] at m1
        omega
      have g5 := g4.mono bD hb5 hk5
      walk_at "rd"
      refine ⟨by omega, by omega, ?_⟩
      refine for_range (lo := 0) (n := m.toNat) (fun i σ H' => ∃ (v6 v7 : Option V) (ps : List (Str × Str)), σ = [some (.ref b), some (.ref l), some (.int x), some (.ref o), some (.bl lo), some (.ref D), v6, v7, none, none, none, none] ∧ Grow H b c D ws ps H' ∧ ps.length ≤ 9 + i)
        ⟨_, _, ps, rfl, g5, by omega⟩ (fun i σ H' hi hp => ?_) (fun σ H' hp => ?_)
      · obtain ⟨v6, v7, ps, rfl, g, lp⟩ := hp
        have hl6 := g.keep _ _ hl (hb.ne_strs hl)
        obtain ⟨as0, hD0, _⟩ := g.at_
        walk_at "rd"
        refine ⟨.inl ⟨rfl, _, SqL.of hD0⟩, ?_⟩
        walk_at "rd"
        refine ⟨b, c, l, ws, 2, rfl, g.bag, hl6, two, by omega, fun p B2 R H6 hb6 hk6 np hp hB2 hperm => ?_⟩
        obtain ⟨y, z, rfl⟩ : ∃ y z, B2 = [y, z] := by
          match B2, hB2 with
          | [y, z], _ => exact ⟨y, z, rfl⟩
        have nyz : y ≠ z := by
          have := (hperm.nodup_iff).mpr wn
          rw [List.nodup_append] at this
          have := this.1
          simp at this
          exact this
        have hy : y ∈ ws := hperm.subset (by simp)
        have hz : z ∈ ws := hperm.subset (by simp)
        have g6 := g.mono bD hb6 hk6
        walk_at "rd"
        refine ⟨p, _, rfl, .inl ⟨SqL.of hp, fun q nq => ?_⟩⟩
        obtain ⟨as, hD1, el, g7⟩ := g6.put nD bD cD nq hy hz nyz
        walk_at "rd"
        refine ⟨D, _, _, rfl, rfl, hD1, small1000 (by rw [List.length_map, el]; omega), ?_⟩
        refine ⟨_, _, _, rfl, g7, ?_⟩
        rw [List.length_append]
        show ps.length + 1 ≤ _
        omega
      · obtain ⟨v6, v7, ps, rfl, g, lp⟩ := hp
        exact ⟨_, _, ps, rfl, g, by omega⟩
    clear g4 l4 hl4 ps v6 v7
    rintro σ' H5 ⟨v6, v7, ps, rfl, g5, l5⟩
    refine ⟨fun σ' H' => ∃ (M : Addr) (as : List Addr), σ' = [some (.ref b), some (.ref l), some (.int x), some (.ref o), some (.bl lo), some (.ref D), v6, v7, some (.ref M), none, none, none] ∧ Grow H b c M ws [] H' ∧ H' D = some (.lst (as.map V.ref)) ∧ RowsIn H' as (ps.map row2) ∧ H M = none ∧ M ≠ b ∧ c ≠ M ∧ D ≠ M, ?_, ?_⟩
    · walk_at "rd"
      refine ⟨Nat.zero_le _, fun M nM => ?_⟩
      obtain ⟨as, hD, hr⟩ := g5.at_
      have sM := Same.new (o := .lst []) (Same.refl H5) nM
      refine ⟨M, as, rfl, ⟨g5.bag.same sM, g5.keep.same sM, ⟨[], upd_same, trivial⟩, fun _ h => nomatch h⟩, sM _ _ hD, hr.keep (.of_same sM), ?_, (g5.bag.off nM).1.symm, (g5.bag.off nM).2, ne_of_none hD nM⟩
      cases z : H M with
      | none => rfl
      | some y =>
        rw [g5.keep _ _ z (g5.bag.off nM).1.symm] at nM
        cases nM
    have gp := g5.good
    clear g5
    rintro σ' H6 ⟨M, as, rfl, g6, hD6, hr6, nM, bM, cM, dM⟩
    refine ⟨fun σ' H' => ∃ (v9 v10 v11 : Option V) (qs : List (Str × Str)), σ' = [some (.ref b), some (.ref l), some (.int x), some (.ref o), some (.bl lo), some (.ref D), v6, v7, some (.ref M), v9, v10, v11] ∧ Grow H b c M ws qs H' ∧ qs.length ≤ 18, ?_, ?_⟩
    · walk_at "rd"
      refine ⟨⟨_, SqL.of hD6⟩, ?_⟩
      refine for_list (K := K) (a := D) (xs := as.map V.ref) (fun i σ H' => ∃ (v9 v10 v11 : Option V) (qs : List (Str × Str)), σ = [some (.ref b), some (.ref l), some (.int x), some (.ref o), some (.bl lo), some (.ref D), v6, v7, some (.ref M), v9, v10, v11] ∧ Grow H b c M ws qs H' ∧ H' D = some (.lst (as.map V.ref)) ∧ RowsIn H' as (ps.map row2) ∧ qs.length ≤ i)
        ⟨_, _, _, [], rfl, g6, hD6, hr6, Nat.le_refl _⟩ (fun i σ H' _ hp => by obtain ⟨_, _, _, _, _, _, h, _⟩ := hp; exact SqL.of h) (fun i v σ H' hi hp => ?_) (fun σ H' hp => ?_)
      · obtain ⟨v9, v10, v11, qs, rfl, g, hD, hr, lq⟩ := hp
        obtain ⟨a, ha, rfl⟩ : ∃ a, as[i]? = some a ∧ v = .ref a := by
          rw [List.getElem?_map] at hi
          cases e : as[i]? with
          | none => rw [e] at hi; cases hi
          | some a => rw [e] at hi; exact ⟨a, rfl, (Option.some.inj hi).symm⟩
        obtain ⟨r0, hr0, hrow⟩ := rows_get hr ha
        obtain ⟨e, he, rfl⟩ : ∃ e, ps[i]? = some e ∧ r0 = row2 e := by
          rw [List.getElem?_map] at hr0
          cases e : ps[i]? with
          | none => rw [e] at hr0; cases hr0
          | some c => rw [e] at hr0; exact ⟨c, rfl, (Option.some.inj hr0).symm⟩
        obtain ⟨y, z⟩ := e
        obtain ⟨hy, hz, nyz⟩ := gp _ (List.mem_of_getElem? he)
        have hrow : H' a = some (.tup [.str y, .str z]) := hrow
        have i18 : i < 18 := by
          have := (List.getElem?_eq_some_iff.mp he).1
          omega
        walk_at "rd"
        refine ⟨a, _, rfl, SqT.of hrow, rfl, ?_⟩
        walk_at "rd"
        refine ⟨by show 2 ≤ sizeLine; decide, fun q nq => ?_⟩
        have dB : D ≠ b := fun z => by
          obtain ⟨n, acc, pos, bb, cells, h1, _⟩ := g.bag
          rw [← z, hD] at h1
          have e1 := congrArg (fun o => match o with | some (HO.lst l) => l | _ => []) h1
          have e2 : as.map V.ref = [.int n, .int acc, .int pos, .int bb, .ref c] := e1
          cases as with
          | nil => simp at e2
          | cons a0 as0 => simp at e2
        have sq := Same.new (o := .tup [.str y, .str z]) (Same.refl H') nq
        have gq := g.mono bM (g.bag.same sq) ((Keep.refl H' b).same sq)
        have hDq := sq _ _ hD
        have hrq := hr.keep (.of_same sq)
        have hqq : upd H' q (.tup [.str y, .str z]) q = some (.tup [.str y, .str z]) := upd_same
        generalize upd H' q (.tup [.str y, .str z]) = H8 at gq hDq hrq hqq ⊢
        walk_at "rd"
        refine ⟨b, c, _, rfl, gq.bag, by decide, fun t H9 hb9 hk9 _ _ => ?_⟩
        have gt := gq.mono bM hb9 hk9
        have hDt := hk9 _ _ hDq dB
        have hrt := hrq.keep (gq.bag.tups hk9)
        have hqt := gq.bag.tups hk9 _ _ hqq
        clear gq hDq hrq hqq
        walk_at "rd"
        refine ite2 (fun _ => ?_) (fun _ => ?_)
        · walk_at "rd"
          refine ⟨by show 2 ≤ sizeLine; decide, fun q2 nq2 => ?_⟩
          have sq2 := Same.new (o := .tup [.str z, .str y]) (Same.refl H9) nq2
          have gq2 := gt.mono bM (gt.bag.same sq2) ((Keep.refl H9 b).same sq2)
          have hDq2 := sq2 _ _ hDt
          have hrq2 := hrt.keep (.of_same sq2)
          have hqq2 : upd H9 q2 (.tup [.str z, .str y]) q2 = some (.tup [.str z, .str y]) := upd_same
          generalize upd H9 q2 (.tup [.str z, .str y]) = H10 at gq2 hDq2 hrq2 hqq2 ⊢
          obtain ⟨as1, hM1, _⟩ := gq2.at_
          walk_at "rd"
          refine ⟨.inl ⟨rfl, _, SqL.of hM1⟩, ?_⟩
          walk_at "rd"
          refine ⟨_, as1.length, rfl, .inl ⟨_, SqL.of hM1, (List.length_map ..).symm⟩, ?_⟩
          have e1 : as1.length ≤ i := by
            obtain ⟨as2, h2, e2, _⟩ := gq2.ins 0 nM bM cM hqq2 hz hy nyz.symm
            rw [h2] at hM1
            have : as2.map V.ref = as1.map V.ref := by simpa using hM1
            have : as2.length = as1.length := by simpa using congrArg List.length this
            omega
          walk_at "rd"
          refine ⟨b, c, _, rfl, gq2.bag, by omega, fun r H9 hb9 hk9 r0 r1 => ?_⟩
          have rr : r < 20 := by
            have e : max (1 : Int) ((as1.length : Int) + 1) = as1.length + 1 := by omega
            rw [e] at r1
            omega
          have g9 := gq2.mono bM hb9 hk9
          have q9 := gq2.bag.tups hk9 _ _ hqq2
          have hD9 := hk9 _ _ hDq2 dB
          have hr9 := hrq2.keep (gq2.bag.tups hk9)
          obtain ⟨as3, hM3, e3, g10⟩ := g9.ins r.toNat nM bM cM q9 hz hy nyz.symm
          walk_at "rd"
          refine ⟨M, _, r, _, rfl, rfl, hM3, small1000 (by rw [List.length_map, e3]; omega), r0, by omega, ?_⟩
          refine ⟨_, _, _, _, rfl, g10, (upd_ne dM).trans hD9, hr9.keep (Tups.updL (fun _ _ e => e) hM3), ?_⟩
          simp only [List.length_append, List.length_take, List.length_drop, List.length_singleton]
          omega
        · walk_at "rd"
          obtain ⟨as1, hM1, _⟩ := gt.at_
          walk_at "rd"
          refine ⟨.inl ⟨rfl, _, SqL.of hM1⟩, ?_⟩
          walk_at "rd"
          refine ⟨_, as1.length, rfl, .inl ⟨_, SqL.of hM1, (List.length_map ..).symm⟩, ?_⟩
          have e1 : as1.length ≤ i := by
            obtain ⟨as2, h2, e2, _⟩ := gt.ins 0 nM bM cM hqt hy hz nyz
            rw [h2] at hM1
            have : as2.map V.ref = as1.map V.ref := by simpa using hM1
            have : as2.length = as1.length := by simpa using congrArg List.length this
            omega
          walk_at "rd"
          refine ⟨b, c, _, rfl, gt.bag, by omega, fun r H9 hb9 hk9 r0 r1 => ?_⟩
          have rr : r < 20 := by
            have e : max (1 : Int) ((as1.length : Int) + 1) = as1.length + 1 := by omega
            rw [e] at r1
            omega
          have g9 := gt.mono bM hb9 hk9
          have q9 := gt.bag.tups hk9 _ _ hqt
          have hD9 := hk9 _ _ hDt dB
          have hr9 := hrt.keep (gt.bag.tups hk9)
          obtain ⟨as3, hM3, e3, g10⟩ := g9.ins r.toNat nM bM cM q9 hy hz nyz
          walk_at "rd"
          refine ⟨M, _, r, _, rfl, rfl, hM3, small1000 (by rw [List.length_map, e3]; omega), r0, by omega, ?_⟩
          refine ⟨_, _, _, _, rfl, g10, (upd_ne dM).trans hD9, hr9.keep (Tups.updL (fun _ _ e => e) hM3), ?_⟩
          simp only [List.length_append, List.length_take, List.length_drop, List.length_singleton]
          omega
      · obtain ⟨v9, v10, v11, qs, rfl, g, _, _, lq⟩ := hp
        have e := rows2_len hr6
        rw [List.length_map] at lq
        exact ⟨_, _, _, qs, rfl, g, by omega⟩
    rintro σ' H7 ⟨v9, v10, v11, qs, rfl, g7, l7⟩
    obtain ⟨bs, hM, hrM⟩ := g7.at_
    walk_at "rd"
    exact k M bs qs H7 g7.bag g7.keep nM hM hrM l7 g7.good
end
end Fk

namespace Fk
open PySem L2 ClX
local macro_rules | `(tactic| walk_at "rdc") => `(tactic| (first | exact Or.inl ⟨by decide, by decide⟩ | exact Or.inr ⟨by decide, by decide⟩ | exact ⟨by decide, by decide⟩ | exact Or.inl ⟨by omega, by omega⟩ | exact Or.inr ⟨by omega, by omega⟩ | ((show (0 : Int) < _); (first | decide | omega)) | exact ⟨by decide, by decide, by decide⟩ | exact ⟨by omega, by assumption⟩))
local macro_rules | `(tactic| walk_at "hp") => `(tactic| (first | exact upd_same | assumption | ((rw [upd_ne (by assumption)]); (first | exact upd_same | assumption | ((rw [upd_ne (by assumption)]); (first | exact upd_same | assumption | ((rw [upd_ne (by assumption)]); (first | exact upd_same | assumption))))))))
local macro_rules | `(tactic| walk_at "r1") => `(tactic| (first | refine ⟨_, rfl, ?_⟩ | refine ⟨_, _, rfl, rfl, ?_⟩ | refine ⟨_, _, rfl, ?_⟩ | refine Or.inl ⟨_, rfl, ?_⟩ | refine ⟨rfl, ?_⟩ | refine ⟨(by walk_at "rdc"), ?_⟩ | refine ⟨_, _, _, _, rfl, rfl, SqL.of (by walk_at "hp"), rfl, ?_⟩ | refine ⟨_, _, _, _, rfl, rfl, (by walk_at "hp"), rfl, ?_⟩ | refine ⟨_, _, _, _, rfl, rfl, SqL.of (by walk_at "hp"), by assumption, ?_⟩))
local macro_rules | `(tactic| walk_at "rd") => `(tactic| (repeat walk_at "r1"))
--#ty _law_bench _law_names_here=l _law_strikes=l _law_bench_here=o
--#make Bench
--#methR add
--#methX strike
--#cut _law_bench 0 1 2
section
variable {P : Program} {w : World} {K : PySem.W.Frag} {mg : Str → Option Value} {base : Heap}
abbrev s__law_bench : Stmt := top 50
theorem sc__law_bench : FnScope ["_law_names_here", "_law_strikes", "_law_spare", "_law_bench_here", "_law_name_here", "_law_a", "_law_b", "_law_count"] ["_law_names_here", "_law_strikes", "_law_spare"] (defScope s__law_bench) := ⟨rfl, rfl, rfl, by decide +kernel, rfl, by decide +kernel, by decide +kernel⟩
abbrev St3 := Str × Str × Int
def row3 (r : St3) : List Fx.FD := strikeRow r.1 r.2.1 r.2.2
structure Tcl (K : PySem.W.Frag) (C : Addr) : Prop where
  cls : Cls K C
/-- good strikes over the names -/
def GoodR (ws : List Str) (rs : List St3) : Prop := ∀ r ∈ rs, r.1 ∈ ws ∧ r.2.1 ∈ ws ∧ r.1 ≠ r.2.1 ∧ goodC r.2.2
theorem same_kp {H H1 H2 : Hp} {p d : Addr} (s : Same H H1) (k : Kp2 H1 H2 p d) (np : H p = none) (nd : H d = none) : Same H H2 := fun a o e => k _ _ (s _ _ e) (ne_of_none e np) (ne_of_none e nd)
def spBench (C : Addr) : Sp := fun vs H Q _ => ∃ (l t : Addr) (lim : Int) (ws : List Str) (as : List Addr) (rs : List St3), vs = [.ref l, .ref t, .int lim] ∧ goodL lim ∧ H l = some (.lst (ws.map V.str)) ∧ ws.length ≤ 10 ∧ ws.Nodup ∧ (∀ z ∈ ws, Low z) ∧ H t = some (.lst (as.map V.ref)) ∧ RowsIn H as (rs.map row3) ∧ rs.length ≤ 20 ∧ GoodR ws rs ∧
  ∀ p d ts H', Same H H' → H p = none → H d = none → BenchAt C H' p d ws (rs.map row3) [] lim ts → ts.length ≤ 40 → Q (.ref p) H'
theorem ok_bench {f C CL CB CR CU CC : Addr} {fd : FuncData} (F : Fun K "_law_bench" "_law_bench" s__law_bench f fd) (T : Tcl K C) (k_Bench : Fx.MkX P w K mg base 4 "Bench" C (spInit C CL)) (x_add : Fx.MethR P w K mg base 7 C "add" (spAdd C CB CR)) (x_strike : Fx.MethX P w K mg base 6 C "strike" (spStrike C CR CU CC)) : FnOk P w K mg base CX0 9 f fd ["_law_names_here", "_law_strikes", "_law_spare"] (spBench C) := by
  refine F.ok sc__law_bench (fun vs H Q E h => ?_) (fun cdv A outer s H vs Q E hr h => ?_)
  · obtain ⟨l, t, lim, ws, as, rs, rfl, _⟩ := h
    rfl
  · obtain ⟨l, t, lim, ws, as, rs, rfl, gl, hl, wl, wn, wlow, ht, hrs, rl, rg, k⟩ := h
    refine ⟨_, (C8.pss_cut (ps_set (i := 3) sc__law_bench.nd rfl (by first | exact Or.inl rfl | exact Or.inr rfl) (Fx.pe_mkX k_Bench hr (by decide) rfl Fx.none0 (pa_cons (pv 2) pa_nil)))
      (C8.pss_cut (ps_for PassesOwn.never rfl (pi_list (pv 0)) (pg_name (i := 4) sc__law_bench.nd rfl (by first | exact Or.inl rfl | exact Or.inr rfl)) (pss_one (ps_expr (Fx.pe_mr x_add T.cls hr (by decide) Fx.none0 (pv 3) (pa_cons (pv 4) pa_nil)))))
      (C8.pss_cut (ps_for PassesOwn.never rfl (pi_list (pv 1)) (pg_tup rfl (pgs_cons (pg_name (i := 5) sc__law_bench.nd rfl (by first | exact Or.inl rfl | exact Or.inr rfl)) (pgs_cons (pg_name (i := 6) sc__law_bench.nd rfl (by first | exact Or.inl rfl | exact Or.inr rfl)) (pgs_cons (pg_name (i := 7) sc__law_bench.nd rfl (by first | exact Or.inl rfl | exact Or.inr rfl)) pgs_nil)))) (pss_one (ps_expr (Fx.pe_mx x_strike T.cls hr (by decide) Fx.none0 (pv 3) (pa_cons (pv 5) (pa_cons (pv 6) (pa_cons (pv 7) pa_nil)))))))
      (pss_one (ps_ret (pv 3)))))), ?_⟩
    refine ⟨fun σ' H' => ∃ p d, σ' = [some (.ref l), some (.ref t), some (.int lim), some (.ref p), none, none, none, none] ∧ Same H H' ∧ H p = none ∧ H d = none ∧ BenchAt C H' p d [] [] [] lim [], ?_, ?_⟩
    · walk_at "rd"
      intro y dy ny ndy ne
      exact bench_new ny ndy ne gl fun d H1 s1 nd dp hB => ⟨y, d, rfl, s1, ny, nd, hB⟩
    rintro σ' H1 ⟨p, d, rfl, s1, np, nd, hB1⟩
    refine ⟨fun σ' H' => ∃ v : Option V, σ' = [some (.ref l), some (.ref t), some (.int lim), some (.ref p), v, none, none, none] ∧ Same H H' ∧ ∃ ts, BenchAt C H' p d ws [] [] lim ts ∧ ts.length ≤ 10, ?_, ?_⟩
    · walk_at "rd"
      refine ⟨⟨_, SqL.of (s1 _ _ hl)⟩, ?_⟩
      refine for_list (K := K) (a := l) (xs := ws.map V.str) (fun i σ H' => ∃ v : Option V, σ = [some (.ref l), some (.ref t), some (.int lim), some (.ref p), v, none, none, none] ∧ Same H H' ∧ ∃ ts, BenchAt C H' p d (ws.take i) [] [] lim ts ∧ ts.length ≤ i)
        ⟨_, rfl, s1, [], hB1, Nat.le_refl _⟩ (fun i σ H' _ hp => by obtain ⟨v, _, s, _⟩ := hp; exact SqL.of (s _ _ hl)) (fun i x σ H' hi hp => ?_) (fun σ H' hp => ?_)
      · obtain ⟨v, rfl, s2, ts, hB6, tl⟩ := hp
        obtain ⟨z, hz1, rfl⟩ := strs_at hi
        have il : i < ws.length := (List.getElem?_eq_some_iff.mp hz1).1
        have hz := List.mem_of_getElem? hz1
        obtain ⟨dx, fk, st, fc, u, as, bs, h1, _⟩ := id hB6
        walk_at "rd"
        refine ⟨p, dx, _, rfl, h1, rfl, ?_⟩
        walk_at "rd"
        refine ⟨[.ref p], [.str z], rfl, rfl, by show 1 ≤ sizeLine; decide, fun q nt => ⟨p, q, rfl, ?_⟩⟩
        have st' := Same.new (o := .tup [.str z]) (Same.refl H') nt
        have fr : z ∉ ws.take i := fun m => by
          obtain ⟨j, hj, e⟩ := List.mem_take_iff_getElem.mp m
          have e3 := List.getElem?_eq_getElem il
          rw [e3] at hz1
          have := (List.getElem_inj (h₀ := by omega) (h₁ := il) wn).mp (e.trans (Option.some.inj hz1).symm)
          omega
        refine ⟨p, d, q, ws.take i, [], [], lim, _, [z], rfl, hB6.same st', upd_same, wn.sublist (List.take_sublist _ _), by rw [List.length_take]; omega, by show 1 ≤ 100; decide, by omega, ?_, ?_⟩
        · intro y hy
          rw [List.mem_singleton.mp hy]
          exact ⟨(wlow z hz).tok.len, (wlow z hz).tok.fm⟩
        · rw [vn_one (low_good (wlow z hz)) fr]
          refine ⟨by rw [List.length_take]; show min i ws.length + 1 ≤ 10; omega, fun H7 kp hB7 => ?_⟩
          walk_at "rd"
          refine ⟨same_kp (s2.trans st') kp np nd, ts ++ [addText [z]], ?_, ?_⟩
          · rw [take_nx hz1]
            exact hB7
          · rw [List.length_append]
            show ts.length + 1 ≤ i + 1
            omega
      · obtain ⟨v, rfl, s2, ts, hB6, tl⟩ := hp
        rw [List.length_map] at tl
        rw [List.length_map, List.take_length] at hB6
        exact ⟨_, rfl, s2, ts, hB6, by omega⟩
    rintro σ' H2 ⟨v4, rfl, s2, ts, hB2, tl⟩
    clear hB1 s1
    refine ⟨fun σ' H' => ∃ v5 v6 v7 : Option V, σ' = [some (.ref l), some (.ref t), some (.int lim), some (.ref p), v4, v5, v6, v7] ∧ Same H H' ∧ ∃ ts, BenchAt C H' p d ws (rs.map row3) [] lim ts ∧ ts.length ≤ 40, ?_, ?_⟩
    · walk_at "rd"
      refine ⟨⟨_, SqL.of (s2 _ _ ht)⟩, ?_⟩
      refine for_list (K := K) (a := t) (xs := as.map V.ref) (fun i σ H' => ∃ v5 v6 v7 : Option V, σ = [some (.ref l), some (.ref t), some (.int lim), some (.ref p), v4, v5, v6, v7] ∧ Same H H' ∧ ∃ ts, BenchAt C H' p d ws ((rs.take i).map row3) [] lim ts ∧ ts.length ≤ 10 + i)
        ⟨_, _, _, rfl, s2, ts, hB2, tl⟩ (fun i σ H' _ hp => by obtain ⟨_, _, _, _, s, _⟩ := hp; exact SqL.of (s _ _ ht)) (fun i x σ H' hi hp => ?_) (fun σ H' hp => ?_)
      · obtain ⟨v5, v6, v7, rfl, s3, ts, hB6, tl⟩ := hp
        obtain ⟨c, hc, rfl⟩ : ∃ c, as[i]? = some c ∧ x = .ref c := by
          rw [List.getElem?_map] at hi
          cases e : as[i]? with
          | none => rw [e] at hi; cases hi
          | some c => rw [e] at hi; exact ⟨c, rfl, (Option.some.inj hi).symm⟩
        obtain ⟨r0, hr0, hrow⟩ := rows_get hrs hc
        obtain ⟨r, hr, rfl⟩ : ∃ r, rs[i]? = some r ∧ r0 = row3 r := by
          rw [List.getElem?_map] at hr0
          cases e : rs[i]? with
          | none => rw [e] at hr0; cases hr0
          | some c => rw [e] at hr0; exact ⟨c, rfl, (Option.some.inj hr0).symm⟩
        obtain ⟨ra, rb, rn⟩ := r
        have il : i < rs.length := (List.getElem?_eq_some_iff.mp hr).1
        obtain ⟨ga, gb, gab, gn⟩ := rg _ (List.mem_of_getElem? hr)
        have ga : ra ∈ ws := ga
        have gb : rb ∈ ws := gb
        have gab : ra ≠ rb := gab
        have gn : goodC rn := gn
        have hrow2 : H' c = some (.tup [.str ra, .str rb, .int rn]) := s3 _ _ hrow
        obtain ⟨dx, fk, st, fc, u, as2, bs, h1, _⟩ := id hB6
        walk_at "rd"
        refine ⟨c, _, rfl, SqT.of hrow2, rfl, ?_⟩
        walk_at "rd"
        refine ⟨p, dx, _, rfl, h1, rfl, ?_⟩
        walk_at "rd"
        refine ⟨p, d, ws, _, _, lim, ts, ra, rb, rn, rfl, hB6, by omega, by rw [List.length_map, List.length_take]; omega, by omega, (wlow _ ga).tok.len, (wlow _ gb).tok.len, (wlow _ ga).tok.fm, (wlow _ gb).tok.fm, ?_, ?_⟩
        · have := gn.1
          have := gn.2
          omega
        · have e : sv ws ra rb rn = none := by
            unfold sv
            rw [if_neg (by simpa using ga), if_neg (by simpa using gb), if_neg gab, if_neg (by simpa using gn)]
          rw [e]
          intro H7 kp hB7
          walk_at "rd"
          refine ⟨_, _, _, rfl, same_kp s3 kp np nd, ts ++ [strikeText ra rb rn], ?_, ?_⟩
          · rw [take_nx hr, List.map_append]
            exact hB7
          · rw [List.length_append]
            show ts.length + 1 ≤ _
            omega
      · obtain ⟨v5, v6, v7, rfl, s3, ts, hB6, tl⟩ := hp
        have e : as.length = rs.length := by rw [rows_len hrs, List.length_map]
        rw [List.length_map] at tl
        rw [List.length_map, e, List.take_length] at hB6
        exact ⟨_, _, _, rfl, s3, ts, hB6, by omega⟩
    rintro σ' H3 ⟨v5, v6, v7, rfl, s3, ts, hB3, tl⟩
    walk_at "rd"
    exact k p d ts H3 s3 np nd hB3 tl
end
end Fk

namespace Fk
open PySem L2 ClX
local macro_rules | `(tactic| walk_at "rdc") => `(tactic| (first | exact Or.inl ⟨by decide, by decide⟩ | exact Or.inr ⟨by decide, by decide⟩ | exact ⟨by decide, by decide⟩ | exact Or.inl ⟨by omega, by omega⟩ | exact Or.inr ⟨by omega, by omega⟩ | ((show (0 : Int) < _); (first | decide | omega)) | exact ⟨by decide, by decide, by decide⟩ | exact ⟨by omega, by assumption⟩))
local macro_rules | `(tactic| walk_at "hp") => `(tactic| (first | exact upd_same | assumption | ((rw [upd_ne (by assumption)]); (first | exact upd_same | assumption | ((rw [upd_ne (by assumption)]); (first | exact upd_same | assumption | ((rw [upd_ne (by assumption)]); (first | exact upd_same | assumption))))))))
local macro_rules | `(tactic| walk_at "r1") => `(tactic| (first | refine ⟨_, rfl, ?_⟩ | refine ⟨_, _, rfl, rfl, ?_⟩ | refine ⟨_, _, rfl, ?_⟩ | refine Or.inl ⟨_, rfl, ?_⟩ | refine ⟨rfl, ?_⟩ | refine ⟨(by walk_at "rdc"), ?_⟩ | refine ⟨_, _, _, _, rfl, rfl, SqL.of (by walk_at "hp"), rfl, ?_⟩ | refine ⟨_, _, _, _, rfl, rfl, (by walk_at "hp"), rfl, ?_⟩ | refine ⟨_, _, _, _, rfl, rfl, SqL.of (by walk_at "hp"), by assumption, ?_⟩))
local macro_rules | `(tactic| walk_at "rd") => `(tactic| (repeat walk_at "r1"))
--#ty allowed_rises count=i limit=i beats=l sign=i value=i
--#ty rises bench=o index=i strikes=l strikes[]=t
--#ty _law_rises _law_count=i _law_spare=i _law_found=l _law_one=i
--#ty _law_ints _law_thing=l _law_due=l
--#ty _law_asked _law_bench_here=o _law_index=i
--#ret _law_is_int b
--#ret allowed_rises l
--#ret strikes l
--#ret rises l
--#meth strikes
--#prop limit
--#raising rises
--#okX rises
--#cut allowed_rises 0
--#cut _law_rises 1
section
variable {P : Program} {w : World} {K : PySem.W.Frag} {mg : Str → Option Value} {base : Heap}
structure Tr (mg : Str → Option Value) : Prop where
  b_set : mg "set" = none
  b_sorted : mg "sorted" = none
/-- what a rise may be, in the limit -/
def InR (c lim k : Int) : Prop := k = c ∨ k = -c ∨ (lim ≠ 0 ∧ (k = c - 1 ∨ k = -(c - 1) ∨ k = c + 1 ∨ k = -(c + 1)))
def RsAt (H0 H : Hp) (p : Addr) (c lim : Int) : Prop := Same H0 H ∧ H0 p = none ∧ ∃ ns : List Int, H p = some (.lst (ns.map V.int)) ∧ ns.Pairwise (· < ·) ∧ ns.length ≤ 6 ∧ ∀ k, k ∈ ns ↔ InR c lim k
abbrev s_allowed_rises : Stmt := top 37
theorem sc_allowed_rises : FnScope ["count", "limit", "beats", "value", "sign"] ["count", "limit"] (defScope s_allowed_rises) := ⟨rfl, rfl, rfl, by decide +kernel, rfl, by decide +kernel, by decide +kernel⟩
def spAllowed : Sp := fun vs H Q _ => ∃ (c lim : Int), vs = [.int c, .int lim] ∧ ∀ p H', RsAt H H' p c lim → Q (.ref p) H'
def beatsOf (c lim : Int) : List Int := if lim = 0 then [c] else [c - 1, c, c + 1]
theorem ok_allowed {f : Addr} {fd : FuncData} (F : Fun K "allowed_rises" "allowed_rises" s_allowed_rises f fd) (T : Tr mg) : FnOk P w K mg base CX0 1 f fd ["count", "limit"] spAllowed := by
  refine F.ok sc_allowed_rises (fun vs H Q E h => ?_) (fun cdv A outer s H vs Q E hr h => ?_)
  · obtain ⟨c, lim, rfl, _⟩ := h
    rfl
  · obtain ⟨c, lim, rfl, k⟩ := h
    refine ⟨_, (C8.pss_cut (ps_set (i := 2) sc_allowed_rises.nd rfl (by first | exact Or.inl rfl | exact Or.inr rfl) (pe_ifExp (pt_cmpR op_eq (pv 1) pe_int (nomark _)) (pe_lst (pa_cons (pv 0) pa_nil)) (pe_lst (pa_cons (pe_op op_sub (pv 0) pe_int) (pa_cons (pv 0) (pa_cons (pe_op op_add (pv 0) pe_int) pa_nil))))))
      (pss_one (ps_ret (pe_callB (cr_sortedSet rfl) (by rfl) T.b_sorted (by decide +kernel) (pa_cons (Fx.pe_sc2 (own := [("value", 3), ("sign", 4)]) (vs1 := [4]) (g := (gName 3)) (g1 := (gName 4)) (tt := tYes) (tt1 := tYes) rfl sc_allowed_rises.nd (pi_list (pv 2)) (blkOk_by (own := [("value", 3), ("sign", 4)]) (N := ["count", "limit", "beats", "value", "sign"]) (sc := defScope s_allowed_rises) (by decide +kernel)) (by decide) (fun _ _ _ _ _ => (pg_name (i := 3) sc_allowed_rises.nd rfl (by first | exact Or.inl rfl | exact Or.inr rfl))) (fun _ _ _ _ _ => pts_nil) (fun _ _ _ _ _ => (show PI _ _ _ (iTup K _) from pi_tup (pe_tup (pa_cons (pe_un un_neg pe_int) (pa_cons pe_int pa_nil))))) (fun _ _ _ _ _ => (pg_name (i := 4) sc_allowed_rises.nd rfl (by first | exact Or.inl rfl | exact Or.inr rfl))) (fun _ _ _ _ _ => pts_nil) (fun _ _ _ _ _ => (pe_op op_mul (pv 4) (pv 3)))) pa_nil))))), ?_⟩
    refine ⟨fun σ' H' => ∃ b : Addr, σ' = [some (.int c), some (.int lim), some (.ref b), none, none] ∧ Same H H' ∧ H' b = some (.lst ((beatsOf c lim).map V.int)), ?_, ?_⟩
    · walk_at "rd"
      refine ite2 (fun e => ?_) (fun e => ?_)
      · have e0 : lim = 0 := by simpa using e
        walk_at "rd"
        refine ⟨by show 1 ≤ sizeLine; decide, fun b nb => ?_⟩
        refine ⟨b, rfl, Same.new (Same.refl H) nb, ?_⟩
        rw [upd_same]
        unfold beatsOf
        rw [if_pos e0]
        rfl
      · have e0 : ¬ lim = 0 := by simpa using e
        walk_at "rd"
        refine ⟨by show 3 ≤ sizeLine; decide, fun b nb => ?_⟩
        refine ⟨b, rfl, Same.new (Same.refl H) nb, ?_⟩
        rw [upd_same]
        unfold beatsOf
        rw [if_neg e0]
        rfl
    rintro σ' H1 ⟨b, rfl, s1, hb⟩
    have bl : (beatsOf c lim).length ≤ 3 := by
      unfold beatsOf
      by_cases e : lim = 0
      · rw [if_pos e]; show 1 ≤ 3; omega
      · rw [if_neg e]; exact Nat.le_refl _
    walk_at "rd"
    refine ⟨⟨_, SqL.of hb⟩, fun D nD => ?_⟩
    have nD0 : H D = none := Same.free s1 nD
    refine Fx.sc2_list (w := w) (K := K) (xs := (beatsOf c lim).map V.int) (fun i H' => Same H1 H' ∧ ∃ (S : Int → Bool) (n : Nat), H' D = some (SetO w D S n) ∧ n ≤ 2 * i ∧ ∀ k : Int, S k = true ↔ ∃ v ∈ (beatsOf c lim).take i, k = -v ∨ k = v)
      ⟨Same.new (Same.refl H1) nD, _, 0, upd_same, Nat.le_refl _, fun k => by simp⟩ (fun i H' _ hp => SqL.of (hp.1 _ _ hb)) (fun i x H' hi hp => ?_) (fun H' hp => ?_)
    · obtain ⟨s2, S, n, hD, nn, hS⟩ := hp
      have il : i < (beatsOf c lim).length := by
        have := (List.getElem?_eq_some_iff.mp hi).1
        rwa [List.length_map] at this
      obtain ⟨v, hv, rfl⟩ := ints_at hi
      refine ⟨rfl, ?_⟩
      walk_at "rd"
      walk_at "rd"
      refine ⟨by show 2 ≤ sizeLine; decide, fun p2 np2 => ?_⟩
      have Dp : D ≠ p2 := ne_of_none hD np2
      have s3 := Same.new (o := .tup [.int (-1), .int 1]) s2 np2
      have hp2 : upd H' p2 (.tup [.int (-1), .int 1]) p2 = some (.tup [.int (-1), .int 1]) := upd_same
      have hD2 : upd H' p2 (.tup [.int (-1), .int 1]) D = some (SetO w D S n) := (upd_ne Dp).trans hD
      refine ⟨p2, rfl, ⟨_, SqT.of hp2⟩, ?_⟩
      refine Fx.inS_tup (K := K) (xs := [.int (-1), .int 1]) (fun j H => H p2 = some (.tup [.int (-1), .int 1]) ∧ Same H1 H ∧ ∃ (S : Int → Bool) (n : Nat), H D = some (SetO w D S n) ∧ n ≤ 2 * i + j ∧ ∀ k : Int, S k = true ↔ (∃ v ∈ (beatsOf c lim).take i, k = -v ∨ k = v) ∨ (1 ≤ j ∧ k = -v) ∨ (2 ≤ j ∧ k = v))
        ⟨hp2, s3, S, n, hD2, nn, fun k => by rw [hS k]; simp⟩ (fun j H _ h => SqT.of h.1) (fun j x H3 hj hq => ?_) (fun H3 hq => ?_)
      · obtain ⟨h4, s4, S4, n4, hD4, nn4, hS4⟩ := hq
        have step : ∀ e : Int, (j = 0 ∧ e = -1 * v) ∨ (j = 1 ∧ e = 1 * v) → ∃ (e' : Int) (S : Int → Bool) (n : Nat), V.int e = .int e' ∧ H3 D = some (SetO w D S n) ∧ n + 1 < scanBound ∧ (upd H3 D (SetO w D (fun j => S j || decide (j = e')) (if S e' = true then n else n + 1)) p2 = some (.tup [.int (-1), .int 1]) ∧ Same H1 (upd H3 D (SetO w D (fun j => S j || decide (j = e')) (if S e' = true then n else n + 1))) ∧
            ∃ (S' : Int → Bool) (n' : Nat), upd H3 D (SetO w D (fun j => S j || decide (j = e')) (if S e' = true then n else n + 1)) D = some (SetO w D S' n') ∧ n' ≤ 2 * i + (j + 1) ∧ ∀ k : Int, S' k = true ↔ (∃ v ∈ (beatsOf c lim).take i, k = -v ∨ k = v) ∨ (1 ≤ j + 1 ∧ k = -v) ∨ (2 ≤ j + 1 ∧ k = v)) := fun e he => by
          have jl : j ≤ 1 := by omega
          refine ⟨e, S4, n4, rfl, hD4, by unfold scanBound; omega, (upd_ne Dp.symm).trans h4, Same.set s4 nD, _, _, upd_same, ?_, fun k => ?_⟩
          · split <;> omega
          · rw [Bool.or_eq_true, hS4 k, decide_eq_true_eq]
            constructor
            · rintro (h | h)
              · rcases h with h | h | h
                · exact .inl h
                · exact .inr (.inl ⟨by omega, h.2⟩)
                · exact .inr (.inr ⟨by omega, h.2⟩)
              · rcases he with he | he
                · exact .inr (.inl ⟨by omega, by omega⟩)
                · exact .inr (.inr ⟨by omega, by omega⟩)
            · rintro (h | h | h)
              · exact .inl (.inl h)
              · by_cases z : j = 0
                · exact .inr (by omega)
                · exact .inl (.inr (.inl ⟨by omega, h.2⟩))
              · by_cases z : j = 1
                · exact .inr (by omega)
                · exact .inl (.inr (.inr ⟨by omega, h.2⟩))
        match j, hj with
        | 0, hj =>
          have ex : x = .int (-1) := (Option.some.inj hj).symm
          subst ex
          refine ⟨rfl, ?_⟩
          walk_at "rd"
          exact step _ (.inl ⟨rfl, rfl⟩)
        | 1, hj =>
          have ex : x = .int 1 := (Option.some.inj hj).symm
          subst ex
          refine ⟨rfl, ?_⟩
          walk_at "rd"
          exact step _ (.inr ⟨rfl, rfl⟩)
        | j + 2, hj => exact nomatch hj
      · obtain ⟨h4, s4, S4, n4, hD4, nn4, hS4⟩ := hq
        refine ⟨s4, S4, n4, hD4, by simpa [Nat.mul_add] using nn4, fun k => ?_⟩
        rw [hS4 k, List.take_add_one, hv]
        constructor
        · rintro (⟨u, hu, h⟩ | h | h)
          · exact ⟨u, List.mem_append_left _ hu, h⟩
          · exact ⟨v, List.mem_append_right _ (by simp), .inl h.2⟩
          · exact ⟨v, List.mem_append_right _ (by simp), .inr h.2⟩
        · rintro ⟨u, hu, h⟩
          rcases List.mem_append.mp hu with hu | hu
          · exact .inl ⟨u, hu, h⟩
          · have e : u = v := by simpa using hu
            subst e
            rcases h with h | h
            · exact .inr (.inl ⟨by decide, h⟩)
            · exact .inr (.inr ⟨by decide, h⟩)
    · obtain ⟨s2, S, n, hD, nn, hS⟩ := hp
      rw [List.length_map] at nn hS
      rw [List.take_length] at hS
      walk_at "rd"
      refine ⟨D, S, n, rfl, hD, by omega, fun ns p asc mem len np => ?_⟩
      refine k p _ ⟨Same.new (s1.trans s2) np, Same.free (s1.trans s2) np, ns, upd_same, asc, by omega, fun k => ?_⟩
      rw [mem k, hS k]
      unfold InR beatsOf
      by_cases e : lim = 0
      · simp [e, or_comm]
      · rw [if_neg e]
        simp only [List.mem_cons, List.not_mem_nil, or_false, exists_eq_or_imp, exists_eq_left]
        omega
abbrev s_rises : Stmt := top 39
theorem sc_rises : FnScope ["bench", "index", "strikes"] ["bench", "index"] (defScope s_rises) := ⟨rfl, rfl, rfl, by decide +kernel, rfl, by decide +kernel, by decide +kernel⟩
structure Tn3 (P : Program) (K : PySem.W.Frag) (mg : Str → Option Value) (C CN : Addr) : Prop where
  cls : Cls K C
  b_len : mg "len" = none
  e_NoStrike : Err1 P K mg "NoStrike" CN "index" (-1)
def spRises (C CN : Addr) : Sp := fun vs H Q E => ∃ (p d : Addr) (ws : List Str) (rs : List St3) (fa : List V) (n : Int) (ts : List Str) (i : Int), vs = [.ref p, .int i] ∧ BenchAt C H p d ws (rs.map row3) fa n ts ∧ rs.length ≤ 100 ∧ i.natAbs < 10 ^ 40 ∧
  (i < 0 ∨ (rs.length : Int) ≤ i → ∀ e H', Same H H' → H e = none → H' e = some (.xd [("index", .int i)]) → E (.ref CN) (some e) H') ∧
  (0 ≤ i → ∀ r, rs[i.toNat]? = some r → ∀ q H', RsAt H H' q r.2.2 n → Q (.ref q) H')
theorem ok_rises {f C CN : Addr} {fd : FuncData} (F : Fun K "rises" "rises" s_rises f fd) (T : Tn3 P K mg C CN) (c_allowed_rises : C8.Cal P w K mg base 1 "allowed_rises" spAllowed []) (q_strikes : Fx.MethC P w K mg base 1 C "strikes" (spStrikes C)) (pr_limit : Fx.PropC P w K mg base 1 C "limit" (spLimit C)) : FnOk P w K mg base (L2N.CX P w) 3 f fd ["bench", "index"] (spRises C CN) := by
  refine F.okN sc_rises (fun vs H Q E h => ?_) (fun cdv A outer s H vs Q E hr h => ?_)
  · obtain ⟨p, d, ws, rs, fa, n, ts, i, rfl, _⟩ := h
    rfl
  · obtain ⟨p, d, ws, rs, fa, n, ts, i, rfl, hB, rl, il, k1, k2⟩ := h
    refine ⟨_, (pss_cons (ps_set (i := 2) sc_rises.nd rfl (by first | exact Or.inl rfl | exact Or.inr rfl) (Fx.pe_mc0 q_strikes T.cls hr (by decide) (pv 0)))
      (pss_cons (ps_if (PW.pt (pw_or (pt_cmpR op_lt (pv 1) pe_int (nomark _)) (pw_or1 (pt_cmpR op_ge (pv 1) (pe_callB call_len (by rfl) T.b_len PySem.boot_len (pa_cons (pv 2) pa_nil)) (nomark _))))) (pss_one (L2N.ps_raise rfl (L2N.takes_of rfl rfl rfl rfl) (by exact (pmk_err1 T.e_NoStrike hr (pa_cons (pv 1) pa_nil))))) pss_nil)
      (pss_one (ps_ret (C8.pe_c c_allowed_rises hr (by decide) rfl (pa_cons (pe_ix ix_tup (pe_ix ix_list (pv 2) (pv 1) (fun _ _ => rfl)) pe_int (fun _ _ => rfl)) (pa_cons (Fx.pe_propC pr_limit T.cls hr (by decide) (pv 0)) pa_nil))))))), ?_⟩
    obtain ⟨dx, fk, st, fc, u, as, bs, h1, _⟩ := id hB
    walk_at "rd"
    refine ⟨p, dx, _, rfl, h1, rfl, ?_⟩
    refine ⟨p, d, _, _, _, _, _, rfl, hB, fun q as2 nq hrs => ?_⟩
    have sq := Same.new (o := .lst (as2.map V.ref)) (Same.refl H) nq
    have hq : upd H q (.lst (as2.map V.ref)) q = some (.lst (as2.map V.ref)) := upd_same
    generalize upd H q (.lst (as2.map V.ref)) = H1 at sq hq ⊢
    have el := rows_len hrs
    rw [List.length_map] at el
    walk_at "rd"
    refine ite2 (fun c => ?_) (fun c => ?_)
    · have c1 : i < 0 := by simpa using c
      walk_at "rd"
      exact ⟨⟨_, rfl, fm_int il⟩, fun x hx => k1 (.inl c1) x _ (Same.new sq hx) (Same.free sq hx) upd_same⟩
    · have c1 : ¬ i < 0 := by simpa using c
      walk_at "rd"
      refine ⟨_, as2.length, rfl, .inl ⟨_, SqL.of hq, (List.length_map ..).symm⟩, ?_⟩
      walk_at "rd"
      refine ite2 (fun c => ?_) (fun c => ?_)
      · have c2 : (as2.length : Int) ≤ i := by simpa using c
        walk_at "rd"
        exact ⟨⟨_, rfl, fm_int il⟩, fun x hx => k1 (.inr (by omega)) x _ (Same.new sq hx) (Same.free sq hx) upd_same⟩
      · have c2 : ¬ (as2.length : Int) ≤ i := by simpa using c
        obtain ⟨r, hr1⟩ : ∃ r, rs[i.toNat]? = some r := ⟨_, List.getElem?_eq_getElem (by omega)⟩
        obtain ⟨y, hy⟩ : ∃ y, as2[i.toNat]? = some y := ⟨_, List.getElem?_eq_getElem (by omega)⟩
        obtain ⟨r0, hr0, hrow⟩ := rows_get hrs hy
        have e0 : r0 = row3 r := by
          rw [List.getElem?_map, hr1] at hr0
          exact (Option.some.inj hr0).symm
        subst e0
        have ai : atI (as2.map V.ref) i = some (.ref y) := at_of (j := i.toNat) (by omega) (by rw [List.getElem?_map, hy]; rfl)
        have hrow2 : H1 y = some (.tup [.str r.1, .str r.2.1, .int r.2.2]) := sq _ _ hrow
        walk_at "rd"
        walk_at "rd"
        refine ⟨y, _, 2, _, rfl, rfl, SqT.of hrow2, rfl, ?_⟩
        walk_at "rd"
        refine ⟨p, dx, _, rfl, sq _ _ h1, p, dx, _, _, _, _, _, n, rfl, sq _ _ h1, ?_⟩
        walk_at "rd"
        exact (fun q2 H2 hx => k2 (by omega) r hr1 q2 H2 ⟨sq.trans hx.1, Same.free sq hx.2.1, hx.2.2⟩)
structure Tl (mg : Str → Option Value) : Prop where
  b_len : mg "len" = none
  b_all : mg "all" = none
  b_list : mg "list" = none
  b_isinstance : mg "isinstance" = none
abbrev s__law_ints : Stmt := top 47
theorem sc__law_ints : FnScope ["_law_thing", "_law_due", "_law_one"] ["_law_thing", "_law_due"] (defScope s__law_ints) := ⟨rfl, rfl, rfl, by decide +kernel, rfl, by decide +kernel, by decide +kernel⟩
def spInts : Sp := fun vs H Q _ => ∃ (a b : Addr) (ns : List Int), vs = [.ref a, .ref b] ∧ H a = some (.lst (ns.map V.int)) ∧ H b = some (.lst (ns.map V.int)) ∧ ns.length ≤ 500 ∧ ∀ H', Same H H' → Q (.bl true) H'
theorem ok_ints {f : Addr} {fd : FuncData} (F : Fun K "_law_ints" "_law_ints" s__law_ints f fd) (T : Tl mg) (c__law_is_int : C8.Cal P w K mg base 1 "_law_is_int" spIsInt []) : FnOk P w K mg base CX0 2 f fd ["_law_thing", "_law_due"] spInts := by
  refine F.ok sc__law_ints (fun vs H Q E h => ?_) (fun cdv A outer s H vs Q E hr h => ?_)
  · obtain ⟨a, b, ns, rfl, _⟩ := h
    rfl
  · obtain ⟨a, b, ns, rfl, ha, hb, hl, k⟩ := h
    refine ⟨_, (pss_cons (ps_if (PW.pt (pw_or (pt_not (pt_val (pe_callB call_isi (by rfl) T.b_isinstance (by decide +kernel) (pa_cons (pv 0) (pa_cons (pe_bltn (v := .ty "list") (by rfl) T.b_list (by decide +kernel) rfl) pa_nil))))) (pw_or1 (pt_cmpR op_ne (pe_callB call_len (by rfl) T.b_len PySem.boot_len (pa_cons (pv 0) pa_nil)) (pe_callB call_len (by rfl) T.b_len PySem.boot_len (pa_cons (pv 1) pa_nil)) (nomark _))))) (pss_one (ps_ret pe_bl)) pss_nil)
      (pss_one (ps_ret (pe_and (pe_callB (cr_all rfl) (by rfl) T.b_all (by decide +kernel) (pa_cons (pe_lc (own := [("_law_one", 2)]) (g := gName 2) (tt := tYes) rfl sc__law_ints.nd (pi_list (pv 0)) (blkOk_by (own := [("_law_one", 2)]) (N := ["_law_thing", "_law_due", "_law_one"]) (sc := defScope s__law_ints) (by decide +kernel)) (fun _ _ _ _ _ => pg_name (i := 2) sc__law_ints.nd rfl (by first | exact Or.inl rfl | exact Or.inr rfl)) (fun _ _ _ _ _ => pts_nil) (fun _ _ _ _ _ => (C8.pe_c c__law_is_int hr (by decide) rfl (pa_cons (pv 2) pa_nil)))) pa_nil)) (pe_one (pe_cmpR (op_eqD hr.units) (pv 0) (pv 1) (nomark _))))))), ?_⟩
    walk_at "rd"
    refine ⟨_, _, _, _, true, rfl, .ty _, .base (.lst ha), kit_ty (by decide +kernel), ?_⟩
    walk_at "rd"
    refine ⟨_, ns.length, rfl, .inl ⟨_, SqL.of ha, (List.length_map ..).symm⟩, ?_⟩
    walk_at "rd"
    refine ⟨_, ns.length, rfl, .inl ⟨_, SqL.of hb, (List.length_map ..).symm⟩, ?_⟩
    walk_at "rd"
    refine ite2 (fun c => absurd c (by simp)) (fun _ => ?_)
    walk_at "rd"
    refine ⟨⟨_, SqL.of ha⟩, fun D nD => ?_⟩
    refine lc_list (K := K) (a := a) (xs := ns.map V.int) (fun i H' => H' D = some (.lst ((List.replicate i true).map V.bl)) ∧ Same H H') ⟨upd_same, Same.new (Same.refl H) nD⟩ (fun i H' _ hp => SqL.of (hp.2 _ _ ha)) (fun i x H' hi hp => ?_) (fun H' hp => ?_)
    · obtain ⟨hD, hs⟩ := hp
      have il : i < ns.length := by
        have := (List.getElem?_eq_some_iff.mp hi).1
        rw [List.length_map] at this
        exact this
      obtain ⟨z, hz, rfl⟩ := ints_at hi
      refine ⟨rfl, ?_⟩
      walk_at "rd"
      refine ⟨_, hD, ?_, ?_, Same.set hs nD⟩
      · rw [List.length_map, List.length_replicate]
        exact small1000 (by omega)
      · rw [upd_same, List.replicate_succ', List.map_append]
        rfl
    · obtain ⟨hD, hs⟩ := hp
      rw [List.length_map] at hD
      refine ⟨D, _, rfl, SqL.of hD, ?_⟩
      walk_at "rd"
      refine ite2 (fun _ => ?_) (fun c => absurd (by simp) c)
      walk_at "rd"
      have fl : ∀ v ∈ ns.map V.int, Flat1 v := flat_ints ns
      refine ⟨.list ((ns.map V.int).map pdv), .list ((ns.map V.int).map pdv), .lst (SqL.of (hs _ _ ha)) (flat_dp fl), .lst (SqL.of (hs _ _ hb)) (flat_dp fl), (flat_ok fl).1.1, (flat_ok fl).1.1, ?_⟩
      rw [(flat_ok fl).1.2]
      exact k H' hs

structure Tf (mg : Str → Option Value) : Prop where
  b_set : mg "set" = none
  b_sorted : mg "sorted" = none
abbrev s__law_rises : Stmt := top 51
theorem sc__law_rises : FnScope ["_law_count", "_law_spare", "_law_found", "_law_one"] ["_law_count", "_law_spare"] (defScope s__law_rises) := ⟨rfl, rfl, rfl, by decide +kernel, rfl, by decide +kernel, by decide +kernel⟩
def spLawRises : Sp := fun vs H Q _ => ∃ (c lim : Int), vs = [.int c, .int lim] ∧ 0 ≤ c ∧ 0 ≤ lim ∧ ∀ p H', RsAt H H' p c lim → Q (.ref p) H'
theorem ok_law_rises {f : Addr} {fd : FuncData} (F : Fun K "_law_rises" "_law_rises" s__law_rises f fd) (T : Tf mg) : FnOk P w K mg base CX0 1 f fd ["_law_count", "_law_spare"] spLawRises := by
  refine F.ok sc__law_rises (fun vs H Q E h => ?_) (fun cdv A outer s H vs Q E hr h => ?_)
  · obtain ⟨c, lim, rfl, _⟩ := h
    rfl
  · obtain ⟨c, lim, rfl, c0, l0, k⟩ := h
    refine ⟨_, (pss_cons (ps_set (i := 2) sc__law_rises.nd rfl (by first | exact Or.inl rfl | exact Or.inr rfl) (pe_lst (pa_cons (pv 0) pa_nil)))
      (C8.pss_cut (ps_if (pt_cmpR op_gt (pv 1) pe_int (nomark _)) (pss_one (ps_setLc (i := 2) (own := [("_law_one", 3)]) (g := gName 3) rfl sc__law_rises.nd rfl rfl (sw_true rfl rfl rfl (by decide +kernel)) (pi_list (pe_lst (pa_cons (pe_op op_sub (pv 0) pe_int) (pa_cons (pv 0) (pa_cons (pe_op op_add (pv 0) pe_int) pa_nil))))) (blkOk_by (own := [("_law_one", 3)]) (N := ["_law_count", "_law_spare", "_law_found", "_law_one"]) (sc := defScope s__law_rises) (by decide +kernel)) (fun _ _ _ _ _ => pg_name (i := 3) sc__law_rises.nd rfl (by first | exact Or.inl rfl | exact Or.inr rfl)) (fun _ _ _ _ _ => pts_one (pt_cmpR op_ge (pv 3) pe_int (nomark _))) (fun _ _ _ _ _ => (pv 3)))) pss_nil)
      (pss_one (ps_ret (pe_callB (cr_sortedSet rfl) (by rfl) T.b_sorted (by decide +kernel) (pa_cons (pe_callTy (Fx.cr_setL rfl) (by rfl) T.b_set (by decide +kernel) (pa_cons (pe_op op_cat (pe_lc (own := [("_law_one", 3)]) (g := gName 3) (tt := tYes) rfl sc__law_rises.nd (pi_list (pv 2)) (blkOk_by (own := [("_law_one", 3)]) (N := ["_law_count", "_law_spare", "_law_found", "_law_one"]) (sc := defScope s__law_rises) (by decide +kernel)) (fun _ _ _ _ _ => pg_name (i := 3) sc__law_rises.nd rfl (by first | exact Or.inl rfl | exact Or.inr rfl)) (fun _ _ _ _ _ => pts_nil) (fun _ _ _ _ _ => (pv 3))) (pe_lc (own := [("_law_one", 3)]) (g := gName 3) (tt := tYes) rfl sc__law_rises.nd (pi_list (pv 2)) (blkOk_by (own := [("_law_one", 3)]) (N := ["_law_count", "_law_spare", "_law_found", "_law_one"]) (sc := defScope s__law_rises) (by decide +kernel)) (fun _ _ _ _ _ => pg_name (i := 3) sc__law_rises.nd rfl (by first | exact Or.inl rfl | exact Or.inr rfl)) (fun _ _ _ _ _ => pts_nil) (fun _ _ _ _ _ => (pe_un un_neg (pv 3))))) pa_nil)) pa_nil)))))), ?_⟩
    walk_at "rd"
    refine ⟨by show 1 ≤ sizeLine; decide, fun b0 nb0 => ?_⟩
    have s0 := Same.new (o := .lst [.int c]) (Same.refl H) nb0
    have hb0 : upd H b0 (.lst [.int c]) b0 = some (.lst [.int c]) := upd_same
    generalize upd H b0 (.lst [.int c]) = H0 at s0 hb0 ⊢
    refine ⟨fun σ' H' => ∃ (b : Addr) (fs : List Int), σ' = [some (.int c), some (.int lim), some (.ref b), none] ∧ Same H H' ∧ H' b = some (.lst (fs.map V.int)) ∧ fs.length ≤ 3 ∧ ∀ k, (k ∈ fs ∨ -k ∈ fs) ↔ InR c lim k, ?_, ?_⟩
    · walk_at "rd"
      refine ite2 (fun e => ?_) (fun e => ?_)
      · have e0 : 0 < lim := by simpa using e
        walk_at "rd"
        walk_at "rd"
        refine ⟨by show 3 ≤ sizeLine; decide, fun l nl => ?_⟩
        have s2 := Same.new (o := .lst [.int (c - 1), .int c, .int (c + 1)]) s0 nl
        have hl : upd H0 l (.lst [.int (c - 1), .int c, .int (c + 1)]) l = some (.lst (([c - 1, c, c + 1] : List Int).map V.int)) := upd_same
        refine ⟨l, rfl, ⟨_, SqL.of hl⟩, fun D nD => ?_⟩
        generalize upd H0 l (.lst [.int (c - 1), .int c, .int (c + 1)]) = HL at s2 hl nD ⊢
        refine lc_list (K := K) (a := l) (xs := ([c - 1, c, c + 1] : List Int).map V.int) (fun i H' => H' D = some (.lst (((([c - 1, c, c + 1] : List Int).take i).filter fun k => decide (0 ≤ k)).map V.int)) ∧ Same HL H') ⟨upd_same, Same.new (Same.refl HL) nD⟩ (fun i H' _ hp => SqL.of (hp.2 _ _ hl)) (fun i x H' hi hp => ?_) (fun H' hp => ?_)
        · obtain ⟨hD, hs⟩ := hp
          obtain ⟨z, hz, rfl⟩ := ints_at hi
          refine ⟨rfl, ?_⟩
          walk_at "rd"
          refine ite2 (fun q => ?_) (fun q => ?_)
          · have z0 : 0 ≤ z := by simpa using q
            walk_at "rd"
            refine ⟨_, hD, ?_, ?_, Same.set hs nD⟩
            · rw [List.length_map]
              have q1 := List.length_filter_le (fun k => decide (0 ≤ k)) (([c - 1, c, c + 1] : List Int).take i)
              have q2 : (([c - 1, c, c + 1] : List Int).take i).length ≤ 3 := by rw [List.length_take]; exact Nat.min_le_right ..
              exact small1000 (by omega)
            · rw [upd_same, List.take_add_one, hz, List.filter_append, List.map_append, Option.toList_some, List.filter_cons, if_pos (by simpa using z0)]
              rfl
          · have z0 : ¬ 0 ≤ z := by simpa using q
            refine ⟨?_, hs⟩
            rw [hD, List.take_add_one, hz, List.filter_append, List.map_append, Option.toList_some, List.filter_cons, if_neg (by simpa using z0)]
            simp
        · obtain ⟨hD, hs⟩ := hp
          refine ⟨D, _, rfl, s2.trans hs, hD, Nat.le_trans (List.length_filter_le ..) (by rw [List.length_take]; show min 3 3 ≤ 3; omega), fun k => ?_⟩
          rw [show ([c - 1, c, c + 1] : List Int).take ((([c - 1, c, c + 1] : List Int).map V.int).length) = [c - 1, c, c + 1] from rfl]
          unfold InR
          simp only [List.mem_filter, List.mem_cons, List.not_mem_nil, or_false, decide_eq_true_eq]
          omega
      · have e0 : lim = 0 := by
          have : ¬ 0 < lim := by simpa using e
          omega
        walk_at "rd"
        refine ⟨b0, [c], rfl, s0, hb0, by show 1 ≤ 3; omega, fun k => ?_⟩
        unfold InR
        rw [List.mem_singleton, List.mem_singleton]
        omega
    rintro σ' H1 ⟨b, fs, rfl, s1, hb, fl, hf⟩
    clear hb0 s0
    walk_at "rd"
    refine ⟨⟨_, SqL.of hb⟩, fun D nD => ?_⟩
    refine lc_list (K := K) (a := b) (xs := fs.map V.int) (fun i H' => H' D = some (.lst ((fs.take i).map V.int)) ∧ Same H1 H') ⟨upd_same, Same.new (Same.refl H1) nD⟩ (fun i H' _ hp => SqL.of (hp.2 _ _ hb)) (fun i x H' hi hp => ?_) (fun H' hp => ?_)
    · obtain ⟨hD, hs⟩ := hp
      obtain ⟨z, hz, rfl⟩ := ints_at hi
      refine ⟨rfl, ?_⟩
      walk_at "rd"
      refine ⟨_, hD, ?_, ?_, Same.set hs nD⟩
      · rw [List.length_map]
        exact small1000 (by rw [List.length_take]; omega)
      · rw [upd_same, List.take_add_one, hz, List.map_append]
        rfl
    obtain ⟨hD, hs⟩ := hp
    rw [List.length_map, List.take_length] at hD
    have hb2 := hs _ _ hb
    walk_at "rd"
    refine ⟨⟨_, SqL.of hb2⟩, fun D2 nD2 => ?_⟩
    refine lc_list (K := K) (a := b) (xs := fs.map V.int) (fun i H2 => H2 D2 = some (.lst (((fs.map (-·)).take i).map V.int)) ∧ Same H' H2) ⟨upd_same, Same.new (Same.refl H') nD2⟩ (fun i H' _ hp => SqL.of (hp.2 _ _ hb2)) (fun i x H2 hi hp => ?_) (fun H2 hp => ?_)
    · obtain ⟨hD2, hs2⟩ := hp
      obtain ⟨z, hz, rfl⟩ := ints_at hi
      refine ⟨rfl, ?_⟩
      walk_at "rd"
      refine ⟨_, hD2, ?_, ?_, Same.set hs2 nD2⟩
      · rw [List.length_map]
        exact small1000 (by rw [List.length_take, List.length_map]; omega)
      · rw [upd_same, List.take_add_one, List.getElem?_map, hz, List.map_append]
        rfl
    obtain ⟨hD2, hs2⟩ := hp
    rw [List.length_map, show fs.length = (fs.map (-·)).length from (List.length_map ..).symm, List.take_length] at hD2
    have sA := (s1.trans hs).trans hs2
    walk_at "rd"
    refine ⟨D, D2, _, _, rfl, rfl, hs2 _ _ hD, hD2, ?_, fun o no => ?_⟩
    · rw [List.length_map, List.length_map, List.length_map]
      exact Nat.le_of_lt (small1000 (by omega))
    have so := Same.new (o := .lst (fs.map V.int ++ (fs.map (-·)).map V.int)) sA no
    have ho : upd H2 o (.lst (fs.map V.int ++ (fs.map (-·)).map V.int)) o = some (.lst ((fs ++ fs.map (-·)).map V.int)) := by rw [upd_same, List.map_append]
    generalize upd H2 o (.lst (fs.map V.int ++ (fs.map (-·)).map V.int)) = H3 at so ho ⊢
    walk_at "rd"
    refine ⟨o, fs ++ fs.map (-·), rfl, SqL.of ho, by rw [List.length_append, List.length_map]; omega, fun a n na hn => ?_⟩
    rw [List.length_append, List.length_map] at hn
    walk_at "rd"
    refine ⟨a, _, n, rfl, upd_same, by omega, fun ns p asc mem len np => ?_⟩
    have sa := Same.new (o := SetO w a (fun j => decide (j ∈ fs ++ fs.map (-·))) n) so na
    refine k p _ ⟨Same.new sa np, Same.free sa np, ns, upd_same, asc, by omega, fun k => ?_⟩
    rw [mem k, decide_eq_true_eq, List.mem_append, ← hf k]
    refine or_congr Iff.rfl ⟨fun h => ?_, fun h => List.mem_map.mpr ⟨-k, h, by omega⟩⟩
    obtain ⟨z, hz, e⟩ := List.mem_map.mp h
    rw [show -k = z by omega]
    exact hz
abbrev s__law_asked : Stmt := top 52
theorem sc__law_asked : FnScope ["_law_bench_here", "_law_index", "e"] ["_law_bench_here", "_law_index"] (defScope s__law_asked) := ⟨rfl, rfl, rfl, by decide +kernel, rfl, by decide +kernel, by decide +kernel⟩
structure Ta (P : Program) (K : PySem.W.Frag) (mg : Str → Option Value) (CN : Addr) : Prop where
  e_NoStrike : Err1 P K mg "NoStrike" CN "index" (-1)
  nn : PySem.W.exmOne K (.ref CN) (.ref CN) = some true
def spAsked (C : Addr) : Sp := fun vs H Q _ => ∃ (p d : Addr) (ws : List Str) (rs : List St3) (fa : List V) (n : Int) (ts : List Str) (i : Int), vs = [.ref p, .int i] ∧ BenchAt C H p d ws (rs.map row3) fa n ts ∧ rs.length ≤ 100 ∧ i.natAbs < 10 ^ 40 ∧
  (i < 0 ∨ (rs.length : Int) ≤ i → ∀ q H', Same H H' → H' q = some (.tup [.str "none", .int i]) → Q (.ref q) H') ∧
  (0 ≤ i → ∀ r, rs[i.toNat]? = some r → ∀ q H', RsAt H H' q r.2.2 n → Q (.ref q) H')
theorem ok_asked {f C CN : Addr} {fd : FuncData} (F : Fun K "_law_asked" "_law_asked" s__law_asked f fd) (T : Ta P K mg CN) (c_rises : CalX P w K mg base 3 "rises" (spRises C CN)) : FnOk P w K mg base CX0 5 f fd ["_law_bench_here", "_law_index"] (spAsked C) := by
  refine F.ok sc__law_asked (fun vs H Q E h => ?_) (fun cdv A outer s H vs Q E hr h => ?_)
  · obtain ⟨p, d, ws, rs, fa, n, ts, i, rfl, _⟩ := h
    rfl
  · obtain ⟨p, d, ws, rs, fa, n, ts, i, rfl, hB, rl, il, k1, k2⟩ := h
    refine ⟨_, (pss_one (Fx.ps_try_cl rfl rfl Fx.none0 (fun W pn xe tk _ => (pss_one (ps_ret (pe_cX c_rises hr (by decide) rfl tk (pa_cons (pv 0) (pa_cons (pv 1) pa_nil)))))) (.named (i := 2) sc__law_asked.nd rfl rfl ⟨rfl, by decide, .inl T.e_NoStrike.g⟩ (fun a oe cls d pn hz hf => ⟨_, (pss_one (ps_ret (pe_tup (pa_cons pe_str (pa_cons (pe_xfA hz hf (pv 2)) pa_nil))))), rfl⟩) .nil))), ?_⟩
    walk_at "rd"
    refine ⟨p, d, ws, rs, fa, n, ts, i, rfl, hB, rl, il, fun hi e H1 s1 ne he => ?_, fun i0 r hr1 q H1 hx => ?_⟩
    · refine ⟨_, T.nn, fun _ a ha => ?_, fun q => absurd q (by decide)⟩
      walk_at "rd"
      refine ⟨T.e_NoStrike.a.1, T.e_NoStrike.a.2.2, ?_⟩
      walk_at "rd"
      refine ⟨e, _, _, rfl, he, rfl, ?_⟩
      walk_at "rd"
      refine ⟨by show 2 ≤ sizeLine; decide, fun q nq => ?_⟩
      exact k1 hi q _ (Same.new s1 nq) upd_same
    · walk_at "rd"
      exact k2 i0 r hr1 q H1 hx
end
end Fk

namespace Fk
open PySem L2 ClX
local macro_rules | `(tactic| walk_at "rdc") => `(tactic| (first | exact Or.inl ⟨by decide, by decide⟩ | exact Or.inr ⟨by decide, by decide⟩ | exact ⟨by decide, by decide⟩ | exact Or.inl ⟨by omega, by omega⟩ | exact Or.inr ⟨by omega, by omega⟩ | ((show (0 : Int) < _); (first | decide | omega)) | exact ⟨by decide, by decide, by decide⟩ | exact ⟨by omega, by assumption⟩))
local macro_rules | `(tactic| walk_at "hp") => `(tactic| (first | exact upd_same | assumption | ((rw [upd_ne (by assumption)]); (first | exact upd_same | assumption | ((rw [upd_ne (by assumption)]); (first | exact upd_same | assumption | ((rw [upd_ne (by assumption)]); (first | exact upd_same | assumption))))))))
local macro_rules | `(tactic| walk_at "r1") => `(tactic| (first | refine ⟨_, rfl, ?_⟩ | refine ⟨_, _, rfl, rfl, ?_⟩ | refine ⟨_, _, rfl, ?_⟩ | refine Or.inl ⟨_, rfl, ?_⟩ | refine ⟨rfl, ?_⟩ | refine ⟨(by walk_at "rdc"), ?_⟩ | refine ⟨_, _, _, _, rfl, rfl, SqL.of (by walk_at "hp"), rfl, ?_⟩ | refine ⟨_, _, _, _, rfl, rfl, (by walk_at "hp"), rfl, ?_⟩ | refine ⟨_, _, _, _, rfl, rfl, SqL.of (by walk_at "hp"), by assumption, ?_⟩))
local macro_rules | `(tactic| walk_at "rd") => `(tactic| (repeat walk_at "r1"))
--#ty law _law_script=l _law_bag_here=l _law_names_here=l _law_strikes=l _law_strikes[]=t _law_a=s _law_b=s _law_bench_here=o _law_spare=i _law_index=i _law_told=o
--#ret _law_names l
--#ret _law_pairs l
--#ret _law_bench o
--#ret _law_asked o
--#ret _law_ints b
--#ret _law_rises l
--#ret strikes l
--#meth strikes
--#methX change
--#cut law 0 1 2 3 4 5
section
variable {P : Program} {w : World} {K : PySem.W.Frag} {mg : Str → Option Value} {base : Heap}
structure Tz (K : PySem.W.Frag) (mg : Str → Option Value) (C : Addr) : Prop where
  cls : Cls K C
  b_len : mg "len" = none
  b_range : mg "range" = none
def limS : Str := S [108, 105, 109, 105, 116]
theorem lim_eq : ("limit" : Str) = limS := by decide +kernel
theorem lim_low : Low limS := ⟨_, rfl, by decide, by decide, fun c hc => by simp at hc; omega⟩
abbrev s_law : Stmt := top 53
theorem sc_law : FnScope ["_law_script", "_law_bag_here", "_law_names_here", "_law_strikes", "_law_a", "_law_b", "_law_bench_here", "_law_spare", "_law_index", "_law_told"] ["_law_script"] (defScope s_law) := ⟨rfl, rfl, rfl, by decide +kernel, rfl, by decide +kernel, by decide +kernel⟩
def spLaw (K : PySem.W.Frag) : Sp := fun vs H Q _ => ∃ (a : Addr) (ns : List Int), vs = [.ref a] ∧ SqL K H a (ns.map V.int) ∧ ns.length ≤ 63 ∧ ∀ H', Q (.bl true) H'
theorem ok_law {f C CL CW : Addr} {fd : FuncData} (F : Fun K "law" "law" s_law f fd) (T : Tz K mg C) (c__law_bag : C8.Cal P w K mg base 1 "_law_bag" (spBag K) []) (c__law_take : C8.Cal P w K mg base 2 "_law_take" spTake []) (c__law_names : C8.Cal P w K mg base 4 "_law_names" spNames [])
    (c__law_pairs : C8.Cal P w K mg base 4 "_law_pairs" spPairs []) (c__law_bench : C8.Cal P w K mg base 9 "_law_bench" (spBench C) []) (c__law_rises : C8.Cal P w K mg base 1 "_law_rises" spLawRises []) (c__law_asked : C8.Cal P w K mg base 5 "_law_asked" (spAsked C) []) (c__law_ints : C8.Cal P w K mg base 2 "_law_ints" spInts []) (q_strikes : Fx.MethC P w K mg base 1 C "strikes" (spStrikes C)) (x_change : Fx.MethX P w K mg base 4 C "change" (spChange C CL CW)) : FnOk P w K mg base CX0 11 f fd ["_law_script"] (spLaw K) := by
  refine F.ok sc_law (fun vs H Q E h => ?_) (fun cdv A outer s H vs Q E hr h => ?_)
  · obtain ⟨a, ns, rfl, _⟩ := h
    rfl
  · obtain ⟨a0, ns, rfl, hS, hl, k⟩ := h
    refine ⟨_, (C8.pss_cut (ps_set (i := 1) sc_law.nd rfl (by first | exact Or.inl rfl | exact Or.inr rfl) (C8.pe_c c__law_bag hr (by decide) rfl (pa_cons (pv 0) pa_nil)))
      (C8.pss_cut (ps_set (i := 2) sc_law.nd rfl (by first | exact Or.inl rfl | exact Or.inr rfl) (C8.pe_c c__law_names hr (by decide) rfl (pa_cons (pv 1) (pa_cons (pe_op op_add pe_int (C8.pe_c c__law_take hr (by decide) rfl (pa_cons (pv 1) (pa_cons pe_int pa_nil)))) pa_nil))))
      (C8.pss_cut (ps_set (i := 3) sc_law.nd rfl (by first | exact Or.inl rfl | exact Or.inr rfl) (pe_lst pa_nil))
      (C8.pss_cut (ps_for PassesOwn.never rfl (pi_list (C8.pe_c c__law_pairs hr (by decide) rfl (pa_cons (pv 1) (pa_cons (pv 2) (pa_cons pe_int pa_nil))))) (pg_tup rfl (pgs_cons (pg_name (i := 4) sc_law.nd rfl (by first | exact Or.inl rfl | exact Or.inr rfl)) (pgs_cons (pg_name (i := 5) sc_law.nd rfl (by first | exact Or.inl rfl | exact Or.inr rfl)) pgs_nil))) (pss_one (ps_expr (pe_bm PySem.F.plainAttrs_list PySem.F.slot_list_append PySem.F.type_list_append mt_append (pv 3) (pa_cons (pe_tup (pa_cons (pv 4) (pa_cons (pv 5) (pa_cons (pe_ix ix_list (pe_lst (pa_cons pe_int (pa_cons pe_int (pa_cons pe_int (pa_cons (C8.pe_c c__law_take hr (by decide) rfl (pa_cons (pv 1) (pa_cons (pe_op op_pow pe_int pe_int) pa_nil))) (pa_cons (pe_op op_pow pe_int pe_int) pa_nil)))))) (C8.pe_c c__law_take hr (by decide) rfl (pa_cons (pv 1) (pa_cons pe_int pa_nil))) (fun _ _ => rfl)) pa_nil)))) pa_nil)))))
      (C8.pss_cut (ps_set (i := 6) sc_law.nd rfl (by first | exact Or.inl rfl | exact Or.inr rfl) (C8.pe_c c__law_bench hr (by decide) rfl (pa_cons (pv 2) (pa_cons (pv 3) (pa_cons pe_int pa_nil)))))
      (C8.pss_cut (ps_for PassesOwn.never rfl (pi_list (pe_lst (pa_cons pe_int (pa_cons pe_int (pa_cons pe_int (pa_cons pe_int (pa_cons pe_int pa_nil))))))) (pg_name (i := 7) sc_law.nd rfl (by first | exact Or.inl rfl | exact Or.inr rfl)) (pss_cons (ps_expr (Fx.pe_mx x_change T.cls hr (by decide) Fx.none0 (pv 6) (pa_cons pe_str (pa_cons (pv 7) pa_nil))))
      (pss_one (ps_for PassesOwn.never rfl (pi_range2 (by rfl) T.b_range (pa_cons (pe_un un_neg pe_int) (pa_cons (pe_op op_add (pe_callB call_len (by rfl) T.b_len PySem.boot_len (pa_cons (pv 3) pa_nil)) pe_int) pa_nil))) (pg_name (i := 8) sc_law.nd rfl (by first | exact Or.inl rfl | exact Or.inr rfl)) (pss_cons (ps_set (i := 9) sc_law.nd rfl (by first | exact Or.inl rfl | exact Or.inr rfl) (C8.pe_c c__law_asked hr (by decide) rfl (pa_cons (pv 6) (pa_cons (pv 8) pa_nil))))
      (pss_one (ps_if (PW.pt (pw_or (pt_cmpR op_lt (pv 8) pe_int (nomark _)) (pw_or1 (pt_cmpR op_ge (pv 8) (pe_callB call_len (by rfl) T.b_len PySem.boot_len (pa_cons (pv 3) pa_nil)) (nomark _))))) (pss_one (ps_if (pt_cmpR (op_neD hr.units) (pv 9) (pe_tup (pa_cons pe_str (pa_cons (pv 8) pa_nil))) (nomark _)) (pss_one (ps_ret pe_bl)) pss_nil)) (pss_one (ps_if (pt_not (pt_val (C8.pe_c c__law_ints hr (by decide) rfl (pa_cons (pv 9) (pa_cons (C8.pe_c c__law_rises hr (by decide) rfl (pa_cons (pe_ix ix_tup (pe_ix ix_list (pv 3) (pv 8) (fun _ _ => rfl)) pe_int (fun _ _ => rfl)) (pa_cons (pv 7) pa_nil))) pa_nil))))) (pss_one (ps_ret pe_bl)) pss_nil)))))))))
      (pss_one (ps_ret (pe_cmpR (op_eqD hr.units) (Fx.pe_mc0 q_strikes T.cls hr (by decide) (pv 6)) (pv 3) (nomark _)))))))))), ?_⟩
    refine ⟨fun σ' H' => ∃ (b c : Addr), σ' = [some (.ref a0), some (.ref b), none, none, none, none, none, none, none, none] ∧ Bag H' b c, ?_, ?_⟩
    · walk_at "rd"
      exact ⟨a0, ns, rfl, hS, hl, fun H1 b c hs1 hb1 => ⟨b, c, rfl, hb1⟩⟩
    rintro σ' H1 ⟨b, c, rfl, hb1⟩
    clear hS hl
    refine ⟨fun σ' H' => ∃ (q : Addr) (zs : List Str), σ' = [some (.ref a0), some (.ref b), some (.ref q), none, none, none, none, none, none, none] ∧ H' q = some (.lst (zs.map V.str)) ∧ 1 ≤ zs.length ∧ zs.length ≤ 10 ∧ zs.Nodup ∧ (∀ z ∈ zs, Low z) ∧ Bag H' b c, ?_, ?_⟩
    · walk_at "rd"
      refine ⟨b, c, _, rfl, hb1, by decide, fun r H3 hb3 hk3 r0 r1 => ?_⟩
      have r11 : r < 3 := by
        have e : max (1 : Int) 3 = 3 := by decide
        rw [e] at r1
        exact r1
      walk_at "rd"
      refine ⟨b, c, _, rfl, hb3, by omega, by omega, fun q zs H4 hb4 hk4 nq hq hzl hzn hlow => ?_⟩
      exact ⟨q, zs, rfl, hq, by omega, by omega, hzn, fun z hz => (hlow z hz).1, hb4⟩
    rintro σ' H2 ⟨q, zs, rfl, hq2, zl1, zl, zn, zlow, hb2⟩
    clear hb1
    refine ⟨fun σ' H' => ∃ (t : Addr), σ' = [some (.ref a0), some (.ref b), some (.ref q), some (.ref t), none, none, none, none, none, none] ∧ Same H2 H' ∧ H2 t = none ∧ H' t = some (.lst []), ?_, ?_⟩
    · walk_at "rd"
      refine ⟨by show 0 ≤ sizeLine; decide, fun t nt => ?_⟩
      exact ⟨t, rfl, Same.new (Same.refl H2) nt, nt, upd_same⟩
    rintro σ' H3 ⟨t, rfl, s3, nt, ht3⟩
    have tb : t ≠ b := (hb2.off nt).1.symm
    have ct : c ≠ t := (hb2.off nt).2
    have hq3 := s3 _ _ hq2
    have hb3 := hb2.same s3
    have qt : q ≠ t := ne_of_none hq2 nt
    clear hq2 hb2
    refine ⟨fun σ' H' => ∃ (as : List Addr) (rs : List St3) (v4 v5 : Option V), σ' = [some (.ref a0), some (.ref b), some (.ref q), some (.ref t), v4, v5, none, none, none, none] ∧ Bag H' b c ∧ H' q = some (.lst (zs.map V.str)) ∧ H' t = some (.lst (as.map V.ref)) ∧ RowsIn H' as (rs.map row3) ∧ rs.length ≤ 18 ∧ GoodR zs rs, ?_, ?_⟩
    · walk_at "rd"
      walk_at "rd"
      refine ⟨b, c, q, zs, 3, rfl, hb3, hq3, zl, zn, by decide, by decide, fun p0 as0 ps H4 hb4 hk4 np0 hp0 hps pl pg => ?_⟩
      have p0b : p0 ≠ b := by
        obtain ⟨n, acc, pos, bb, cells, h1, _⟩ := hb3
        exact (ne_of_none h1 np0).symm
      have hq4 := hk4 _ _ hq3 (hb3.ne_strs hq3)
      have ht4 := hk4 _ _ ht3 tb
      have pt : p0 ≠ t := (ne_of_none ht3 np0).symm
      have pl2 : as0.length = ps.length := rows2_len hps
      walk_at "rd"
      refine ⟨⟨_, SqL.of hp0⟩, ?_⟩
      refine for_list (K := K) (a := p0) (xs := as0.map V.ref) (fun i σ H' => ∃ (as : List Addr) (rs : List St3) (v4 v5 : Option V), σ = [some (.ref a0), some (.ref b), some (.ref q), some (.ref t), v4, v5, none, none, none, none] ∧ Bag H' b c ∧ H' q = some (.lst (zs.map V.str)) ∧ H' t = some (.lst (as.map V.ref)) ∧ RowsIn H' as (rs.map row3) ∧ rs.length ≤ i ∧ GoodR zs rs ∧ H' p0 = some (.lst (as0.map V.ref)) ∧ RowsIn H' as0 (ps.map row2))
        ⟨[], [], _, _, rfl, hb4, hq4, ht4, trivial, Nat.le_refl _, (fun _ h => nomatch h), hp0, hps⟩ (fun i σ H' _ hp => by obtain ⟨_, _, _, _, _, _, _, _, _, _, _, h, _⟩ := hp; exact SqL.of h) (fun i v σ H5 hi hp => ?_) (fun σ H' hp => ?_)
      · obtain ⟨as, rs, v4, v5, rfl, hb, hq, ht, hrs, rl, rg, hp5, hps5⟩ := hp
        obtain ⟨x, hx, rfl⟩ : ∃ x, as0[i]? = some x ∧ v = .ref x := by
          rw [List.getElem?_map] at hi
          cases e : as0[i]? with
          | none => rw [e] at hi; cases hi
          | some c => rw [e] at hi; exact ⟨c, rfl, (Option.some.inj hi).symm⟩
        obtain ⟨r0, hr0, hrow⟩ := rows_get hps5 hx
        obtain ⟨e, he, rfl⟩ : ∃ e, ps[i]? = some e ∧ r0 = row2 e := by
          rw [List.getElem?_map] at hr0
          cases e : ps[i]? with
          | none => rw [e] at hr0; cases hr0
          | some c => rw [e] at hr0; exact ⟨c, rfl, (Option.some.inj hr0).symm⟩
        obtain ⟨ya, yb⟩ := e
        obtain ⟨ga, gb, gab⟩ := pg _ (List.mem_of_getElem? he)
        have ga : ya ∈ zs := ga
        have gb : yb ∈ zs := gb
        have gab : ya ≠ yb := gab
        have il : i < ps.length := (List.getElem?_eq_some_iff.mp he).1
        have hrow2 : H5 x = some (.tup [.str ya, .str yb]) := hrow
        walk_at "rd"
        refine ⟨x, _, rfl, SqT.of hrow2, rfl, ?_⟩
        walk_at "rd"
        refine ⟨.inl ⟨rfl, _, SqL.of ht⟩, ?_⟩
        walk_at "rd"
        walk_at "rd"
        refine ⟨b, c, _, rfl, hb, by decide, fun n1 H6 hb6 hk6 m0 m1 => ?_⟩
        have m9 : n1 ≤ 1000000000 := by
          have e : max (1 : Int) (10 ^ Int.toNat 9) = 1000000000 := by decide
          rw [e] at m1
          omega
        have hq6 := hk6 _ _ hq (hb.ne_strs hq)
        have ht6 := hk6 _ _ ht tb
        have hp6 := hk6 _ _ hp5 p0b
        have hrs6 := hrs.keep (hb.tups hk6)
        have hps6 := hps5.keep (hb.tups hk6)
        walk_at "rd"
        walk_at "rd"
        walk_at "rd"
        refine ⟨by show 5 ≤ sizeLine; decide, fun l5 nl5 => ?_⟩
        have s5 := Same.new (o := .lst (([0, 1, 2, n1, 10 ^ Int.toNat 9] : List Int).map V.int)) (Same.refl H6) nl5
        have hl5 : upd H6 l5 (.lst (([0, 1, 2, n1, 10 ^ Int.toNat 9] : List Int).map V.int)) l5 = some (.lst (([0, 1, 2, n1, 10 ^ Int.toNat 9] : List Int).map V.int)) := upd_same
        have hb7 := hb6.same s5
        have l5b : l5 ≠ b := (hb6.off nl5).1.symm
        have hq7 := s5 _ _ hq6
        have ht7 := s5 _ _ ht6
        have hp7 := s5 _ _ hp6
        have hrs7 := hrs6.keep (.of_same s5)
        have hps7 := hps6.keep (.of_same s5)
        walk_at "rd"
        refine ⟨b, c, _, rfl, hb7, by decide, fun r5 H8 hb8 hk8 q0 q1 => ?_⟩
        have q5 : r5 < 5 := by
          have e : max (1 : Int) 5 = 5 := by decide
          rw [e] at q1
          exact q1
        have hq8 := hk8 _ _ hq7 (hb7.ne_strs hq7)
        have ht8 := hk8 _ _ ht7 tb
        have hp8 := hk8 _ _ hp7 p0b
        have hrs8 := hrs7.keep (hb7.tups hk8)
        have hps8 := hps7.keep (hb7.tups hk8)
        have hl58 := hk8 _ _ hl5 l5b
        obtain ⟨n2, hn2⟩ : ∃ n2, ([0, 1, 2, n1, 10 ^ Int.toNat 9] : List Int)[r5.toNat]? = some n2 := ⟨_, List.getElem?_eq_getElem (by show r5.toNat < 5; omega)⟩
        have gn2 : 0 ≤ n2 ∧ n2 ≤ 1000000000 := by
          have e9 : (10 : Int) ^ Int.toNat 9 = 1000000000 := by decide
          have m := List.mem_of_getElem? hn2
          rw [e9] at m
          simp only [List.mem_cons, List.not_mem_nil, or_false] at m
          omega
        have at5 : atI (([0, 1, 2, n1, 10 ^ Int.toNat 9] : List Int).map V.int) r5 = some (.int n2) := at_of (j := r5.toNat) (by omega) (by rw [List.getElem?_map, hn2]; rfl)
        refine ⟨l5, _, r5, _, rfl, rfl, SqL.of hl58, at5, ?_⟩
        walk_at "rd"
        refine ⟨by show 3 ≤ sizeLine; decide, fun z nz => ?_⟩
        have sz := Same.new (o := .tup [.str ya, .str yb, .int n2]) (Same.refl H8) nz
        have hz1 : upd H8 z (.tup [.str ya, .str yb, .int n2]) z = some (.tup [.str ya, .str yb, .int n2]) := upd_same
        have el := rows_len hrs8
        rw [List.length_map] at el
        have t1 : Tups (upd H8 z (.tup [.str ya, .str yb, .int n2])) (upd (upd H8 z (.tup [.str ya, .str yb, .int n2])) t (.lst (as.map V.ref ++ [.ref z]))) := Tups.updL (fun _ _ e => e) (sz _ _ ht8)
        walk_at "rd"
        refine ⟨t, _, _, rfl, rfl, sz _ _ ht8, by rw [List.length_map]; exact small1000 (by omega), ?_⟩
        refine ⟨as ++ [z], rs ++ [(ya, yb, n2)], _, _, rfl, (hb8.same sz).set tb.symm ct, (upd_ne qt).trans (sz _ _ hq8), ?_, ?_, ?_, ?_, (upd_ne pt).trans (sz _ _ hp8), (hps8.keep (.of_same sz)).keep t1⟩
        · rw [upd_same, List.map_append]
          rfl
        · rw [List.map_append]
          exact ((hrs8.keep (.of_same sz)).keep t1).snoc (t1 _ _ hz1)
        · rw [List.length_append]
          exact Nat.succ_le_succ rl
        · intro r hr
          rcases List.mem_append.mp hr with hr | hr
          · exact rg r hr
          · rw [List.mem_singleton.mp hr]
            exact ⟨ga, gb, gab, gn2.1, gn2.2⟩
      · obtain ⟨as, rs, v4, v5, rfl, hb, hq, ht, hrs, rl, rg, _, _⟩ := hp
        rw [List.length_map] at rl
        exact ⟨as, rs, v4, v5, rfl, hb, hq, ht, hrs, by omega, rg⟩
    rintro σ' H4 ⟨as, rs, v4, v5, rfl, hb4, hq4, ht4, hrs4, rl, rg⟩
    clear hb3 hq3 ht3 s3 nt
    have el := rows_len hrs4
    rw [List.length_map] at el
    refine ⟨fun σ' H' => ∃ (p d : Addr) (ts : List Str), σ' = [some (.ref a0), some (.ref b), some (.ref q), some (.ref t), v4, v5, some (.ref p), none, none, none] ∧ Same H4 H' ∧ H4 p = none ∧ H4 d = none ∧ BenchAt C H' p d zs (rs.map row3) [] 0 ts ∧ ts.length ≤ 40, ?_, ?_⟩
    · walk_at "rd"
      refine ⟨q, t, 0, zs, as, rs, rfl, ⟨by decide, by decide⟩, hq4, zl, zn, zlow, ht4, hrs4, by omega, rg, fun p d ts H5 s5 np nd hB tl => ?_⟩
      exact ⟨p, d, ts, rfl, s5, np, nd, hB, tl⟩
    rintro σ' H5 ⟨p, d, ts, rfl, s5, np, nd, hB5, tl⟩
    have tp : t ≠ p := ne_of_none ht4 np
    have td : t ≠ d := ne_of_none ht4 nd
    have ht5 := s5 _ _ ht4
    have hrs5 := hrs4.keep (.of_same s5)
    clear hb4 hq4 ht4 hrs4
    refine ⟨fun σ' H' => ∃ (v7 v8 v9 : Option V) (lim : Int) (ts : List Str), σ' = [some (.ref a0), some (.ref b), some (.ref q), some (.ref t), v4, v5, some (.ref p), v7, v8, v9] ∧ BenchAt C H' p d zs (rs.map row3) [] lim ts ∧ H' t = some (.lst (as.map V.ref)) ∧ RowsIn H' as (rs.map row3), ?_, ?_⟩
    · walk_at "rd"
      refine ⟨by show 5 ≤ sizeLine; decide, fun lz nz => ?_⟩
      have sz := Same.new (o := .lst [.int 0, .int 1, .int 2, .int 3, .int 0]) (Same.refl H5) nz
      have hlz : upd H5 lz (.lst [.int 0, .int 1, .int 2, .int 3, .int 0]) lz = some (.lst (([0, 1, 2, 3, 0] : List Int).map V.int)) := upd_same
      have zp : lz ≠ p := by
        obtain ⟨dx, fk, st, fc, u, as1, bs, h1, _⟩ := id hB5
        exact (ne_of_none h1 nz).symm
      have zd : lz ≠ d := by
        obtain ⟨dx, fk, st, fc, u, as1, bs, h1, h2, h3, h4, h5, h6, h7⟩ := id hB5
        exact (ne_of_none h6 nz).symm
      have hB6 := hB5.same sz
      have ht6 := sz _ _ ht5
      have hrs6 := hrs5.keep (.of_same sz)
      refine ⟨lz, rfl, ⟨_, SqL.of hlz⟩, ?_⟩
      generalize upd H5 lz (.lst [.int 0, .int 1, .int 2, .int 3, .int 0]) = H6 at hlz hB6 ht6 hrs6 ⊢
      refine for_list (K := K) (a := lz) (xs := ([0, 1, 2, 3, 0] : List Int).map V.int) (fun i σ H' => ∃ (v7 v8 v9 : Option V) (lim : Int) (ts : List Str), σ = [some (.ref a0), some (.ref b), some (.ref q), some (.ref t), v4, v5, some (.ref p), v7, v8, v9] ∧ BenchAt C H' p d zs (rs.map row3) [] lim ts ∧ H' t = some (.lst (as.map V.ref)) ∧ RowsIn H' as (rs.map row3) ∧ H' lz = some (.lst (([0, 1, 2, 3, 0] : List Int).map V.int)) ∧ ts.length ≤ 40 + i)
        ⟨_, _, _, _, ts, rfl, hB6, ht6, hrs6, hlz, by omega⟩ (fun i σ H' _ hp => by obtain ⟨_, _, _, _, _, _, _, _, _, h, _⟩ := hp; exact SqL.of h) (fun i x σ H7 hi hp => ?_) (fun σ H' hp => ?_)
      · obtain ⟨v7, v8, v9, lim0, ts7, rfl, hB7, ht7, hrs7, hz7, tl7⟩ := hp
        have i5 : i < 5 := by
          have := (List.getElem?_eq_some_iff.mp hi).1
          rwa [List.length_map] at this
        obtain ⟨lim, hlim, rfl⟩ := ints_at hi
        have gl : goodL lim := by
          have m := List.mem_of_getElem? hlim
          simp only [List.mem_cons, List.not_mem_nil, or_false] at m
          refine ⟨by omega, by omega⟩
        obtain ⟨dx, fk, st, fc, u, as1, bs, h1, _⟩ := id hB7
        walk_at "rd"
        refine ⟨p, dx, _, rfl, h1, rfl, ?_⟩
        walk_at "rd"
        refine ⟨p, d, zs, _, _, lim0, ts7, _, lim, rfl, hB7, by omega, ?_, ?_, fun e => absurd rfl e, fun _ e => absurd gl e, fun _ _ H8 kp hB8 => ?_⟩
        · rw [lim_eq]
          exact lim_low.tok.fm
        · have := gl.1
          have := gl.2
          omega
        have h6 : ∃ o, H7 d = some (.lst o) := by
          obtain ⟨dx, fk, st, fc, u, as1, bs, h1, h2, h3, h4, h5, h6, h7⟩ := id hB7
          exact ⟨_, h6⟩
        obtain ⟨od, h6⟩ := h6
        have tp8 : Tups H7 H8 := fun a xs e => kp _ _ e (ne_of e h1 (by intro z; cases z)) (ne_of e h6 (by intro z; cases z))
        have ht8 := kp _ _ ht7 tp td
        have hz8 := kp _ _ hz7 zp zd
        have hrs8 := hrs7.keep tp8
        clear hB7 ht7 hrs7 hz7 h1 h6
        walk_at "rd"
        walk_at "rd"
        refine ⟨_, as.length, rfl, .inl ⟨_, SqL.of ht8, (List.length_map ..).symm⟩, ?_⟩
        walk_at "rd"
        refine ⟨⟨by omega, by omega, by omega, by omega⟩, ?_⟩
        refine for_range (lo := -2) (n := ((as.length : Int) + 2 - -2).toNat) (fun j σ H' => ∃ v8 v9 : Option V, σ = [some (.ref a0), some (.ref b), some (.ref q), some (.ref t), v4, v5, some (.ref p), some (.int lim), v8, v9] ∧ Same H8 H')
          ⟨_, _, rfl, Same.refl H8⟩ (fun j σ H9 hj hp => ?_) (fun σ H' hp => ?_)
        · obtain ⟨v8, v9, rfl, s9⟩ := hp
          have hB9 := hB8.same s9
          have ht9 := s9 _ _ ht8
          have hrs9 := hrs8.keep (.of_same s9)
          walk_at "rd"
          refine ⟨p, d, zs, rs, _, _, _, -2 + (j : Int), rfl, hB9, by omega, by omega, fun bad y HA sA hy => ?_, fun g0 r hr1 y HA hx => ?_⟩
          · have ht10 := sA _ _ ht9
            have ok : ∀ x ∈ [Fx.FD.s "none", .i (-2 + (j : Int))], Fx.FD.ok x := fun x hx => by
              simp only [List.mem_cons, List.not_mem_nil, or_false] at hx
              rcases hx with rfl | rfl
              · show PyData.strOk _ = true
                decide +kernel
              · trivial
            walk_at "rd"
            refine ite2 (fun c => ?_) (fun c => ?_)
            · walk_at "rd"
              refine ⟨by show 2 ≤ sizeLine; decide, fun y2 ny2 => ?_⟩
              have sn := Same.new (o := .tup [.str "none", .int (-2 + (j : Int))]) (Same.refl HA) ny2
              refine Fx.ne_rowT (r := [.s "none", .i (-2 + (j : Int))]) (q := [.s "none", .i (-2 + (j : Int))]) (SqT.of (sn _ _ hy)) (SqT.of upd_same) ok ok ?_
              rw [show decide (([.s "none", .i (-2 + (j : Int))] : List Fx.FD) ≠ [.s "none", .i (-2 + (j : Int))]) = false by simp]
              walk_at "rd"
              exact (s9.trans sA).trans sn
            · walk_at "rd"
              refine ⟨_, as.length, rfl, .inl ⟨_, SqL.of ht10, (List.length_map ..).symm⟩, ?_⟩
              walk_at "rd"
              refine ite2 (fun c2 => ?_) (fun c2 => ?_)
              · walk_at "rd"
                refine ⟨by show 2 ≤ sizeLine; decide, fun y2 ny2 => ?_⟩
                have sn := Same.new (o := .tup [.str "none", .int (-2 + (j : Int))]) (Same.refl HA) ny2
                refine Fx.ne_rowT (r := [.s "none", .i (-2 + (j : Int))]) (q := [.s "none", .i (-2 + (j : Int))]) (SqT.of (sn _ _ hy)) (SqT.of upd_same) ok ok ?_
                rw [show decide (([.s "none", .i (-2 + (j : Int))] : List Fx.FD) ≠ [.s "none", .i (-2 + (j : Int))]) = false by simp]
                walk_at "rd"
                exact (s9.trans sA).trans sn
              · have c1 : ¬ (-2 + (j : Int)) < 0 := by simpa using c
                have c3 : ¬ (as.length : Int) ≤ -2 + (j : Int) := by simpa using c2
                omega
          · obtain ⟨sA, ny, ns, hy, asc, nl, mem⟩ := hx
            have ht10 := sA _ _ ht9
            have hrs10 := hrs9.keep (.of_same sA)
            have gr := rg _ (List.mem_of_getElem? hr1)
            have jl : (-2 + (j : Int)).toNat < rs.length := (List.getElem?_eq_some_iff.mp hr1).1
            obtain ⟨a, ha⟩ : ∃ a, as[(-2 + (j : Int)).toNat]? = some a := ⟨_, List.getElem?_eq_getElem (by omega)⟩
            obtain ⟨r0, hr0, hrow⟩ := rows_get hrs10 ha
            have e0 : r0 = row3 r := by
              rw [List.getElem?_map, hr1] at hr0
              exact (Option.some.inj hr0).symm
            subst e0
            have hrow2 : HA a = some (.tup [.str r.1, .str r.2.1, .int r.2.2]) := hrow
            have ai : atI (as.map V.ref) (-2 + (j : Int)) = some (.ref a) := at_of (j := (-2 + (j : Int)).toNat) (by omega) (by rw [List.getElem?_map, ha]; rfl)
            walk_at "rd"
            refine ite2 (fun c => absurd (show (-2 + (j : Int)) < 0 by simpa using c) (by omega)) (fun c => ?_)
            walk_at "rd"
            refine ⟨_, as.length, rfl, .inl ⟨_, SqL.of ht10, (List.length_map ..).symm⟩, ?_⟩
            walk_at "rd"
            refine ite2 (fun c => absurd (show (as.length : Int) ≤ -2 + (j : Int) by simpa using c) (by omega)) (fun c => ?_)
            walk_at "rd"
            walk_at "rd"
            refine ⟨a, _, 2, _, rfl, rfl, SqT.of hrow2, rfl, ?_⟩
            walk_at "rd"
            refine ⟨gr.2.2.2.1, gl.1, fun p2 HB hx2 => ?_⟩
            obtain ⟨sB, np2, ns2, hp2, asc2, nl2, mem2⟩ := hx2
            have e2 : ns2 = ns := Fx.asc_eq asc2 asc fun k => (mem2 k).trans (mem k).symm
            subst e2
            walk_at "rd"
            refine ⟨y, p2, ns2, rfl, sB _ _ hy, hp2, by omega, fun HC sC => ?_⟩
            walk_at "rd"
            exact ((s9.trans sA).trans sB).trans sC
        · obtain ⟨v8, v9, rfl, s9⟩ := hp
          refine ⟨_, _, _, lim, _, rfl, hB8.same s9, s9 _ _ ht8, hrs8.keep (.of_same s9), s9 _ _ hz8, ?_⟩
          rw [List.length_append]
          show ts7.length + 1 ≤ 40 + (i + 1)
          omega
      · obtain ⟨v7, v8, v9, lim0, ts7, rfl, hB7, ht7, hrs7, hz7, tl7⟩ := hp
        exact ⟨v7, v8, v9, lim0, ts7, rfl, hB7, ht7, hrs7⟩
    rintro σ' H6 ⟨v7, v8, v9, lim, ts6, rfl, hB6, ht6, hrs6⟩
    obtain ⟨dx, fk, st, fc, u, as1, bs, h1, _⟩ := id hB6
    have fok : ∀ r ∈ rs.map row3, ∀ x ∈ r, Fx.FD.ok x := fun r hr x hx => by
      obtain ⟨r3, hr3, rfl⟩ := List.mem_map.mp hr
      obtain ⟨ga, gb, gab, gn⟩ := rg r3 hr3
      have hx : x = .s r3.1 ∨ x = .s r3.2.1 ∨ x = .i r3.2.2 := by simpa [row3, strikeRow] using hx
      rcases hx with rfl | rfl | rfl
      · exact (zlow _ ga).tok.ok
      · exact (zlow _ gb).tok.ok
      · trivial
    walk_at "rd"
    refine ⟨p, dx, _, rfl, h1, rfl, ?_⟩
    refine ⟨p, d, _, _, _, _, _, rfl, hB6, fun q2 cs nq hcs => ?_⟩
    have sE := Same.new (o := .lst (cs.map V.ref)) (Same.refl H6) nq
    have htE := sE _ _ ht6
    walk_at "rd"
    refine Fx.eq_rows (SqL.of upd_same) (SqL.of htE) ((hcs.keep fun a o e => sE _ _ e).at) ((hrs6.keep fun a o e => sE _ _ e).at) fok fok ?_
    rw [show decide (rs.map row3 = rs.map row3) = true by simp]
    exact k _
end
end Fk

namespace PySem
namespace OwnX
open PySem.W PySem.HandSPX
/-- the facts of one class of errors, in one test -/
def clsB (K : Frag) (C fI : Addr) (fs : List Str) : Bool :=
  decide (ks_superIn K C C "__init__" = some (some (.builtin "ValueError.__init__"))) && (decide (mroIn K C (.ref C) = some true) && (decide (subIn K (.ref C) (.type "ValueError") = some true) && (decide (nsIn K cStatics "thirdparty.any" = some none) && (keepIn K (.ref C) &&
  (decide (subIn K (.ref C) (.type "BaseException") = some true) && (decide (typeIn K (.ref C) = some (.type "type")) && (decide (findIn K (.ref C) "__init__" = some (some (.ref fI))) && (decide (typeIn K (.ref fI) = some (.type "function")) &&
  (decide (findIn K (.ref C) "__setattr__" = some (some (.builtin "object.__setattr__"))) && (fs.all (fun f => decide (findIn K (.ref C) f = some none)) && (L2.xfB K C && (decide (findIn K (.ref C) "__class__" = some (some (.builtin "object.__class__"))) &&
  (decide (specialIn K (.builtin "object.__class__") "__get__" = some (some (.builtin "getset_descriptor.__get__"))) && (decide (takesIn K (.builtin "object.__class__") = some true) && decide (mroIn K C (.type "object") = some true)))))))))))))))
theorem err_of {P : Program} {K : Frag} {mg : Str → Option Value} {h : Heap} {x : Str} {C fI : Addr} {fs : List Str} {qual : Str} {st : Stmt} (X : K.In h) (G : h.Ns mainGlobals mg)
    {nm q : Str} {N : Addr} {bs bm : List Value} {sn : List Str} {sub : List Value} {ab : Bool} {col : Option Bool} {dd : Option Addr} {k0 k1 k2 k3 k5 : Option Value}
    {oc : Value} {od : Option Addr} {doc pm : Value} {an : Option Addr} {cda : Addr} {ct : Value} {cc : Addr} {osl : Array (Option Value)} {kV : Value}
    {ccl : Value} {cdd : Option Addr} {vs : Array Value} {ccs : Array (Option Value)} {file : Str} {tf : Tok} {cl : Value} {cld : Option Addr} {csl : Array (Option Value)}
    (aC : nsIn K mainGlobals x = some (some (.ref C))) (iC : findIn K (.ref C) "__init__" = some (some (.ref fI))) (lC : K.lookup C = some (excClassObj nm q C N bs bm true sn sub ab col dd k0 k1 k2 k3 k5 "ValueError.__new__")) (rV : refsVE bm = true)
    (lF : K.lookup fI = some ⟨oc, od, .func (ksFn "__init__" qual (L2.defArgs st) (L2.defBody st) (L2.defScope st) .none kV doc pm an (.ref cda) ct cc), osl⟩) (cF : codeIn K (.ref cda) qual = true)
    (lD : K.lookup cda = some ⟨ccl, cdd, .fields vs, ccs⟩) (vD : vs[2]? = some (.str file tf)) (fD : ((P.main.file : Str) == file) = true) (lL : K.lookup cc = some ⟨cl, cld, .cell (some (.ref C)), csl⟩)
    (B : clsB K C fI fs = true) (su : mg "super" = none) (tp : (P.main.scope.names.lookup ("super" : Str)).isSome = false) :
    L2.ErrA P K mg x C fI fs ∧ ErrF P K C fI qual (L2.defArgs st) (L2.defBody st) (L2.defScope st) := by
  unfold clsB at B
  simp only [Bool.and_eq_true, decide_eq_true_eq] at B
  obtain ⟨b1, b2, b3, b4, b5, b6, b7, b8, b9, b10, b11, b12, b13, b14, b15, b16⟩ := B
  have xf := L2.xfB_ok b12
  refine ⟨⟨⟨PySem.W.mg_of X G aC, ⟨⟨nm, q, N, bs, bm, sn, sub, ab, col, dd, k0, k1, k2, k3, k5, lC, rV⟩, b1, b2, b3, b4, tp⟩, b5, b6, b7, b8, b9, su⟩, ⟨b10, fun f hf => ?_⟩, xf, ⟨xf.ga, xf.gg, b6, xf.hdC, b13, b14, b15, b16⟩⟩,
    ⟨b8, b9, oc, od, doc, pm, an, cda, ct, cc, osl, kV, lF, cF, ⟨ccl, cdd, vs, ccs, file, tf, lD, vD, fD⟩, cl, cld, csl, lL⟩⟩
  exact of_decide_eq_true (List.all_eq_true.mp b11 f hf)
/-- the facts of a class of objects, in one test -/
def ownB (K : Frag) (C fI : Addr) (fs : List Str) : Bool :=
  plainGet K C Str.empty && (hasDictIn K C && (plainOver K C && (decide (findIn K (.ref C) "__setattr__" = some (some (.builtin "object.__setattr__"))) && (makesIn K C && (decide (findIn K (.ref C) "__init__" = some (some (.ref fI))) && (isFn K (.ref fI) && (keepIn K (.ref C) &&
  (decide (findIn K (.ref C) "__class__" = some (some (.builtin "object.__class__"))) && (decide (specialIn K (.builtin "object.__class__") "__get__" = some (some (.builtin "getset_descriptor.__get__"))) && (decide (takesIn K (.builtin "object.__class__") = some true) &&
  (decide (mroIn K C (.type "object") = some true) && (decide (kitOne K (.ref C) (.ref C) = some true) && fs.all (fun f => decide (findIn K (.ref C) f = some none))))))))))))))
structure OwnC (K : Frag) (C fI : Addr) (fs : List Str) : Prop where
  cls : L2.Cls K C
  made : L2.Mk K C fI
  no : ∀ f ∈ fs, L2.NoAttr K C f
  ty : ∀ {H : L2.Hp} {a dx : Addr} {fs : List (Str × L2.V)}, H a = some (.ins C dx fs) → L2.TyX K H (.ref a) (.ref C)
  kit : kitOne K (.ref C) (.ref C) = some true
theorem own_of {K : Frag} {C fI : Addr} {fs : List Str} (h : ownB K C fI fs = true) : OwnC K C fI fs := by
  unfold ownB at h
  simp only [Bool.and_eq_true, decide_eq_true_eq] at h
  obtain ⟨h1, h2, h3, h4, h5, h6, h7, h8, h9, h10, h11, h12, h13, h14⟩ := h
  have c : L2.Cls K C := ⟨h1, h2, h3, h4⟩
  exact ⟨c, ⟨h5, h6, h7, h8⟩, fun f hf => by have q := of_decide_eq_true (List.all_eq_true.mp h14 f hf); exact q, fun e => .base (.ins e c h9 h10 h11 h12), h13⟩
end OwnX
end PySem

namespace Fk
open PySem L2 PySem.OwnX
abbrev i_BadName : Stmt := inClass (top 3) 0
theorem sh_BadName : Sh1 i_BadName "name" (114) "BadName.__init__" := ⟨_, _, _, _, _, _, _, _, _, _, _, _, _, _, _, _, _, rfl, rfl, rfl, ⟨rfl, by decide +kernel⟩, ⟨fun _ _ _ _ _ _ _ _ _ => rfl⟩⟩
abbrev i_UnknownFork : Stmt := inClass (top 4) 0
theorem sh_UnknownFork : Sh1 i_UnknownFork "name" (114) "UnknownFork.__init__" := ⟨_, _, _, _, _, _, _, _, _, _, _, _, _, _, _, _, _, rfl, rfl, rfl, ⟨rfl, by decide +kernel⟩, ⟨fun _ _ _ _ _ _ _ _ _ => rfl⟩⟩
abbrev i_RepeatedFork : Stmt := inClass (top 5) 0
theorem sh_RepeatedFork : Sh1 i_RepeatedFork "name" (114) "RepeatedFork.__init__" := ⟨_, _, _, _, _, _, _, _, _, _, _, _, _, _, _, _, _, rfl, rfl, rfl, ⟨rfl, by decide +kernel⟩, ⟨fun _ _ _ _ _ _ _ _ _ => rfl⟩⟩
abbrev i_BadCount : Stmt := inClass (top 6) 0
theorem sh_BadCount : Sh1 i_BadCount "count" (-1) "BadCount.__init__" := ⟨_, _, _, _, _, _, _, _, _, _, _, _, _, _, _, _, _, rfl, rfl, rfl, ⟨rfl, by decide +kernel⟩, ⟨fun _ _ _ _ _ _ _ _ _ => rfl⟩⟩
abbrev i_BadLimit : Stmt := inClass (top 7) 0
theorem sh_BadLimit : Sh1 i_BadLimit "value" (-1) "BadLimit.__init__" := ⟨_, _, _, _, _, _, _, _, _, _, _, _, _, _, _, _, _, rfl, rfl, rfl, ⟨rfl, by decide +kernel⟩, ⟨fun _ _ _ _ _ _ _ _ _ => rfl⟩⟩
abbrev i_BadWord : Stmt := inClass (top 8) 0
theorem sh_BadWord : Sh1 i_BadWord "word" (114) "BadWord.__init__" := ⟨_, _, _, _, _, _, _, _, _, _, _, _, _, _, _, _, _, rfl, rfl, rfl, ⟨rfl, by decide +kernel⟩, ⟨fun _ _ _ _ _ _ _ _ _ => rfl⟩⟩
abbrev i_NoStrike : Stmt := inClass (top 12) 0
theorem sh_NoStrike : Sh1 i_NoStrike "index" (-1) "NoStrike.__init__" := ⟨_, _, _, _, _, _, _, _, _, _, _, _, _, _, _, _, _, rfl, rfl, rfl, ⟨rfl, by decide +kernel⟩, ⟨fun _ _ _ _ _ _ _ _ _ => rfl⟩⟩
def rOk (o : Option (Option Value)) : Bool := match o with | some none => true | some (some (.ref _)) => true | _ => false
theorem rOk_of {o : Option (Option Value)} (h : rOk o = true) : ∃ rc, o = some rc ∧ (rc = none ∨ ∃ g : Addr, rc = some (.ref g)) := by
  unfold rOk at h
  split at h
  · exact ⟨_, rfl, .inl rfl⟩
  · exact ⟨_, rfl, .inr ⟨_, rfl⟩⟩
  · cases h
theorem all_mk {l : PySem.W.OpenLaw} {w : World} {K : PySem.W.Frag} {h : Heap} {mg : Str → Option Value} {fa C CF CB CU CR CK CL CW CN fI eCB eCU eCR eCK eCL eCW eCN : Addr} (X : K.In h) (G : h.Ns mainGlobals mg) (hfa : mg "law" = some (.ref fa))
    (hCB : ErrA l.prog K mg "BadName" CB eCB ["name"] ∧ ErrF l.prog K CB eCB "BadName.__init__" (defArgs i_BadName) (defBody i_BadName) (defScope i_BadName))
    (hCU : ErrA l.prog K mg "UnknownFork" CU eCU ["name"] ∧ ErrF l.prog K CU eCU "UnknownFork.__init__" (defArgs i_UnknownFork) (defBody i_UnknownFork) (defScope i_UnknownFork))
    (hCR : ErrA l.prog K mg "RepeatedFork" CR eCR ["name"] ∧ ErrF l.prog K CR eCR "RepeatedFork.__init__" (defArgs i_RepeatedFork) (defBody i_RepeatedFork) (defScope i_RepeatedFork))
    (hCK : ErrA l.prog K mg "BadCount" CK eCK ["count"] ∧ ErrF l.prog K CK eCK "BadCount.__init__" (defArgs i_BadCount) (defBody i_BadCount) (defScope i_BadCount))
    (hCL : ErrA l.prog K mg "BadLimit" CL eCL ["value"] ∧ ErrF l.prog K CL eCL "BadLimit.__init__" (defArgs i_BadLimit) (defBody i_BadLimit) (defScope i_BadLimit))
    (hCW : ErrA l.prog K mg "BadWord" CW eCW ["word"] ∧ ErrF l.prog K CW eCW "BadWord.__init__" (defArgs i_BadWord) (defBody i_BadWord) (defScope i_BadWord))
    (hCN : ErrA l.prog K mg "NoStrike" CN eCN ["index"] ∧ ErrF l.prog K CN eCN "NoStrike.__init__" (defArgs i_NoStrike) (defBody i_NoStrike) (defScope i_NoStrike))
    (gF : PySem.W.nsIn K mainGlobals "ForkError" = some (some (.ref CF))) (gC : PySem.W.nsIn K mainGlobals "Bench" = some (some (.ref C)))
    {tcMOST_LIMIT : Tok} (ccMOST_LIMIT : PySem.W.findCls K (.ref C) (.type "type") "MOST_LIMIT" = some (.val (.int 3 tcMOST_LIMIT)))
    {tcMOST_FORKS : Tok} (ccMOST_FORKS : PySem.W.findCls K (.ref C) (.type "type") "MOST_FORKS" = some (.val (.int 10 tcMOST_FORKS)))
    {tcMOST_STRIKES : Tok} (ccMOST_STRIKES : PySem.W.findCls K (.ref C) (.type "type") "MOST_STRIKES" = some (.val (.int 20 tcMOST_STRIKES)))
    {CFa : Addr} (gCFa : PySem.W.nsIn K mainGlobals "Fact" = some (some (.ref CFa)))
    {tCFaMOST_COUNT : Tok} (cCFaMOST_COUNT : PySem.W.findCls K (.ref CFa) (.type "type") "MOST_COUNT" = some (.val (.int 1000000000 tCFaMOST_COUNT)))
    (O : OwnC K C fI ["_forks", "_strikes", "_facts", "_limit", "_done", "_undone"]) (kx : (decide (PySem.W.exmOne K (.ref CN) (.ref CN) = some true) && (decide (PySem.W.readsIn K C (.type "type") = true) && (decide (He.eqO (PySem.W.specialIn K (.ref C) "__getattribute__") (some (some (.builtin "type.__getattribute__"))) = true) && (decide (PySem.W.readsIn K CFa (.type "type") = true) && (decide (He.eqO (PySem.W.specialIn K (.ref CFa) "__getattribute__") (some (some (.builtin "type.__getattribute__"))) = true)))))) = true)
    {a0 : Addr} {oc0 kV0 dc0 pm0 cd0 ct0 : Value} {od0 an0 : Option Addr} {sl0 : Array (Option Value)} (g0 : PySem.W.nsIn K mainGlobals "is_name" = some (some (.ref a0))) (l0 : K.lookup a0 = some ⟨oc0, od0, .func (PySem.W.fnOf "is_name" "is_name" (defArgs s_is_name) (defBody s_is_name) (defScope s_is_name) .none kV0 dc0 pm0 an0 cd0 ct0), sl0⟩) (c0 : PySem.W.codeIn K cd0 "is_name" = true) (k0 : PySem.W.keepIn K (.ref a0) = true)
    {a1 : Addr} {oc1 kV1 dc1 pm1 cd1 ct1 : Value} {od1 an1 : Option Addr} {sl1 : Array (Option Value)} (g1 : PySem.W.nsIn K mainGlobals "check_name" = some (some (.ref a1))) (l1 : K.lookup a1 = some ⟨oc1, od1, .func (PySem.W.fnOf "check_name" "check_name" (defArgs s_check_name) (defBody s_check_name) (defScope s_check_name) .none kV1 dc1 pm1 an1 cd1 ct1), sl1⟩) (c1 : PySem.W.codeIn K cd1 "check_name" = true) (k1 : PySem.W.keepIn K (.ref a1) = true)
    {a2 : Addr} {oc2 kV2 dc2 pm2 cd2 ct2 : Value} {od2 an2 : Option Addr} {sl2 : Array (Option Value)} (g2 : PySem.W.nsIn K mainGlobals "check_count" = some (some (.ref a2))) (l2 : K.lookup a2 = some ⟨oc2, od2, .func (PySem.W.fnOf "check_count" "check_count" (defArgs s_check_count) (defBody s_check_count) (defScope s_check_count) .none kV2 dc2 pm2 an2 cd2 ct2), sl2⟩) (c2 : PySem.W.codeIn K cd2 "check_count" = true) (k2 : PySem.W.keepIn K (.ref a2) = true)
    {a3 : Addr} {oc3 kV3 dc3 pm3 cd3 ct3 : Value} {od3 an3 : Option Addr} {sl3 : Array (Option Value)} (g3 : PySem.W.nsIn K mainGlobals "check_room" = some (some (.ref a3))) (l3 : K.lookup a3 = some ⟨oc3, od3, .func (PySem.W.fnOf "check_room" "check_room" (defArgs s_check_room) (defBody s_check_room) (defScope s_check_room) .none kV3 dc3 pm3 an3 cd3 ct3), sl3⟩) (c3 : PySem.W.codeIn K cd3 "check_room" = true) (k3 : PySem.W.keepIn K (.ref a3) = true)
    {a4 : Addr} {oc4 kV4 dc4 pm4 cd4 ct4 : Value} {od4 an4 : Option Addr} {sl4 : Array (Option Value)} (g4 : PySem.W.nsIn K mainGlobals "spaced" = some (some (.ref a4))) (l4 : K.lookup a4 = some ⟨oc4, od4, .func (PySem.W.fnOf "spaced" "spaced" (defArgs s_spaced) (defBody s_spaced) (defScope s_spaced) .none kV4 dc4 pm4 an4 cd4 ct4), sl4⟩) (c4 : PySem.W.codeIn K cd4 "spaced" = true) (k4 : PySem.W.keepIn K (.ref a4) = true)
    {a5 : Addr} {oc5 kV5 dc5 pm5 cd5 ct5 : Value} {od5 an5 : Option Addr} {sl5 : Array (Option Value)} (g5 : PySem.W.nsIn K mainGlobals "check_new" = some (some (.ref a5))) (l5 : K.lookup a5 = some ⟨oc5, od5, .func (PySem.W.fnOf "check_new" "check_new" (defArgs s_check_new) (defBody s_check_new) (defScope s_check_new) .none kV5 dc5 pm5 an5 cd5 ct5), sl5⟩) (c5 : PySem.W.codeIn K cd5 "check_new" = true) (k5 : PySem.W.keepIn K (.ref a5) = true)
    {a6 : Addr} {oc6 kV6 dc6 pm6 cd6 ct6 : Value} {od6 an6 : Option Addr} {sl6 : Array (Option Value)} (g6 : PySem.W.nsIn K mainGlobals "check_known" = some (some (.ref a6))) (l6 : K.lookup a6 = some ⟨oc6, od6, .func (PySem.W.fnOf "check_known" "check_known" (defArgs s_check_known) (defBody s_check_known) (defScope s_check_known) .none kV6 dc6 pm6 an6 cd6 ct6), sl6⟩) (c6 : PySem.W.codeIn K cd6 "check_known" = true) (k6 : PySem.W.keepIn K (.ref a6) = true)
    {a7 : Addr} {oc7 kV7 dc7 pm7 cd7 ct7 : Value} {od7 an7 : Option Addr} {sl7 : Array (Option Value)} (g7 : PySem.W.nsIn K mainGlobals "check_strike" = some (some (.ref a7))) (l7 : K.lookup a7 = some ⟨oc7, od7, .func (PySem.W.fnOf "check_strike" "check_strike" (defArgs s_check_strike) (defBody s_check_strike) (defScope s_check_strike) .none kV7 dc7 pm7 an7 cd7 ct7), sl7⟩) (c7 : PySem.W.codeIn K cd7 "check_strike" = true) (k7 : PySem.W.keepIn K (.ref a7) = true)
    {a8 : Addr} {oc8 kV8 dc8 pm8 cd8 ct8 : Value} {od8 an8 : Option Addr} {sl8 : Array (Option Value)} (g8 : PySem.W.nsIn K mainGlobals "check_limit" = some (some (.ref a8))) (l8 : K.lookup a8 = some ⟨oc8, od8, .func (PySem.W.fnOf "check_limit" "check_limit" (defArgs s_check_limit) (defBody s_check_limit) (defScope s_check_limit) .none kV8 dc8 pm8 an8 cd8 ct8), sl8⟩) (c8 : PySem.W.codeIn K cd8 "check_limit" = true) (k8 : PySem.W.keepIn K (.ref a8) = true)
    {a9 : Addr} {oc9 kV9 dc9 pm9 cd9 ct9 : Value} {od9 an9 : Option Addr} {sl9 : Array (Option Value)} (g9 : PySem.W.nsIn K mainGlobals "allowed_rises" = some (some (.ref a9))) (l9 : K.lookup a9 = some ⟨oc9, od9, .func (PySem.W.fnOf "allowed_rises" "allowed_rises" (defArgs s_allowed_rises) (defBody s_allowed_rises) (defScope s_allowed_rises) .none kV9 dc9 pm9 an9 cd9 ct9), sl9⟩) (c9 : PySem.W.codeIn K cd9 "allowed_rises" = true) (k9 : PySem.W.keepIn K (.ref a9) = true)
    {a10 : Addr} {oc10 kV10 dc10 pm10 cd10 ct10 : Value} {od10 an10 : Option Addr} {sl10 : Array (Option Value)} (g10 : PySem.W.nsIn K mainGlobals "rises" = some (some (.ref a10))) (l10 : K.lookup a10 = some ⟨oc10, od10, .func (PySem.W.fnOf "rises" "rises" (defArgs s_rises) (defBody s_rises) (defScope s_rises) .none kV10 dc10 pm10 an10 cd10 ct10), sl10⟩) (c10 : PySem.W.codeIn K cd10 "rises" = true) (k10 : PySem.W.keepIn K (.ref a10) = true)
    {a11 : Addr} {oc11 kV11 dc11 pm11 cd11 ct11 : Value} {od11 an11 : Option Addr} {sl11 : Array (Option Value)} (g11 : PySem.W.nsIn K mainGlobals "_law_bag" = some (some (.ref a11))) (l11 : K.lookup a11 = some ⟨oc11, od11, .func (PySem.W.fnOf "_law_bag" "_law_bag" (defArgs s__law_bag) (defBody s__law_bag) (defScope s__law_bag) .none kV11 dc11 pm11 an11 cd11 ct11), sl11⟩) (c11 : PySem.W.codeIn K cd11 "_law_bag" = true) (k11 : PySem.W.keepIn K (.ref a11) = true)
    {a12 : Addr} {oc12 kV12 dc12 pm12 cd12 ct12 : Value} {od12 an12 : Option Addr} {sl12 : Array (Option Value)} (g12 : PySem.W.nsIn K mainGlobals "_law_mixed" = some (some (.ref a12))) (l12 : K.lookup a12 = some ⟨oc12, od12, .func (PySem.W.fnOf "_law_mixed" "_law_mixed" (defArgs s__law_mixed) (defBody s__law_mixed) (defScope s__law_mixed) .none kV12 dc12 pm12 an12 cd12 ct12), sl12⟩) (c12 : PySem.W.codeIn K cd12 "_law_mixed" = true) (k12 : PySem.W.keepIn K (.ref a12) = true)
    {a13 : Addr} {oc13 kV13 dc13 pm13 cd13 ct13 : Value} {od13 an13 : Option Addr} {sl13 : Array (Option Value)} (g13 : PySem.W.nsIn K mainGlobals "_law_take" = some (some (.ref a13))) (l13 : K.lookup a13 = some ⟨oc13, od13, .func (PySem.W.fnOf "_law_take" "_law_take" (defArgs s__law_take) (defBody s__law_take) (defScope s__law_take) .none kV13 dc13 pm13 an13 cd13 ct13), sl13⟩) (c13 : PySem.W.codeIn K cd13 "_law_take" = true) (k13 : PySem.W.keepIn K (.ref a13) = true)
    {a14 : Addr} {oc14 kV14 dc14 pm14 cd14 ct14 : Value} {od14 an14 : Option Addr} {sl14 : Array (Option Value)} (g14 : PySem.W.nsIn K mainGlobals "_law_name" = some (some (.ref a14))) (l14 : K.lookup a14 = some ⟨oc14, od14, .func (PySem.W.fnOf "_law_name" "_law_name" (defArgs s__law_name) (defBody s__law_name) (defScope s__law_name) .none kV14 dc14 pm14 an14 cd14 ct14), sl14⟩) (c14 : PySem.W.codeIn K cd14 "_law_name" = true) (k14 : PySem.W.keepIn K (.ref a14) = true)
    {a15 : Addr} {oc15 kV15 dc15 pm15 cd15 ct15 : Value} {od15 an15 : Option Addr} {sl15 : Array (Option Value)} (g15 : PySem.W.nsIn K mainGlobals "_law_names" = some (some (.ref a15))) (l15 : K.lookup a15 = some ⟨oc15, od15, .func (PySem.W.fnOf "_law_names" "_law_names" (defArgs s__law_names) (defBody s__law_names) (defScope s__law_names) .none kV15 dc15 pm15 an15 cd15 ct15), sl15⟩) (c15 : PySem.W.codeIn K cd15 "_law_names" = true) (k15 : PySem.W.keepIn K (.ref a15) = true)
    {a16 : Addr} {oc16 kV16 dc16 pm16 cd16 ct16 : Value} {od16 an16 : Option Addr} {sl16 : Array (Option Value)} (g16 : PySem.W.nsIn K mainGlobals "_law_is_int" = some (some (.ref a16))) (l16 : K.lookup a16 = some ⟨oc16, od16, .func (PySem.W.fnOf "_law_is_int" "_law_is_int" (defArgs s__law_is_int) (defBody s__law_is_int) (defScope s__law_is_int) .none kV16 dc16 pm16 an16 cd16 ct16), sl16⟩) (c16 : PySem.W.codeIn K cd16 "_law_is_int" = true) (k16 : PySem.W.keepIn K (.ref a16) = true)
    {a17 : Addr} {oc17 kV17 dc17 pm17 cd17 ct17 : Value} {od17 an17 : Option Addr} {sl17 : Array (Option Value)} (g17 : PySem.W.nsIn K mainGlobals "_law_ints" = some (some (.ref a17))) (l17 : K.lookup a17 = some ⟨oc17, od17, .func (PySem.W.fnOf "_law_ints" "_law_ints" (defArgs s__law_ints) (defBody s__law_ints) (defScope s__law_ints) .none kV17 dc17 pm17 an17 cd17 ct17), sl17⟩) (c17 : PySem.W.codeIn K cd17 "_law_ints" = true) (k17 : PySem.W.keepIn K (.ref a17) = true)
    {a18 : Addr} {oc18 kV18 dc18 pm18 cd18 ct18 : Value} {od18 an18 : Option Addr} {sl18 : Array (Option Value)} (g18 : PySem.W.nsIn K mainGlobals "_law_some" = some (some (.ref a18))) (l18 : K.lookup a18 = some ⟨oc18, od18, .func (PySem.W.fnOf "_law_some" "_law_some" (defArgs s__law_some) (defBody s__law_some) (defScope s__law_some) .none kV18 dc18 pm18 an18 cd18 ct18), sl18⟩) (c18 : PySem.W.codeIn K cd18 "_law_some" = true) (k18 : PySem.W.keepIn K (.ref a18) = true)
    {a19 : Addr} {oc19 kV19 dc19 pm19 cd19 ct19 : Value} {od19 an19 : Option Addr} {sl19 : Array (Option Value)} (g19 : PySem.W.nsIn K mainGlobals "_law_pairs" = some (some (.ref a19))) (l19 : K.lookup a19 = some ⟨oc19, od19, .func (PySem.W.fnOf "_law_pairs" "_law_pairs" (defArgs s__law_pairs) (defBody s__law_pairs) (defScope s__law_pairs) .none kV19 dc19 pm19 an19 cd19 ct19), sl19⟩) (c19 : PySem.W.codeIn K cd19 "_law_pairs" = true) (k19 : PySem.W.keepIn K (.ref a19) = true)
    {a20 : Addr} {oc20 kV20 dc20 pm20 cd20 ct20 : Value} {od20 an20 : Option Addr} {sl20 : Array (Option Value)} (g20 : PySem.W.nsIn K mainGlobals "_law_bench" = some (some (.ref a20))) (l20 : K.lookup a20 = some ⟨oc20, od20, .func (PySem.W.fnOf "_law_bench" "_law_bench" (defArgs s__law_bench) (defBody s__law_bench) (defScope s__law_bench) .none kV20 dc20 pm20 an20 cd20 ct20), sl20⟩) (c20 : PySem.W.codeIn K cd20 "_law_bench" = true) (k20 : PySem.W.keepIn K (.ref a20) = true)
    {a21 : Addr} {oc21 kV21 dc21 pm21 cd21 ct21 : Value} {od21 an21 : Option Addr} {sl21 : Array (Option Value)} (g21 : PySem.W.nsIn K mainGlobals "_law_rises" = some (some (.ref a21))) (l21 : K.lookup a21 = some ⟨oc21, od21, .func (PySem.W.fnOf "_law_rises" "_law_rises" (defArgs s__law_rises) (defBody s__law_rises) (defScope s__law_rises) .none kV21 dc21 pm21 an21 cd21 ct21), sl21⟩) (c21 : PySem.W.codeIn K cd21 "_law_rises" = true) (k21 : PySem.W.keepIn K (.ref a21) = true)
    {a22 : Addr} {oc22 kV22 dc22 pm22 cd22 ct22 : Value} {od22 an22 : Option Addr} {sl22 : Array (Option Value)} (g22 : PySem.W.nsIn K mainGlobals "_law_asked" = some (some (.ref a22))) (l22 : K.lookup a22 = some ⟨oc22, od22, .func (PySem.W.fnOf "_law_asked" "_law_asked" (defArgs s__law_asked) (defBody s__law_asked) (defScope s__law_asked) .none kV22 dc22 pm22 an22 cd22 ct22), sl22⟩) (c22 : PySem.W.codeIn K cd22 "_law_asked" = true) (k22 : PySem.W.keepIn K (.ref a22) = true)
    {a23 : Addr} {oc23 kV23 dc23 pm23 cd23 ct23 : Value} {od23 an23 : Option Addr} {sl23 : Array (Option Value)} (g23 : PySem.W.nsIn K mainGlobals "law" = some (some (.ref a23))) (l23 : K.lookup a23 = some ⟨oc23, od23, .func (PySem.W.fnOf "law" "law" (defArgs s_law) (defBody s_law) (defScope s_law) .none kV23 dc23 pm23 an23 cd23 ct23), sl23⟩) (c23 : PySem.W.codeIn K cd23 "law" = true) (k23 : PySem.W.keepIn K (.ref a23) = true)
    {aT : Addr} {ocT : Value} {odT : Option Addr} {tT : Tok} {nT : Nat} {slT : Array (Option Value)} {oc100 kV100 dc100 pm100 cd100 ct100 : Value} {od100 an100 : Option Addr} {sl100 : Array (Option Value)} (l100 : K.lookup fI = some ⟨oc100, od100, .func (PySem.W.fnOf "__init__" "Bench.__init__" (defArgs s_Bench___init__) (defBody s_Bench___init__) (defScope s_Bench___init__) (.ref aT) kV100 dc100 pm100 an100 cd100 ct100), sl100⟩) (c100 : PySem.W.codeIn K cd100 "Bench.__init__" = true) (k100 : PySem.W.keepIn K (.ref fI) = true) (lT : K.lookup aT = some ⟨ocT, odT, .seq #[Value.int 0 tT] nT, slT⟩)
    {a101 : Addr} {oc101 kV101 dc101 pm101 cd101 ct101 : Value} {od101 an101 : Option Addr} {sl101 : Array (Option Value)} {ap101 : Addr} {rp101 : List Value} (gp101 : PySem.W.findIn K (.ref C) "limit" = some (some (.ref ap101))) (gg101 : PySem.W.specialIn K (.ref ap101) "__get__" = some (some (.builtin "property.__get__"))) (gt101 : PySem.W.takesIn K (.ref ap101) = some true) (gr101 : PySem.W.recIn K ap101 "property" = some (.ref a101 :: rp101)) (l101 : K.lookup a101 = some ⟨oc101, od101, .func (PySem.W.fnOf "limit" "Bench.limit" (defArgs s_Bench_limit) (defBody s_Bench_limit) (defScope s_Bench_limit) .none kV101 dc101 pm101 an101 cd101 ct101), sl101⟩) (c101 : PySem.W.codeIn K cd101 "Bench.limit" = true) (k101 : PySem.W.keepIn K (.ref a101) = true)
    {a102 : Addr} {oc102 kV102 dc102 pm102 cd102 ct102 : Value} {od102 an102 : Option Addr} {sl102 : Array (Option Value)} (g102 : PySem.W.findIn K (.ref C) "_state" = some (some (.ref a102))) (i102 : PySem.W.isFn K (.ref a102) = true) (l102 : K.lookup a102 = some ⟨oc102, od102, .func (PySem.W.fnOf "_state" "Bench._state" (defArgs s_Bench__state) (defBody s_Bench__state) (defScope s_Bench__state) .none kV102 dc102 pm102 an102 cd102 ct102), sl102⟩) (c102 : PySem.W.codeIn K cd102 "Bench._state" = true) (k102 : PySem.W.keepIn K (.ref a102) = true)
    {a103 : Addr} {oc103 kV103 dc103 pm103 cd103 ct103 : Value} {od103 an103 : Option Addr} {sl103 : Array (Option Value)} (g103 : PySem.W.findIn K (.ref C) "_begin" = some (some (.ref a103))) (i103 : PySem.W.isFn K (.ref a103) = true) (l103 : K.lookup a103 = some ⟨oc103, od103, .func (PySem.W.fnOf "_begin" "Bench._begin" (defArgs s_Bench__begin) (defBody s_Bench__begin) (defScope s_Bench__begin) .none kV103 dc103 pm103 an103 cd103 ct103), sl103⟩) (c103 : PySem.W.codeIn K cd103 "Bench._begin" = true) (k103 : PySem.W.keepIn K (.ref a103) = true)
    {a104 : Addr} {oc104 kV104 dc104 pm104 cd104 ct104 : Value} {od104 an104 : Option Addr} {sl104 : Array (Option Value)} (g104 : PySem.W.findIn K (.ref C) "change" = some (some (.ref a104))) (i104 : PySem.W.isFn K (.ref a104) = true) (l104 : K.lookup a104 = some ⟨oc104, od104, .func (PySem.W.fnOf "change" "Bench.change" (defArgs s_Bench_change) (defBody s_Bench_change) (defScope s_Bench_change) .none kV104 dc104 pm104 an104 cd104 ct104), sl104⟩) (c104 : PySem.W.codeIn K cd104 "Bench.change" = true) (k104 : PySem.W.keepIn K (.ref a104) = true)
    {a105 : Addr} {oc105 kV105 dc105 pm105 cd105 ct105 : Value} {od105 an105 : Option Addr} {sl105 : Array (Option Value)} (g105 : PySem.W.findIn K (.ref C) "forks" = some (some (.ref a105))) (i105 : PySem.W.isFn K (.ref a105) = true) (l105 : K.lookup a105 = some ⟨oc105, od105, .func (PySem.W.fnOf "forks" "Bench.forks" (defArgs s_Bench_forks) (defBody s_Bench_forks) (defScope s_Bench_forks) .none kV105 dc105 pm105 an105 cd105 ct105), sl105⟩) (c105 : PySem.W.codeIn K cd105 "Bench.forks" = true) (k105 : PySem.W.keepIn K (.ref a105) = true)
    {a106 : Addr} {oc106 kV106 dc106 pm106 cd106 ct106 : Value} {od106 an106 : Option Addr} {sl106 : Array (Option Value)} (g106 : PySem.W.findIn K (.ref C) "strikes" = some (some (.ref a106))) (i106 : PySem.W.isFn K (.ref a106) = true) (l106 : K.lookup a106 = some ⟨oc106, od106, .func (PySem.W.fnOf "strikes" "Bench.strikes" (defArgs s_Bench_strikes) (defBody s_Bench_strikes) (defScope s_Bench_strikes) .none kV106 dc106 pm106 an106 cd106 ct106), sl106⟩) (c106 : PySem.W.codeIn K cd106 "Bench.strikes" = true) (k106 : PySem.W.keepIn K (.ref a106) = true)
    {a107 : Addr} {oc107 kV107 dc107 pm107 cd107 ct107 : Value} {od107 an107 : Option Addr} {sl107 : Array (Option Value)} (g107 : PySem.W.findIn K (.ref C) "strike" = some (some (.ref a107))) (i107 : PySem.W.isFn K (.ref a107) = true) (l107 : K.lookup a107 = some ⟨oc107, od107, .func (PySem.W.fnOf "strike" "Bench.strike" (defArgs s_Bench_strike) (defBody s_Bench_strike) (defScope s_Bench_strike) .none kV107 dc107 pm107 an107 cd107 ct107), sl107⟩) (c107 : PySem.W.codeIn K cd107 "Bench.strike" = true) (k107 : PySem.W.keepIn K (.ref a107) = true)
    {a108 : Addr} {oc108 kV108 dc108 pm108 cd108 ct108 : Value} {od108 an108 : Option Addr} {sl108 : Array (Option Value)} (g108 : PySem.W.findIn K (.ref C) "add_all" = some (some (.ref a108))) (i108 : PySem.W.isFn K (.ref a108) = true) (l108 : K.lookup a108 = some ⟨oc108, od108, .func (PySem.W.fnOf "add_all" "Bench.add_all" (defArgs s_Bench_add_all) (defBody s_Bench_add_all) (defScope s_Bench_add_all) .none kV108 dc108 pm108 an108 cd108 ct108), sl108⟩) (c108 : PySem.W.codeIn K cd108 "Bench.add_all" = true) (k108 : PySem.W.keepIn K (.ref a108) = true)
    {a109 : Addr} {oc109 kV109 dc109 pm109 cd109 ct109 : Value} {od109 an109 : Option Addr} {sl109 : Array (Option Value)} (g109 : PySem.W.findIn K (.ref C) "add" = some (some (.ref a109))) (i109 : PySem.W.isFn K (.ref a109) = true) (l109 : K.lookup a109 = some ⟨oc109, od109, .func (PySem.W.fnOf "add" "Bench.add" (defArgs s_Bench_add) (defBody s_Bench_add) (defScope s_Bench_add) .none kV109 dc109 pm109 an109 cd109 ct109), sl109⟩) (c109 : PySem.W.codeIn K cd109 "Bench.add" = true) (k109 : PySem.W.keepIn K (.ref a109) = true)
    {u0 : Tok} (gc0 : PySem.W.nsIn K mainGlobals "MOST_LETTERS" = some (some (.int 12 u0)))
    (y0 : PySem.W.nsIn K mainGlobals "len" = some none) (y1 : PySem.W.nsIn K mainGlobals "abs" = some none) (y2 : PySem.W.nsIn K mainGlobals "max" = some none) (y3 : PySem.W.nsIn K mainGlobals "int" = some none) (y4 : PySem.W.nsIn K mainGlobals "range" = some none) (y5 : PySem.W.nsIn K mainGlobals "isinstance" = some none) (y6 : PySem.W.nsIn K mainGlobals "bool" = some none) (y7 : PySem.W.nsIn K mainGlobals "tuple" = some none) (y8 : PySem.W.nsIn K mainGlobals "list" = some none) (y9 : PySem.W.nsIn K mainGlobals "str" = some none) (y10 : PySem.W.nsIn K mainGlobals "all" = some none) (y11 : PySem.W.nsIn K mainGlobals "min" = some none) (y12 : PySem.W.nsIn K mainGlobals "set" = some none) (y13 : PySem.W.nsIn K mainGlobals "sorted" = some none) :
    ∃ fd : FuncData, (∀ (s : Shared) (v : Value), BindsTo s fd ⟨[v], []⟩ [("_law_script", v)]) ∧ ∀ base : Heap, K.In base → base.Ns mainGlobals mg → FnOk l.prog w K mg base CX0 11 fa fd ["_law_script"] (spLaw K) := by
  have e := hfa.symm.trans (PySem.W.mg_of X G g23)
  cases e
  have z_len := PySem.W.mg_none_of X G y0
  have z_abs := PySem.W.mg_none_of X G y1
  have z_max := PySem.W.mg_none_of X G y2
  have z_int := PySem.W.mg_none_of X G y3
  have z_range := PySem.W.mg_none_of X G y4
  have z_isinstance := PySem.W.mg_none_of X G y5
  have z_bool := PySem.W.mg_none_of X G y6
  have z_tuple := PySem.W.mg_none_of X G y7
  have z_list := PySem.W.mg_none_of X G y8
  have z_str := PySem.W.mg_none_of X G y9
  have z_all := PySem.W.mg_none_of X G y10
  have z_min := PySem.W.mg_none_of X G y11
  have z_set := PySem.W.mg_none_of X G y12
  have z_sorted := PySem.W.mg_none_of X G y13
  have nm : NmOk "name" := ⟨by decide +kernel, by decide +kernel, by decide +kernel, by decide +kernel, by decide +kernel⟩
  have nmcount : NmOk "count" := ⟨by decide +kernel, by decide +kernel, by decide +kernel, by decide +kernel, by decide +kernel⟩
  have nmindex : NmOk "index" := ⟨by decide +kernel, by decide +kernel, by decide +kernel, by decide +kernel, by decide +kernel⟩
  have nmvalue : NmOk "value" := ⟨by decide +kernel, by decide +kernel, by decide +kernel, by decide +kernel, by decide +kernel⟩
  have nmword : NmOk "word" := ⟨by decide +kernel, by decide +kernel, by decide +kernel, by decide +kernel, by decide +kernel⟩
  have ECB : Err1 l.prog K mg "BadName" CB "name" (114) := ⟨⟨_, _, i_BadName, hCB.1, hCB.2, sh_BadName⟩, nm⟩
  have ECU : Err1 l.prog K mg "UnknownFork" CU "name" (114) := ⟨⟨_, _, i_UnknownFork, hCU.1, hCU.2, sh_UnknownFork⟩, nm⟩
  have ECR : Err1 l.prog K mg "RepeatedFork" CR "name" (114) := ⟨⟨_, _, i_RepeatedFork, hCR.1, hCR.2, sh_RepeatedFork⟩, nm⟩
  have ECK : Err1 l.prog K mg "BadCount" CK "count" (-1) := ⟨⟨_, _, i_BadCount, hCK.1, hCK.2, sh_BadCount⟩, nmcount⟩
  have ECL : Err1 l.prog K mg "BadLimit" CL "value" (-1) := ⟨⟨_, _, i_BadLimit, hCL.1, hCL.2, sh_BadLimit⟩, nmvalue⟩
  have ECW : Err1 l.prog K mg "BadWord" CW "word" (114) := ⟨⟨_, _, i_BadWord, hCW.1, hCW.2, sh_BadWord⟩, nmword⟩
  have ECN : Err1 l.prog K mg "NoStrike" CN "index" (-1) := ⟨⟨_, _, i_NoStrike, hCN.1, hCN.2, sh_NoStrike⟩, nmindex⟩
  have gT := PySem.W.mg_of X G gC
  have gF0 := PySem.W.mg_of X G gF
  simp only [Bool.and_eq_true, decide_eq_true_eq] at kx
  obtain ⟨nn, kr1, kr2, kf1, kf2⟩ := kx
  have B : Bn mg := ⟨z_len, z_abs, z_max, z_int, z_range⟩
  have M : Bm mg := ⟨z_range, z_len, z_isinstance, z_int, z_bool, z_tuple, z_list, z_str, z_all⟩
  have gFa := PySem.W.mg_of X G gCFa
  have Tk : Tk l.prog K mg C CL CW := ⟨O.cls, O.no _ (by simp), O.no _ (by simp), O.no _ (by simp), O.no _ (by simp), O.no _ (by simp), O.no _ (by simp), gT, ECL, ECW, ⟨kr1, He.eqO_ok kr2⟩, ⟨_, ccMOST_LIMIT, ⟨_, rfl⟩⟩⟩
  have gL := PySem.W.mg_of X G gc0
  have Tn : Twd l.prog K mg CB u0 := ⟨z_len, gL, ECB⟩
  have Ts : Ts l.prog K mg C CFa CB CR CU CK := ⟨gT, gFa, ECB, ECR, ECU, ECK, ⟨kr1, He.eqO_ok kr2⟩, ⟨kf1, He.eqO_ok kf2⟩, ⟨_, ccMOST_FORKS, ⟨_, rfl⟩⟩, ⟨_, ccMOST_STRIKES, ⟨_, rfl⟩⟩, ⟨_, cCFaMOST_COUNT, ⟨_, rfl⟩⟩, z_len, z_tuple, z_list, O.cls, O.no _ (by simp), O.no _ (by simp)⟩
  have Bt : Bt mg := ⟨z_min, z_len, z_list, z_range, z_tuple⟩
  have Tc : Tcl K C := ⟨O.cls⟩
  have Tr : Tr mg := ⟨z_set, z_sorted⟩
  have Tf : Tf mg := ⟨z_set, z_sorted⟩
  have Tn3 : Tn3 l.prog K mg C CN := ⟨O.cls, z_len, ECN⟩
  have Ta : Ta l.prog K mg CN := ⟨ECN, nn⟩
  have Tl : Tl mg := ⟨z_len, z_all, z_list, z_isinstance⟩
  have Tz : Tz K mg C := ⟨O.cls, z_len, z_range⟩
  have F0 := fun_mk (st := s_is_name) l0 c0 k0
  have b0 := F0.binds (ps := ["word"]) fun _ _ _ _ _ _ us hl => match us, hl with | [_], _ => rfl
  have F1 := fun_mk (st := s_check_name) l1 c1 k1
  have b1 := F1.binds (ps := ["word"]) fun _ _ _ _ _ _ us hl => match us, hl with | [_], _ => rfl
  have F2 := fun_mk (st := s_check_count) l2 c2 k2
  have b2 := F2.binds (ps := ["count"]) fun _ _ _ _ _ _ us hl => match us, hl with | [_], _ => rfl
  have F3 := fun_mk (st := s_check_room) l3 c3 k3
  have b3 := F3.binds (ps := ["what", "many", "most"]) fun _ _ _ _ _ _ us hl => match us, hl with | [_, _, _], _ => rfl
  have F5 := fun_mk (st := s_check_new) l5 c5 k5
  have b5 := F5.binds (ps := ["names", "forks"]) fun _ _ _ _ _ _ us hl => match us, hl with | [_, _], _ => rfl
  have F6 := fun_mk (st := s_check_known) l6 c6 k6
  have b6 := F6.binds (ps := ["names", "forks"]) fun _ _ _ _ _ _ us hl => match us, hl with | [_, _], _ => rfl
  have F7 := fun_mk (st := s_check_strike) l7 c7 k7
  have b7 := F7.binds (ps := ["forks", "a", "b", "count"]) fun _ _ _ _ _ _ us hl => match us, hl with | [_, _, _, _], _ => rfl
  have F8 := fun_mk (st := s_check_limit) l8 c8 k8
  have b8 := F8.binds (ps := ["value"]) fun _ _ _ _ _ _ us hl => match us, hl with | [_], _ => rfl
  have F9 := fun_mk (st := s_allowed_rises) l9 c9 k9
  have b9 := F9.binds (ps := ["count", "limit"]) fun _ _ _ _ _ _ us hl => match us, hl with | [_, _], _ => rfl
  have F10 := fun_mk (st := s_rises) l10 c10 k10
  have b10 := F10.binds (ps := ["bench", "index"]) fun _ _ _ _ _ _ us hl => match us, hl with | [_, _], _ => rfl
  have F11 := fun_mk (st := s__law_bag) l11 c11 k11
  have b11 := F11.binds (ps := ["_law_script"]) fun _ _ _ _ _ _ us hl => match us, hl with | [_], _ => rfl
  have F12 := fun_mk (st := s__law_mixed) l12 c12 k12
  have b12 := F12.binds (ps := ["_law_cell", "_law_turn"]) fun _ _ _ _ _ _ us hl => match us, hl with | [_, _], _ => rfl
  have F13 := fun_mk (st := s__law_take) l13 c13 k13
  have b13 := F13.binds (ps := ["_law_bag_here", "_law_many"]) fun _ _ _ _ _ _ us hl => match us, hl with | [_, _], _ => rfl
  have F14 := fun_mk (st := s__law_name) l14 c14 k14
  have b14 := F14.binds (ps := ["_law_bag_here", "_law_names_here"]) fun _ _ _ _ _ _ us hl => match us, hl with | [_, _], _ => rfl
  have F15 := fun_mk (st := s__law_names) l15 c15 k15
  have b15 := F15.binds (ps := ["_law_bag_here", "_law_many"]) fun _ _ _ _ _ _ us hl => match us, hl with | [_, _], _ => rfl
  have F16 := fun_mk (st := s__law_is_int) l16 c16 k16
  have b16 := F16.binds (ps := ["_law_thing"]) fun _ _ _ _ _ _ us hl => match us, hl with | [_], _ => rfl
  have F17 := fun_mk (st := s__law_ints) l17 c17 k17
  have b17 := F17.binds (ps := ["_law_thing", "_law_due"]) fun _ _ _ _ _ _ us hl => match us, hl with | [_, _], _ => rfl
  have F18 := fun_mk (st := s__law_some) l18 c18 k18
  have b18 := F18.binds (ps := ["_law_bag_here", "_law_names_here", "_law_many"]) fun _ _ _ _ _ _ us hl => match us, hl with | [_, _, _], _ => rfl
  have F19 := fun_mk (st := s__law_pairs) l19 c19 k19
  have b19 := F19.binds (ps := ["_law_bag_here", "_law_names_here", "_law_extra"]) fun _ _ _ _ _ _ us hl => match us, hl with | [_, _, _], _ => rfl
  have F20 := fun_mk (st := s__law_bench) l20 c20 k20
  have b20 := F20.binds (ps := ["_law_names_here", "_law_strikes", "_law_spare"]) fun _ _ _ _ _ _ us hl => match us, hl with | [_, _, _], _ => rfl
  have F21 := fun_mk (st := s__law_rises) l21 c21 k21
  have b21 := F21.binds (ps := ["_law_count", "_law_spare"]) fun _ _ _ _ _ _ us hl => match us, hl with | [_, _], _ => rfl
  have F22 := fun_mk (st := s__law_asked) l22 c22 k22
  have b22 := F22.binds (ps := ["_law_bench_here", "_law_index"]) fun _ _ _ _ _ _ us hl => match us, hl with | [_, _], _ => rfl
  have F23 := fun_mk (st := s_law) l23 c23 k23
  have F100 : FunD K "__init__" "Bench.__init__" (defArgs s_Bench___init__) (defBody s_Bench___init__) (defScope s_Bench___init__) [V.int 0] [] fI _ := ⟨⟨_, _, _, _, _, _, _, _, _, _, rfl, l100, c100, .inr ⟨by simp, aT, _, [Value.int 0 tT], _, rfl, lT, rfl, .cons ⟨_, rfl⟩ .nil⟩, .inl rfl⟩, k100⟩
  obtain ⟨ds0, rd0, b100d⟩ := F100.binds1 (ps := ["self", "limit"]) 1 0 (by simp) rfl fun T kV doc pm an cdv ct us its h1 h2 => match us, its, h1, h2 with | [_], [_], _, _ => ⟨_, rfl, rfl⟩
  obtain ⟨ds1, rd1, b100⟩ := F100.binds1 (ps := ["self", "limit"]) 2 1 (by simp) rfl fun T kV doc pm an cdv ct us its h1 h2 => match us, its, h1, h2 with | [_, _], [_], _, _ => ⟨_, rfl, rfl⟩
  cases rd1
  obtain ⟨itsW, b100w⟩ := F100.kbindsD (ps := ["self", "limit"]) 1 ["limit"] (fun us its ws => us ++ ws) (by simp) (fun r1 r2 r3 => r1.append r3) fun T kV doc pm an cdv ct us its ws h1 h2 h3 => match us, its, ws, h1, h2, h3 with | [_], [_], [_], _, _, _ => ⟨_, rfl, rfl⟩
  have F101 := fun_mk (st := s_Bench_limit) l101 c101 k101
  have b101 := F101.binds (ps := ["self"]) fun _ _ _ _ _ _ us hl => match us, hl with | [_], _ => rfl
  have F102 := fun_mk (st := s_Bench__state) l102 c102 k102
  have b102 := F102.binds (ps := ["self"]) fun _ _ _ _ _ _ us hl => match us, hl with | [_], _ => rfl
  have F103 := fun_mk (st := s_Bench__begin) l103 c103 k103
  have b103 := F103.binds (ps := ["self", "text"]) fun _ _ _ _ _ _ us hl => match us, hl with | [_, _], _ => rfl
  have F104 := fun_mk (st := s_Bench_change) l104 c104 k104
  have b104 := F104.binds (ps := ["self", "what", "value"]) fun _ _ _ _ _ _ us hl => match us, hl with | [_, _, _], _ => rfl
  have F105 := fun_mk (st := s_Bench_forks) l105 c105 k105
  have b105 := F105.binds (ps := ["self"]) fun _ _ _ _ _ _ us hl => match us, hl with | [_], _ => rfl
  have F106 := fun_mk (st := s_Bench_strikes) l106 c106 k106
  have b106 := F106.binds (ps := ["self"]) fun _ _ _ _ _ _ us hl => match us, hl with | [_], _ => rfl
  have F107 := fun_mk (st := s_Bench_strike) l107 c107 k107
  have b107 := F107.binds (ps := ["self", "a", "b", "count"]) fun _ _ _ _ _ _ us hl => match us, hl with | [_, _, _, _], _ => rfl
  have F108 := fun_mk (st := s_Bench_add_all) l108 c108 k108
  have b108 := F108.binds (ps := ["self", "names"]) fun _ _ _ _ _ _ us hl => match us, hl with | [_, _], _ => rfl
  refine ⟨PySem.W.fnOf "law" "law" (defArgs s_law) (defBody s_law) (defScope s_law) .none kV23 dc23 pm23 an23 cd23 ct23, fun s v => .of_eq rfl, fun base _ _ => ?_⟩
  have m0 : C8.Cal l.prog w K mg base 1 "is_name" spIsName [] := ⟨_, _, _, [], ok_is_name F0 Tn, PySem.W.mg_of X G g0, k0, b0, .nil⟩
  have m1 : CalX l.prog w K mg base 3 "check_name" (spCheck CB) := ⟨_, _, _, ok_check_name F1 Tn m0, PySem.W.mg_of X G g1, k1, b1⟩
  have m2 : CalX l.prog w K mg base 3 "check_count" (spCheckCount CK) := ⟨_, _, _, ok_check_count F2 Ts, PySem.W.mg_of X G g2, k2, b2⟩
  have m3 : CalX l.prog w K mg base 1 "check_room" spRoom := ⟨_, _, _, ok_check_room F3, PySem.W.mg_of X G g3, k3, b3⟩
  have m4 : Fx.CalR l.prog w K mg base 2 "spaced" (fun vs H Q E => ∃ ws rest, vs = ws ++ rest ∧ ws.length = ["word"].length ∧ rest.length ≤ sizeLine ∧ ∀ p, H p = Option.none → spSpaced (ws ++ [V.ref p]) (upd H p (.tup rest)) Q E) := ⟨_, ok_spaced l4 c4, PySem.W.mg_of X G g4, k4⟩
  have m5 : CalX l.prog w K mg base 4 "check_new" (spNewNames CB CR) := ⟨_, _, _, ok_check_new F5 Ts m1, PySem.W.mg_of X G g5, k5, b5⟩
  have m6 : CalX l.prog w K mg base 2 "check_known" (spKnown CU) := ⟨_, _, _, ok_check_known F6 Ts, PySem.W.mg_of X G g6, k6, b6⟩
  have m7 : CalX l.prog w K mg base 4 "check_strike" (spCheckStrike CR CU CK) := ⟨_, _, _, ok_check_strike F7 Ts m6 m2, PySem.W.mg_of X G g7, k7, b7⟩
  have m8 : CalX l.prog w K mg base 3 "check_limit" (spCheckLimit CL) := ⟨_, _, _, ok_check_limit F8 Tk, PySem.W.mg_of X G g8, k8, b8⟩
  have k_Bench : Fx.MkX l.prog w K mg base 4 "Bench" C (spInit C CL) := ⟨_, _, _, O.made, ok_init F100 Tk m8, gT, b100⟩
  have d_Bench : Fx.MkD l.prog w K mg base 4 "Bench" C [V.int 0] (spInit C CL) := ⟨_, _, _, _, O.made, ok_init F100 Tk m8, gT, rd0, b100d⟩
  have w_Bench : Fx.MkW l.prog w K mg base 4 "Bench" C ["limit"] (spInit C CL) := ⟨_, _, _, _, O.made, ok_init F100 Tk m8, gT, b100w⟩
  have pr_limit : Fx.PropC l.prog w K mg base 1 C "limit" (spLimit C) := ⟨_, _, _, _, ⟨gp101, gg101, gt101, ⟨_, gr101⟩⟩, ok_limit F101 Tk, b101⟩
  have q__state : Fx.MethC l.prog w K mg base 1 C "_state" (spState C) := ⟨_, _, _, ⟨g102, i102, k102⟩, ok_state F102 Tk, b102⟩
  have q__begin : Fx.MethC l.prog w K mg base 2 C "_begin" (spBegin C) := ⟨_, _, _, ⟨g103, i103, k103⟩, ok_begin F103 Tk q__state, b103⟩
  have x_change : Fx.MethX l.prog w K mg base 4 C "change" (spChange C CL CW) := ⟨_, _, _, ⟨g104, i104, k104⟩, ok_change F104 Tk m8 q__begin, b104⟩
  have q_forks : Fx.MethC l.prog w K mg base 1 C "forks" (spForks C) := ⟨_, _, _, ⟨g105, i105, k105⟩, ok_forks F105 Ts, b105⟩
  have q_strikes : Fx.MethC l.prog w K mg base 1 C "strikes" (spStrikes C) := ⟨_, _, _, ⟨g106, i106, k106⟩, ok_strikes F106 Ts, b106⟩
  have x_strike : Fx.MethX l.prog w K mg base 6 C "strike" (spStrike C CR CU CK) := ⟨_, _, _, ⟨g107, i107, k107⟩, ok_strike (CL := CL) (CW := CW) F107 Ts m7 m3 q__begin, b107⟩
  have x_add_all : Fx.MethX l.prog w K mg base 6 C "add_all" (spAddAll C CB CR) := ⟨_, _, _, ⟨g108, i108, k108⟩, ok_add_all F108 Ts m5 m3 q__begin m4, b108⟩
  have x_add : Fx.MethR l.prog w K mg base 7 C "add" (spAdd C CB CR) := ⟨_, ⟨g109, i109, k109⟩, ok_add l109 c109 Ts x_add_all⟩
  have m9 : C8.Cal l.prog w K mg base 1 "allowed_rises" spAllowed [] := ⟨_, _, _, [], ok_allowed F9 Tr, PySem.W.mg_of X G g9, k9, b9, .nil⟩
  have m10 : CalX l.prog w K mg base 3 "rises" (spRises C CN) := ⟨_, _, _, ok_rises F10 Tn3 m9 q_strikes pr_limit, PySem.W.mg_of X G g10, k10, b10⟩
  have m11 : C8.Cal l.prog w K mg base 1 "_law_bag" (spBag K) [] := ⟨_, _, _, [], ok_bag F11 B, PySem.W.mg_of X G g11, k11, b11, .nil⟩
  have m12 : C8.Cal l.prog w K mg base 1 "_law_mixed" spMixed [] := ⟨_, _, _, [], ok_mixed F12 B, PySem.W.mg_of X G g12, k12, b12, .nil⟩
  have m13 : C8.Cal l.prog w K mg base 2 "_law_take" spTake [] := ⟨_, _, _, [], ok_take F13 B m12, PySem.W.mg_of X G g13, k13, b13, .nil⟩
  have m14 : C8.Cal l.prog w K mg base 3 "_law_name" spName [] := ⟨_, _, _, [], ok_name F14 B m13, PySem.W.mg_of X G g14, k14, b14, .nil⟩
  have m15 : C8.Cal l.prog w K mg base 4 "_law_names" spNames [] := ⟨_, _, _, [], ok_law_names F15 M m13 m14, PySem.W.mg_of X G g15, k15, b15, .nil⟩
  have m16 : C8.Cal l.prog w K mg base 1 "_law_is_int" spIsInt [] := ⟨_, _, _, [], ok_is_int F16 M, PySem.W.mg_of X G g16, k16, b16, .nil⟩
  have m17 : C8.Cal l.prog w K mg base 2 "_law_ints" spInts [] := ⟨_, _, _, [], ok_ints F17 Tl m16, PySem.W.mg_of X G g17, k17, b17, .nil⟩
  have m18 : C8.Cal l.prog w K mg base 3 "_law_some" spSome [] := ⟨_, _, _, [], ok_some F18 Bt m13, PySem.W.mg_of X G g18, k18, b18, .nil⟩
  have m19 : C8.Cal l.prog w K mg base 4 "_law_pairs" spPairs [] := ⟨_, _, _, [], ok_pairs F19 Bt m13 m18, PySem.W.mg_of X G g19, k19, b19, .nil⟩
  have m20 : C8.Cal l.prog w K mg base 9 "_law_bench" (spBench C) [] := ⟨_, _, _, [], ok_bench (CL := CL) (CB := CB) (CR := CR) (CU := CU) (CC := CK) F20 Tc k_Bench x_add x_strike, PySem.W.mg_of X G g20, k20, b20, .nil⟩
  have m21 : C8.Cal l.prog w K mg base 1 "_law_rises" spLawRises [] := ⟨_, _, _, [], ok_law_rises F21 Tf, PySem.W.mg_of X G g21, k21, b21, .nil⟩
  have m22 : C8.Cal l.prog w K mg base 5 "_law_asked" (spAsked C) [] := ⟨_, _, _, [], ok_asked F22 Ta m10, PySem.W.mg_of X G g22, k22, b22, .nil⟩
  exact ok_law (CL := CL) (CW := CW) F23 Tz m11 m13 m15 m19 m20 m21 m22 m17 q_strikes x_change
end Fk

open PySem PySem.W PyProof.Rows
set_option maxHeartbeats 0
open_top head for PySem.Challenge.rw_forkbeats_k47_rises
theorem PySem.Challenge.cw_forkbeats_k47_rises_holds : PySem.Challenge.rw_forkbeats_k47_rises.Holds := by
  refine head ?_
  k_fill
  refine L2.walk_of (l := PySem.Challenge.rw_forkbeats_k47_rises) (n := 63) (k := 11) (x := "_law_script") (CX := fun _ => L2.CX0) (sp := fun w => Fk.spLaw _) rfl (by decide) rfl ⟨rfl, by decide, by decide⟩ (fun w h Y => PySem.W.kIn_of Y) ?F (fun _ _ a ns hl _ hS => ⟨a, ns, rfl, hS, hl, fun _ => rfl⟩) fun _ _ _ _ _ z => z
  case F =>
    intro w mg fa h KX G hmg
    have su : mg "super" = none := by
      refine PySem.W.mg_none_of KX G ?z
      (case z => k_is)
    have hBadName : ∃ fI, L2.ErrA PySem.Challenge.rw_forkbeats_k47_rises.prog (head.heap_39 w.params) mg "BadName" 53 fI ["name"] ∧ PySem.OwnX.ErrF PySem.Challenge.rw_forkbeats_k47_rises.prog (head.heap_39 w.params) 53 fI "BadName.__init__" (L2.defArgs Fk.i_BadName) (L2.defBody Fk.i_BadName) (L2.defScope Fk.i_BadName) := by
      refine' ⟨_, PySem.OwnX.err_of (st := Fk.i_BadName) KX G ?aC ?iC ?lC ?rV ?lF ?cF ?lD ?vD ?fD ?lL ?B su ?tp⟩
      (case aC => k_is); (case iC => k_is); (case lC => k_is); (case rV => kernel_rfl); (case lF => k_is); (case cF => k_is); (case lD => k_is); (case vD => rfl); (case fD => kernel_rfl); (case lL => k_is); (case B => kernel_rfl); (case tp => kernel_rfl)
    obtain ⟨fBadName, hBadName⟩ := hBadName
    have hUnknownFork : ∃ fI, L2.ErrA PySem.Challenge.rw_forkbeats_k47_rises.prog (head.heap_39 w.params) mg "UnknownFork" 74 fI ["name"] ∧ PySem.OwnX.ErrF PySem.Challenge.rw_forkbeats_k47_rises.prog (head.heap_39 w.params) 74 fI "UnknownFork.__init__" (L2.defArgs Fk.i_UnknownFork) (L2.defBody Fk.i_UnknownFork) (L2.defScope Fk.i_UnknownFork) := by
      refine' ⟨_, PySem.OwnX.err_of (st := Fk.i_UnknownFork) KX G ?aC ?iC ?lC ?rV ?lF ?cF ?lD ?vD ?fD ?lL ?B su ?tp⟩
      (case aC => k_is); (case iC => k_is); (case lC => k_is); (case rV => kernel_rfl); (case lF => k_is); (case cF => k_is); (case lD => k_is); (case vD => rfl); (case fD => kernel_rfl); (case lL => k_is); (case B => kernel_rfl); (case tp => kernel_rfl)
    obtain ⟨fUnknownFork, hUnknownFork⟩ := hUnknownFork
    have hRepeatedFork : ∃ fI, L2.ErrA PySem.Challenge.rw_forkbeats_k47_rises.prog (head.heap_39 w.params) mg "RepeatedFork" 95 fI ["name"] ∧ PySem.OwnX.ErrF PySem.Challenge.rw_forkbeats_k47_rises.prog (head.heap_39 w.params) 95 fI "RepeatedFork.__init__" (L2.defArgs Fk.i_RepeatedFork) (L2.defBody Fk.i_RepeatedFork) (L2.defScope Fk.i_RepeatedFork) := by
      refine' ⟨_, PySem.OwnX.err_of (st := Fk.i_RepeatedFork) KX G ?aC ?iC ?lC ?rV ?lF ?cF ?lD ?vD ?fD ?lL ?B su ?tp⟩
      (case aC => k_is); (case iC => k_is); (case lC => k_is); (case rV => kernel_rfl); (case lF => k_is); (case cF => k_is); (case lD => k_is); (case vD => rfl); (case fD => kernel_rfl); (case lL => k_is); (case B => kernel_rfl); (case tp => kernel_rfl)
    obtain ⟨fRepeatedFork, hRepeatedFork⟩ := hRepeatedFork
    have hBadCount : ∃ fI, L2.ErrA PySem.Challenge.rw_forkbeats_k47_rises.prog (head.heap_39 w.params) mg "BadCount" 116 fI ["count"] ∧ PySem.OwnX.ErrF PySem.Challenge.rw_forkbeats_k47_rises.prog (head.heap_39 w.params) 116 fI "BadCount.__init__" (L2.defArgs Fk.i_BadCount) (L2.defBody Fk.i_BadCount) (L2.defScope Fk.i_BadCount) := by
      refine' ⟨_, PySem.OwnX.err_of (st := Fk.i_BadCount) KX G ?aC ?iC ?lC ?rV ?lF ?cF ?lD ?vD ?fD ?lL ?B su ?tp⟩
      (case aC => k_is); (case iC => k_is); (case lC => k_is); (case rV => kernel_rfl); (case lF => k_is); (case cF => k_is); (case lD => k_is); (case vD => rfl); (case fD => kernel_rfl); (case lL => k_is); (case B => kernel_rfl); (case tp => kernel_rfl)
    obtain ⟨fBadCount, hBadCount⟩ := hBadCount
    have hBadLimit : ∃ fI, L2.ErrA PySem.Challenge.rw_forkbeats_k47_rises.prog (head.heap_39 w.params) mg "BadLimit" 137 fI ["value"] ∧ PySem.OwnX.ErrF PySem.Challenge.rw_forkbeats_k47_rises.prog (head.heap_39 w.params) 137 fI "BadLimit.__init__" (L2.defArgs Fk.i_BadLimit) (L2.defBody Fk.i_BadLimit) (L2.defScope Fk.i_BadLimit) := by
      refine' ⟨_, PySem.OwnX.err_of (st := Fk.i_BadLimit) KX G ?aC ?iC ?lC ?rV ?lF ?cF ?lD ?vD ?fD ?lL ?B su ?tp⟩
      (case aC => k_is); (case iC => k_is); (case lC => k_is); (case rV => kernel_rfl); (case lF => k_is); (case cF => k_is); (case lD => k_is); (case vD => rfl); (case fD => kernel_rfl); (case lL => k_is); (case B => kernel_rfl); (case tp => kernel_rfl)
    obtain ⟨fBadLimit, hBadLimit⟩ := hBadLimit
    have hBadWord : ∃ fI, L2.ErrA PySem.Challenge.rw_forkbeats_k47_rises.prog (head.heap_39 w.params) mg "BadWord" 158 fI ["word"] ∧ PySem.OwnX.ErrF PySem.Challenge.rw_forkbeats_k47_rises.prog (head.heap_39 w.params) 158 fI "BadWord.__init__" (L2.defArgs Fk.i_BadWord) (L2.defBody Fk.i_BadWord) (L2.defScope Fk.i_BadWord) := by
      refine' ⟨_, PySem.OwnX.err_of (st := Fk.i_BadWord) KX G ?aC ?iC ?lC ?rV ?lF ?cF ?lD ?vD ?fD ?lL ?B su ?tp⟩
      (case aC => k_is); (case iC => k_is); (case lC => k_is); (case rV => kernel_rfl); (case lF => k_is); (case cF => k_is); (case lD => k_is); (case vD => rfl); (case fD => kernel_rfl); (case lL => k_is); (case B => kernel_rfl); (case tp => kernel_rfl)
    obtain ⟨fBadWord, hBadWord⟩ := hBadWord
    have hNoStrike : ∃ fI, L2.ErrA PySem.Challenge.rw_forkbeats_k47_rises.prog (head.heap_39 w.params) mg "NoStrike" 242 fI ["index"] ∧ PySem.OwnX.ErrF PySem.Challenge.rw_forkbeats_k47_rises.prog (head.heap_39 w.params) 242 fI "NoStrike.__init__" (L2.defArgs Fk.i_NoStrike) (L2.defBody Fk.i_NoStrike) (L2.defScope Fk.i_NoStrike) := by
      refine' ⟨_, PySem.OwnX.err_of (st := Fk.i_NoStrike) KX G ?aC ?iC ?lC ?rV ?lF ?cF ?lD ?vD ?fD ?lL ?B su ?tp⟩
      (case aC => k_is); (case iC => k_is); (case lC => k_is); (case rV => kernel_rfl); (case lF => k_is); (case cF => k_is); (case lD => k_is); (case vD => rfl); (case fD => kernel_rfl); (case lL => k_is); (case B => kernel_rfl); (case tp => kernel_rfl)
    obtain ⟨fNoStrike, hNoStrike⟩ := hNoStrike
    refine' Fk.all_mk (fI := 499) KX G hmg hBadName hUnknownFork hRepeatedFork hBadCount hBadLimit hBadWord hNoStrike ?gF ?gC ?ccMOST_LIMIT ?ccMOST_FORKS ?ccMOST_STRIKES ?gCFa ?cCFaMOST_COUNT (PySem.OwnX.own_of ?O) ?kx ?g0 ?l0 ?c0 ?k0 ?g1 ?l1 ?c1 ?k1 ?g2 ?l2 ?c2 ?k2 ?g3 ?l3 ?c3 ?k3 ?g4 ?l4 ?c4 ?k4 ?g5 ?l5 ?c5 ?k5 ?g6 ?l6 ?c6 ?k6 ?g7 ?l7 ?c7 ?k7 ?g8 ?l8 ?c8 ?k8 ?g9 ?l9 ?c9 ?k9 ?g10 ?l10 ?c10 ?k10 ?g11 ?l11 ?c11 ?k11 ?g12 ?l12 ?c12 ?k12 ?g13 ?l13 ?c13 ?k13 ?g14 ?l14 ?c14 ?k14 ?g15 ?l15 ?c15 ?k15 ?g16 ?l16 ?c16 ?k16 ?g17 ?l17 ?c17 ?k17 ?g18 ?l18 ?c18 ?k18 ?g19 ?l19 ?c19 ?k19 ?g20 ?l20 ?c20 ?k20 ?g21 ?l21 ?c21 ?k21 ?g22 ?l22 ?c22 ?k22 ?g23 ?l23 ?c23 ?k23 ?l100 ?c100 ?k100 ?lT ?gp101 ?gg101 ?gt101 ?gr101 ?l101 ?c101 ?k101 ?g102 ?i102 ?l102 ?c102 ?k102 ?g103 ?i103 ?l103 ?c103 ?k103 ?g104 ?i104 ?l104 ?c104 ?k104 ?g105 ?i105 ?l105 ?c105 ?k105 ?g106 ?i106 ?l106 ?c106 ?k106 ?g107 ?i107 ?l107 ?c107 ?k107 ?g108 ?i108 ?l108 ?c108 ?k108 ?g109 ?i109 ?l109 ?c109 ?k109 ?gc0 ?y0 ?y1 ?y2 ?y3 ?y4 ?y5 ?y6 ?y7 ?y8 ?y9 ?y10 ?y11 ?y12 ?y13
    (case gF => k_is); (case gC => k_is); (case ccMOST_LIMIT => k_is); (case ccMOST_FORKS => k_is); (case ccMOST_STRIKES => k_is); (case gCFa => k_is); (case cCFaMOST_COUNT => k_is); (case O => kernel_rfl); (case kx => kernel_rfl)
    (case g0 => k_is); (case l0 => k_is); (case c0 => k_is); (case k0 => k_is)
    (case g1 => k_is); (case l1 => k_is); (case c1 => k_is); (case k1 => k_is)
    (case g2 => k_is); (case l2 => k_is); (case c2 => k_is); (case k2 => k_is)
    (case g3 => k_is); (case l3 => k_is); (case c3 => k_is); (case k3 => k_is)
    (case g4 => k_is); (case l4 => k_is); (case c4 => k_is); (case k4 => k_is)
    (case g5 => k_is); (case l5 => k_is); (case c5 => k_is); (case k5 => k_is)
    (case g6 => k_is); (case l6 => k_is); (case c6 => k_is); (case k6 => k_is)
    (case g7 => k_is); (case l7 => k_is); (case c7 => k_is); (case k7 => k_is)
    (case g8 => k_is); (case l8 => k_is); (case c8 => k_is); (case k8 => k_is)
    (case g9 => k_is); (case l9 => k_is); (case c9 => k_is); (case k9 => k_is)
    (case g10 => k_is); (case l10 => k_is); (case c10 => k_is); (case k10 => k_is)
    (case g11 => k_is); (case l11 => k_is); (case c11 => k_is); (case k11 => k_is)
    (case g12 => k_is); (case l12 => k_is); (case c12 => k_is); (case k12 => k_is)
    (case g13 => k_is); (case l13 => k_is); (case c13 => k_is); (case k13 => k_is)
    (case g14 => k_is); (case l14 => k_is); (case c14 => k_is); (case k14 => k_is)
    (case g15 => k_is); (case l15 => k_is); (case c15 => k_is); (case k15 => k_is)
    (case g16 => k_is); (case l16 => k_is); (case c16 => k_is); (case k16 => k_is)
    (case g17 => k_is); (case l17 => k_is); (case c17 => k_is); (case k17 => k_is)
    (case g18 => k_is); (case l18 => k_is); (case c18 => k_is); (case k18 => k_is)
    (case g19 => k_is); (case l19 => k_is); (case c19 => k_is); (case k19 => k_is)
    (case g20 => k_is); (case l20 => k_is); (case c20 => k_is); (case k20 => k_is)
    (case g21 => k_is); (case l21 => k_is); (case c21 => k_is); (case k21 => k_is)
    (case g22 => k_is); (case l22 => k_is); (case c22 => k_is); (case k22 => k_is)
    (case g23 => k_is); (case l23 => k_is); (case c23 => k_is); (case k23 => k_is)
    (case l100 => k_is); (case c100 => k_is); (case k100 => k_is); (case lT => k_is)
    (case gp101 => k_is); (case gg101 => k_is); (case gt101 => k_is); (case gr101 => k_is)
    (case l101 => k_is); (case c101 => k_is); (case k101 => k_is)
    (case g102 => k_is); (case i102 => k_is)
    (case l102 => k_is); (case c102 => k_is); (case k102 => k_is)
    (case g103 => k_is); (case i103 => k_is)
    (case l103 => k_is); (case c103 => k_is); (case k103 => k_is)
    (case g104 => k_is); (case i104 => k_is)
    (case l104 => k_is); (case c104 => k_is); (case k104 => k_is)
    (case g105 => k_is); (case i105 => k_is)
    (case l105 => k_is); (case c105 => k_is); (case k105 => k_is)
    (case g106 => k_is); (case i106 => k_is)
    (case l106 => k_is); (case c106 => k_is); (case k106 => k_is)
    (case g107 => k_is); (case i107 => k_is)
    (case l107 => k_is); (case c107 => k_is); (case k107 => k_is)
    (case g108 => k_is); (case i108 => k_is)
    (case l108 => k_is); (case c108 => k_is); (case k108 => k_is)
    (case g109 => k_is); (case i109 => k_is)
    (case l109 => k_is); (case c109 => k_is); (case k109 => k_is)
    (case gc0 => k_is)
    (case y0 => k_is); (case y1 => k_is); (case y2 => k_is); (case y3 => k_is); (case y4 => k_is); (case y5 => k_is); (case y6 => k_is); (case y7 => k_is); (case y8 => k_is); (case y9 => k_is); (case y10 => k_is); (case y11 => k_is); (case y12 => k_is); (case y13 => k_is)
#print axioms PySem.Challenge.cw_forkbeats_k47_rises_holds
