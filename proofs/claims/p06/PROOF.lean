import PyProof.Rows.All
import Wide.All
import OpenK.AllK
import Wide.FinOn
import KE.KExcSuper
import HandS.ExcInit
import HandS.ExcCtx
import HandS.ForExc
import HandS.TryMany
import HandS.ExcField
import HandS.ExcIs
import HandS.WordsExc
import KE.KExcIs
import HandS.HotCalls
import HandS.Comp
import HandS.ForMost
import HandS.More
import HandS.Wide
import HandS.Codes
import HandS.Walk
import HandS.Conv
import HandS.Iter
import KE.KDictList
import HandS.Call
import HandS.IsInst
import HandS.StrMore
import HandS.Zip
import PyProof.StrLawsRepr
import OpenK.KMeth
import OpenK.KOps
import KE.KOpsOwn
import HandS.List
import HandS.DictComp
import KE.DatumOrd
import HandS.Style
import KE.KOwnIter
import HandS.IterVal
import HandS.Star
import HandS.ClsMeth
import HandS.Defaults
import KE.KParD
import KE.KCallOwn
import HandS.FStr
import KE.KIntText
import PyProof.Rows.StrBin
import PyProof.StrLawsTight
import PyProof.StrLawsAffix
import PyProof.Rows.StrNews2
import PyProof.ReprReads
import HandS.HeadNt
import PySem.Challenge.RW_forkbeats_k06_tuning_text_refused
set_option Elab.async false
set_option linter.all false
set_option maxRecDepth 100000
set_option maxHeartbeats 4000000
/-! own errors whose __init__ first says super().__init__(text) -/
namespace PySem
namespace OwnX
open PySem.W PySem.Calls PyProof.Rows PySem.HandSPX

section
variable {prog : Program} {w : World} {A : Around} {E : Value → Shared → Prop} {h : Heap} {g : Array GenState} {d : Drawn} {t : Nat} {os : OsState}
variable {nm q : Str} {C N : Addr} {bs bm : List Value} {sn : List Str} {sub : List Value} {ab : Bool} {col : Option Bool} {dd : Option Addr} {k0 k1 k2 k3 k5 : Option Value}

theorem bw_call {u x t0 : Addr} {rest : List Value} {Q : Value → Shared → Prop}
    (hC : h.get? C = some (excClassObj nm q C N bs bm true sn sub ab col dd k0 k1 k2 k3 k5 "ValueError.__new__")) (he : h.get? x = some (excO C t0)) (hu : h.get? u = some (kxs_mw "ValueError.__init__" x)) (hrest : rest.length ≤ sizeLine)
    (hq : ∀ h' t1, (∀ b o, b ≠ x → h.get? b = some o → h'.get? b = some o) → h'.get? x = some (excO C t1) → Q .none ⟨h', g, d, t, os⟩) :
    wpAny (model prog w) A (call (.ref u) rest) Q E ⟨h, g, d, t, os⟩ := by
  refine wpAny_call (codeAny_of_tree ?_)
  show wpAny _ A.in1 (callAny (.ref u) ⟨rest, []⟩) _ _ _
  simp only [callAny]
  refine wpAny_bind (wpAny_load hu ?_)
  simp only [kxs_mw, show (Value.type "method-wrapper" == Value.type "method" || Value.type "method-wrapper" == Value.type "builtin_function_or_method" || Value.type "method-wrapper" == Value.type "method-wrapper") = true by decide, if_true]
  refine KFB.if_so (by decide) ?_
  refine wpAny_bind (check_bound_init F.excBase_ValueError.toExcCallFacts hC he rfl ?_)
  refine wpAny_bind (wpAny_pure (wpAny_pure ?_))
  refine ⟨plainId_quiet F.excBase_ValueError.init.plain _, codeAny_builtin F.excBase_ValueError.initEntry ?_⟩
  exact exc_init_tree (cls := .ref C) (t0 := t0) (dv := none) (c2 := .none) (c3 := .none) (b4 := .bool false) he hrest fun h' k e' _ => hq h' _ k e'
end

/-- what the written part says of the class at C, its __init__ at fI, its cell at cc, its code at cda -/
structure ErrC (P : Program) (K : Frag) (C : Addr) : Prop where
  cls : ∃ nm q N bs bm sn sub ab col dd k0 k1 k2 k3 k5, K.lookup C = some (excClassObj nm q C N bs bm true sn sub ab col dd k0 k1 k2 k3 k5 "ValueError.__new__") ∧ refsVE bm = true
  sup : ks_superIn K C C "__init__" = some (some (.builtin "ValueError.__init__"))
  self : mroIn K C (.ref C) = some true
  ve : subIn K (.ref C) (.type "ValueError") = some true
  opq : nsIn K cStatics "thirdparty.any" = some none
  top : (P.main.scope.names.lookup ("super" : Str)).isSome = false

section
variable {prog : Program} {w : World} {A : Around} {E : Value → Shared → Prop} {s : Shared} {K : Frag} {mg m : Str → Option Value}
theorem hev_of {o arg : Expr} {env : Env} {p2 p3 : Pos} {name : Str} (h : (p2.endLine == p3.line) = true) (hst : starEach (arg :: []) env = (false, eval arg env) :: starEach [] env) :
    eval (.Call (.Attribute o name p2) [arg] [] p3) env = (do
      let ov ← attributeBase o name env (eval o env)
      standAt p2.atName
      let (fn, first) ← holding [ov] (getMethod ov name (do return (← importBound o env).getD true))
      callWith p3 fn first (backTo p3 (starEach [arg] env)) []) := by
  rw [arm_eval_Call]
  have hf : methodCallForm ([arg].length + ([] : List Keyword).length) (backTo p3 (starEach [arg] env)) (backToKw p3 (keywordEach [] env)) = true := by
    rw [hst]
    rfl
  unfold methodCall
  rw [hf]
  unfold calleeOf methodCallPos
  simp only [h, Bool.not_true, Bool.false_or, if_true, pure_bind]
  rfl
theorem sup_init {C x t0 f cc cda L : Addr} {qual : Str} {scope : Scope} {fd : FuncData} {oc ccl cl : Value} {od cdd cld : Option Addr} {osl ccs csl : Array (Option Value)} {ar : Arg} {vs : Array Value} {file : Str} {tf : Tok}
    {p0 p1 p2 p3 p4 : Pos} {arg : Expr} {body : List Stmt} {Q : Flow → Shared → Prop}
    (T : ErrC prog K C) (X : K.In s.heap) (hg : s.heap.Ns mainGlobals mg) (hmg : mg "super" = none) (hb : ∃ mb, s.heap.Ns builtinsNs mb ∧ ∀ x : Str, x ≠ "__name__" → mb x = bootBuiltins x)
    (hn : s.heap.Ns L m) (hv : m ar.arg = some (.ref x)) (hx : s.heap.get? x = some (excO C t0)) (hxC : x ≠ C)
    (hf : K.lookup f = some ⟨oc, od, .func fd, osl⟩) (hp : (fd.params.posonlyargs ++ fd.params.args).head? = some ar)
    (hcode : K.lookup cda = some ⟨ccl, cdd, .fields vs, ccs⟩) (hvs : vs[2]? = some (.str file tf)) (hfile : ((prog.main.file : Str) == file) = true)
    (hcell : K.lookup cc = some ⟨cl, cld, .cell (some (.ref C)), csl⟩)
    (hk : scope.kind = .function) (hks : scope.names.lookup ("super" : Str) = some .globalImplicit) (hkc : scope.names.lookup ("__class__" : Str) = some .free) (hka : scope.names.lookup ar.arg = some .local)
    (harg : ∀ h' tk, (∀ b o, s.heap.get? b = some o → h'.get? b = some o) → wpAny (model prog w) A (eval arg (ksEnv qual scope L f (.ref cda) cc)) (fun _ s'' => ∃ tk', s'' = { s with heap := h', toks := tk' }) E { s with heap := h', toks := tk })
    (hst : starEach (arg :: []) (ksEnv qual scope L f (.ref cda) cc) = (false, eval arg (ksEnv qual scope L f (.ref cda) cc)) :: starEach [] (ksEnv qual scope L f (.ref cda) cc))
    {pl : Sem Bool}
    (hev : eval (.Call (.Attribute (.Call (.Name "super" p0) [] [] p1) "__init__" p2) [arg] [] p3) (ksEnv qual scope L f (.ref cda) cc) = (do
      let ov ← attributeBase (.Call (.Name "super" p0) [] [] p1) "__init__" (ksEnv qual scope L f (.ref cda) cc) (eval (.Call (.Name "super" p0) [] [] p1) (ksEnv qual scope L f (.ref cda) cc))
      standAt p2.atName
      let (fn, first) ← holding [ov] (getMethod ov "__init__" pl)
      callWith p3 fn first (backTo p3 (starEach [arg] (ksEnv qual scope L f (.ref cda) cc))) []))
    (hsw : swapsWith (.Call (.Attribute (.Call (.Name "super" p0) [] [] p1) "__init__" p2) [arg] [] p3) none p4.line (ksEnv qual scope L f (.ref cda) cc) = pure false)
    (hq : ∀ h' tk t1, (∀ b o, b ≠ x → s.heap.get? b = some o → h'.get? b = some o) → h'.get? x = some (excO C t1) → Q .next { s with heap := h', toks := tk }) :
    _root_.PySem.wpAt (model prog w) A (.func body (ksEnv qual scope L f (.ref cda) cc))
      (exec (.Expr (.Call (.Attribute (.Call (.Name "super" p0) [] [] p1) "__init__" p2) [arg] [] p3) p4) (ksEnv qual scope L f (.ref cda) cc)) Q E s := by
  obtain ⟨nm, q, N, bs, bm, sn, sub, ab, col, dd, k0, k1, k2, k3, k5, hC, hbm⟩ := T.cls
  obtain ⟨mb, hb1, hb2⟩ := hb
  have hI : interactive (ksEnv qual scope L f (.ref cda) cc) = false := by simp [interactive, hk]
  refine ks_wpAt_Expr_any ?_ hI hsw
  refine ks_wpAt_MethodCall ?_ hev
  obtain ⟨cdD, hD, hDm⟩ : ∃ cdD, clsIn K C = some cdD ∧ cdD.mro = .ref C :: bm := by
    refine ⟨{ name := nm, bases := bs, mro := .ref C :: bm, ns := N, qualname := q, hasDict := true, slotNames := sn, subclasses := sub, abstract := ab, collection := col, hasDel := false }, ?_, rfl⟩
    unfold clsIn
    rw [hC] <;> rfl
  obtain ⟨oD, hD1, hD2⟩ : ∃ oD, s.heap.get? C = some oD ∧ oD.data = .cls cdD := by
    have hD' := hD
    unfold clsIn at hD'
    split at hD'
    · rename_i c d cd' sl ho
      cases hD'
      exact ⟨_, X _ _ ho, rfl⟩
    · cases hD'
  refine ks_wpAt_super_base (env := ksEnv qual scope L f (.ref cda) cc) hks hkc rfl rfl (X _ _ hf) rfl hp rfl (X _ _ hcode) rfl hvs hfile T.top ?_
  obtain ⟨hh, g, d, t, os⟩ := s
  refine ks_loadName_global hk hks (loadGlobal_builtin (env := ksEnv qual scope L f (.ref cda) cc) hg hmg hb1 ((hb2 _ (by decide +kernel)).trans (show bootBuiltins "super" = some (.type "super") by first | boot_by_name | rfl | kernel_rfl)) ⟨rfl, ?_⟩)
  refine wpAny_loadName_free hk hkc rfl ⟨_, X _ _ hcell, rfl⟩ ?_
  refine wpAny_loadName_local hk hka hn hv ?_
  refine ks_wpAny_isType_cls hD1 hD2 ⟨rfl, ?_⟩
  refine ks_wpAny_call_super hD1 hD2 hx rfl (fun c e => ?_) (looks_mroIn X T.self) (fun h1 e1 k1 => ?_)
  · cases e
  · have X1 : K.In h1 := fun a o z => k1 a o (X a o z)
    have hx1 := k1 _ _ hx
    have I1 : InstAt h1 x (excO C t0) C none := ⟨hx1, rfl, rfl, trivial⟩
    have hI1 : Looks (model prog w) h1 (isInstance (.ref x) (.type "ValueError")) true := I1.type.andThen (looks_subIn X1 T.ve)
    have hsup := T.sup
    unfold ks_superIn at hsup
    rw [hD] at hsup
    refine kxs_getMethod (K := K) kxs_ValueError e1 (looks_opaque X1 T.opq) (l₀ := cdD.mro) ?_ rfl X1 hsup hI1 hxC rfl ?_
    · exact fun A Q E s k q => wpAny_bind ((looks_clsIn X1 hD) A _ E s k (wpAny_pure q))
    · have k2 : ∀ b o, hh.get? b = some o → (h1.push (kxs_mw "ValueError.__init__" x)).get? b = some o := fun b o z => Heap.get?_push_of_some _ (k1 b o z)
      have e2 : (h1.push (kxs_mw "ValueError.__init__" x)).get? h1.objs.size = some (kxs_mw "ValueError.__init__" x) := Heap.get?_push_at rfl rfl
      refine kxs_callWith (i := "ValueError.__init__") (x := x) (by rw [hst]; rfl) ?_
      rw [hst]
      refine evalArgs_plain ?_
      show wpAny _ _ (spliced ((false, eval arg (ksEnv qual scope L f (.ref cda) cc)) :: backTo p3 (starEach [] (ksEnv qual scope L f (.ref cda) cc)))) _ _ _
      refine Calls.spliced_cons (wpAny_mono (harg _ _ k2) (fun v s2 hs2 => ?_) fun _ _ z => z)
      obtain ⟨tk', rfl⟩ := hs2
      refine args_nil ⟨e2, ?_⟩
      refine bw_call (C := C) (x := x) (t0 := t0) (k2 _ _ (X _ _ hC)) (k2 _ _ hx) e2 (by show 1 ≤ sizeLine; rw [sizeLine_eq]; decide) (fun h' t1 k e' => ?_)
      exact hq h' tk' t1 (fun b o hb z => k b o hb (k2 b o z)) e'
end

/-! ### the texts within -/
def FmV (c : Int) : Value → Prop
  | .str z _ => (c = 114 ∧ (reprText z).length ≤ 7000000) ∨ (c = -1 ∧ z.length ≤ 7000000)
  | .int i _ => c = -1 ∧ i.natAbs.log2 < 1920
  | _ => False
section
variable {prog : Program} {w : World} {A : Around} {E : Value → Shared → Prop} {env : Env} {m : Str → Option Value} {L : Addr}
theorem int_text_small {i : Int} (h : i.natAbs.log2 < 1920) : (Str.ofString (toString i)).length ≤ 7000000 := by
  have e := int_text_length_le (k := 1920) (by decide) h
  rw [ofString_length]
  omega
/-- one field within an f-string -/
theorem fmt_one {fl : Str} {conv : Int} {a1 a2 : Pos} {v : Value} {s : Shared} {Q : Value → Shared → Prop} (hn : s.heap.Ns env.locals m) (hv : m fl = some v) (hf : FmV conv v)
    (hk : env.scope.kind = .function) (hl : env.kindOf fl = some .local) (hd : (fl == ("__debug__" : Str)) = false)
    (h : ∀ (y : Str) (t tk : Tok), y.length ≤ 7000000 → Q (.str y t) { s with toks := tk }) :
    wpAny (model prog w) A (eval (.FormattedValue (.Name fl a1) conv none a2) env) Q E s := by
  cases v with
  | str z t =>
    rcases hf with ⟨rfl, hz⟩ | ⟨rfl, hz⟩
    · refine wpAny_FormattedValue_repr (wpAny_Name (wpAny_loadName_local hk hl hn hv ?_) hd)
      refine pyReprObj_str (wpAny_formatField_str (h _ _ _ hz) (h _ _ _ hz) ?_) ?_
      all_goals rw [sizeLine_eq]; omega
    · refine wpAny_FormattedValue_plain (wpAny_Name (wpAny_loadName_local hk hl hn hv ?_) hd)
      refine wpAny_formatField_str (h _ _ _ hz) (h _ _ _ hz) ?_
      rw [sizeLine_eq]; omega
  | int i t =>
    obtain ⟨rfl, hi⟩ := hf
    refine wpAny_FormattedValue_plain (wpAny_Name (wpAny_loadName_local hk hl hn hv ?_) hd)
    exact wpAny_formatField_int hi (h _ _ _ (int_text_small hi))
  | _ => exact hf.elim
end

/-! ### the shapes of the bodies -/
def supCall (arg : Expr) (p0 p1 p2 p3 p4 : Pos) : Stmt := .Expr (.Call (.Attribute (.Call (.Name "super" p0) [] [] p1) "__init__" p2) [arg] [] p3) p4
def setSelf (f : Str) (q1 q2 q3 q4 : Pos) : Stmt := .Assign [.Attribute (.Name "self" q1) f q2] (.Name f q3) q4
def txt1 (y1 : Str) (c1 : Int) (f1 : Str) (j1 : Nat) (a0 a1 a2 a3 : Pos) : Expr := .JoinedStr [.Constant (.str y1) j1 a0, .FormattedValue (.Name f1 a1) c1 none a2] a3
def txt2 (y1 : Str) (c1 : Int) (f1 : Str) (y2 : Str) (c2 : Int) (f2 : Str) (j1 j2 : Nat) (a0 a1 a2 b0 b1 b2 a3 : Pos) : Expr :=
  .JoinedStr [.Constant (.str y1) j1 a0, .FormattedValue (.Name f1 a1) c1 none a2, .Constant (.str y2) j2 b0, .FormattedValue (.Name f2 b1) c2 none b2] a3
def scope1 (f1 : Str) : Scope := { kind := .function, names := [("self", .local), (f1, .local), ("__class__", .free), ("super", .globalImplicit)], isGenerator := false, isCoroutine := false, more := [] }
def scope2 (f1 f2 : Str) : Scope := { kind := .function, names := [("self", .local), (f1, .local), (f2, .local), ("__class__", .free), ("super", .globalImplicit)], isGenerator := false, isCoroutine := false, more := [] }
def scope0 : Scope := { kind := .function, names := [("self", .local), ("__class__", .free), ("super", .globalImplicit)], isGenerator := false, isCoroutine := false, more := [] }
def args_ (l : List Arg) : Arguments := { posonlyargs := [], args := l, vararg := none, kwonlyargs := [], kw_defaults := [], kwarg := none, defaults := [] }
def arg_ (x : Str) (p : Pos) : Arg := { arg := x, annotation := none, pos := p }
/-- what the written part says of __init__ -/
structure ErrF (P : Program) (K : Frag) (C fI : Addr) (qual : Str) (ar : Arguments) (body : List Stmt) (sc : Scope) : Prop where
  iC : findIn K (.ref C) "__init__" = some (some (.ref fI))
  tI : typeIn K (.ref fI) = some (.type "function")
  fn : ∃ (oc : Value) (od : Option Addr) (doc pm : Value) (an : Option Addr) (cda : Addr) (ct : Value) (cc : Addr) (osl : Array (Option Value)) (kV : Value),
    K.lookup fI = some ⟨oc, od, .func (ksFn "__init__" qual ar body sc .none kV doc pm an (.ref cda) ct cc), osl⟩ ∧ codeIn K (.ref cda) qual = true ∧
    (∃ ccl cdd vs ccs file tf, K.lookup cda = some ⟨ccl, cdd, .fields vs, ccs⟩ ∧ vs[2]? = some (.str file tf) ∧ ((P.main.file : Str) == file) = true) ∧
    ∃ cl cld csl, K.lookup cc = some ⟨cl, cld, .cell (some (.ref C)), csl⟩
/-- of the class, for its fields -/
structure ErrS (K : Frag) (C : Addr) (fs : List Str) : Prop where
  sa : findIn K (.ref C) "__setattr__" = some (some (.builtin "object.__setattr__"))
  no : ∀ f ∈ fs, findIn K (.ref C) f = some none
/-- what __init__ leaves of the exception at x -/
structure InitEnd (h h' : Heap) (x C : Addr) (d : Option Addr) (fs : List (Str × Value)) : Prop where
  keep : ∀ b o, b ≠ x → h.get? b = some o → h'.get? b = some o
  obj : ∃ t1 : Addr, h'.get? x = some { cls := .ref C, dict := d, data := .fields #[.ref t1, .none, .none, .none, .bool false, .none] }
  own : ∀ dx, d = some dx → h.objs.size ≤ dx ∧ dx ≠ x ∧ h'.Ns1 dx (fun y => fs.lookup y)
section
variable {prog : Program} {w : World} {A : Around} {E : Value → Shared → Prop} {R : Result → Shared → Prop} {s : Shared} {K : Frag} {mg : Str → Option Value} {C fI : Addr}
theorem one_size (v : Value) : [v].length ≤ sizeLine := by
  rw [sizeLine_eq]
  exact (by decide : 1 ≤ 16777216)
theorem lookup1 (f : Str) (v : Value) : (fun y => if y = f then some v else none) = fun y => List.lookup y [(f, v)] := by
  funext y
  by_cases h : y = f
  · subst h
    simp [List.lookup]
  · have e : (y == f) = false := by simpa using h
    rw [if_neg h]
    simp [List.lookup, e]
theorem lookup2 (f g : Str) (v u : Value) : (fun y => if y = g then some u else (if y = f then some v else none)) = fun y => List.lookup y [(g, u), (f, v)] := by
  funext y
  have e1 := congrFun (lookup1 f v) y
  by_cases h : y = g
  · subst h
    simp [List.lookup]
  · have e : (y == g) = false := by simpa using h
    rw [if_neg h, e1]
    simp [List.lookup, e]

/-- self.f = f in the body, on an exception that has no dict yet -/
theorem set_first {env : Env} {f : Str} {q1 q2 q3 q4 : Pos} {x t1 : Addr} {m : Str → Option Value} {v : Value} {Q : Flow → Shared → Prop} (T : ErrC prog K C) (S : findIn K (.ref C) "__setattr__" = some (some (.builtin "object.__setattr__"))) (no : findIn K (.ref C) f = some none)
    (X : K.In s.heap) (hn : s.heap.Ns env.locals m) (hself : m "self" = some (.ref x)) (hv : m f = some v) (hx : s.heap.get? x = some (excO C t1))
    (hk : env.scope.kind = .function) (hls : env.kindOf "self" = some .local) (hlf : env.kindOf f = some .local) (hd : (f == ("__debug__" : Str)) = false)
    (hsw : swapsWith (.Name f q3) (some (.Attribute (.Name "self" q1) f q2)) q4.line env = pure false)
    (hq : ∀ h' tk dx, (∀ b o, b ≠ x → s.heap.get? b = some o → h'.get? b = some o) → s.heap.objs.size ≤ dx → dx ≠ x → h'.get? x = some { cls := .ref C, dict := some dx, data := .fields #[.ref t1, .none, .none, .none, .bool false, .none] } →
      h'.Ns1 dx (fun y => List.lookup y [(f, v)]) → Q .next { s with heap := h', toks := tk }) :
    wpAny (model prog w) A (exec (setSelf f q1 q2 q3 q4) env) Q E s := by
  obtain ⟨nm, q, N, bs, bm, sn, sub, ab, col, dd, k0, k1, k2, k3, k5, hC, hbm⟩ := T.cls
  have hcl : clsIn K C = some { name := nm, bases := bs, mro := .ref C :: bm, ns := N, qualname := q, hasDict := true, slotNames := sn, subclasses := sub, abstract := ab, collection := col, hasDel := false } := by unfold clsIn; rw [hC] <;> rfl
  refine plainObj_wpAny_Assign_Attribute ?_ hsw
  refine wpAny_Name (wpAny_loadName_local hk hlf hn hv (wpAny_Name (wpAny_loadName_local hk hls hn hself ?_) rfl)) hd
  obtain ⟨hp, g, dr, tk, os⟩ := s
  refine set_plain X (ox := excO C t1) (od := none) ⟨hx, rfl, rfl, trivial⟩ S ?_
  refine exc_osa X hx hcl (show refsVE (.ref C :: bm) = true from hbm) rfl no (fun h₃ tk₃ dx k₃ dn dne hx₃ hn₃ => ?_)
  exact hq h₃ tk₃ dx k₃ dn dne hx₃ (by rw [← lookup1]; exact hn₃)
/-- .. on one that has its dict -/
theorem set_more {env : Env} {f g : Str} {q1 q2 q3 q4 : Pos} {x t1 dx : Addr} {m : Str → Option Value} {v u : Value} {Q : Flow → Shared → Prop} (T : ErrC prog K C) (S : findIn K (.ref C) "__setattr__" = some (some (.builtin "object.__setattr__"))) (no : findIn K (.ref C) g = some none)
    (X : K.In s.heap) (hn : s.heap.Ns env.locals m) (hself : m "self" = some (.ref x)) (hv : m g = some u) (hx : s.heap.get? x = some { cls := .ref C, dict := some dx, data := .fields #[.ref t1, .none, .none, .none, .bool false, .none] })
    (hns : s.heap.Ns1 dx (fun y => List.lookup y [(f, v)]))
    (hk : env.scope.kind = .function) (hls : env.kindOf "self" = some .local) (hlf : env.kindOf g = some .local) (hd : (g == ("__debug__" : Str)) = false)
    (hsw : swapsWith (.Name g q3) (some (.Attribute (.Name "self" q1) g q2)) q4.line env = pure false)
    (hq : ∀ h' tk, (∀ b o, b ≠ dx → s.heap.get? b = some o → h'.get? b = some o) → h'.Ns1 dx (fun y => List.lookup y [(g, u), (f, v)]) → Q .next { s with heap := h', toks := tk }) :
    wpAny (model prog w) A (exec (setSelf g q1 q2 q3 q4) env) Q E s := by
  obtain ⟨nm, q, N, bs, bm, sn, sub, ab, col, dd, k0, k1, k2, k3, k5, hC, hbm⟩ := T.cls
  have hcl : clsIn K C = some { name := nm, bases := bs, mro := .ref C :: bm, ns := N, qualname := q, hasDict := true, slotNames := sn, subclasses := sub, abstract := ab, collection := col, hasDel := false } := by unfold clsIn; rw [hC] <;> rfl
  rw [← lookup1] at hns
  have hw : Within (fun y => if y = f then some v else none) [f] := Within.cons f v Within.nil
  obtain ⟨oD, _, _, hoD, _, _⟩ := hns.count hw
  refine plainObj_wpAny_Assign_Attribute ?_ hsw
  refine wpAny_Name (wpAny_loadName_local hk hlf hn hv (wpAny_Name (wpAny_loadName_local hk hls hn hself ?_) rfl)) hd
  obtain ⟨hp, g, dr, tk, os⟩ := s
  refine set_plain X (ox := { cls := .ref C, dict := some dx, data := .fields #[.ref t1, .none, .none, .none, .bool false, .none] }) (od := some oD) ⟨hx, rfl, rfl, hoD⟩ S ?_
  refine OEX.osa_old X hx hns hw (by show 1 ≤ 1000; decide) hcl (show refsVE (.ref C :: bm) = true from hbm) rfl no (fun h' tk' k hn' => ?_)
  exact hq h' tk' k (by rw [← lookup2]; exact hn')
end

/-- the names of the fields are no names of the machine's -/
structure NmOk (f : Str) : Prop where
  a : (f == ("self" : Str)) = false
  b : (("self" : Str) == f) = false
  c : (("super" : Str) == f) = false
  d : (("__class__" : Str) == f) = false
  e : (f == ("__debug__" : Str)) = false
section
variable {prog : Program} {w : World} {A : Around} {E : Value → Shared → Prop} {R : Result → Shared → Prop} {s : Shared} {K : Frag} {mg : Str → Option Value} {C fI : Addr}
/-- what the module says at a call -/
structure ModS (K : Frag) (mg : Str → Option Value) (h : Heap) : Prop where
  kin : K.In h
  lim : h.NoLimit
  glob : h.Ns mainGlobals mg
  blt : ∃ mb, h.Ns builtinsNs mb ∧ ∀ x : Str, x ≠ "__name__" → mb x = bootBuiltins x
  sup : mg "super" = none
theorem ModS.keeps {h h' : Heap} (M : ModS K mg h) (k : ∀ b o, h.get? b = some o → h'.get? b = some o) : ModS K mg h' := by
  obtain ⟨mb, b1, b2⟩ := M.blt
  exact ⟨M.kin.keeps k, M.lim.keeps k, M.glob.at fun o q => k _ _ q, ⟨mb, b1.at fun o q => k _ _ q, b2⟩, M.sup⟩
theorem joined1 {env : Env} {y1 f1 : Str} {c1 : Int} {j1 : Nat} {a0 a1 a2 a3 : Pos} {v : Value} {m : Str → Option Value} (fm : FmV c1 v) (hy : y1.length ≤ 1000) (hv : m f1 = some v)
    (hk : env.scope.kind = .function) (hl : env.kindOf f1 = some .local) (hd : (f1 == ("__debug__" : Str)) = false) {h' : Heap} {tk : Tok} (hn : h'.Ns env.locals m) :
    wpAny (model prog w) A (eval (txt1 y1 c1 f1 j1 a0 a1 a2 a3) env) (fun _ s'' => ∃ tk', s'' = { s with heap := h', toks := tk' }) E { s with heap := h', toks := tk } := by
  refine wpAny_JoinedStr ?_
  refine Calls.Constant_str ⟨y1, _, rfl, ?_, ?_⟩
  · rw [sizeLine_eq]
    show (Str.empty ++ y1).length ≤ _
    rw [Str.length_append]
    show 0 + y1.length ≤ _
    omega
  · refine fmt_one (m := m) hn hv fm hk hl hd fun y t tk2 hz => ⟨y, t, rfl, ?_, ?_⟩
    · rw [sizeLine_eq, Str.length_append, Str.length_append]
      show 0 + y1.length + y.length ≤ _
      omega
    · refine ⟨?_, _, rfl⟩
      rw [sizeLine_eq, Str.length_append, Str.length_append]
      show 0 + y1.length + y.length ≤ _
      omega
theorem joined2 {env : Env} {y1 f1 y2 f2 : Str} {c1 c2 : Int} {j1 j2 : Nat} {a0 a1 a2 b0 b1 b2 a3 : Pos} {v u : Value} {m : Str → Option Value} (fm : FmV c1 v) (fm2 : FmV c2 u) (hy : y1.length ≤ 1000) (hy2 : y2.length ≤ 1000) (hv : m f1 = some v) (hu : m f2 = some u)
    (hk : env.scope.kind = .function) (hl : env.kindOf f1 = some .local) (hl2 : env.kindOf f2 = some .local) (hd : (f1 == ("__debug__" : Str)) = false) (hd2 : (f2 == ("__debug__" : Str)) = false) {h' : Heap} {tk : Tok} (hn : h'.Ns env.locals m) :
    wpAny (model prog w) A (eval (txt2 y1 c1 f1 y2 c2 f2 j1 j2 a0 a1 a2 b0 b1 b2 a3) env) (fun _ s'' => ∃ tk', s'' = { s with heap := h', toks := tk' }) E { s with heap := h', toks := tk } := by
  refine wpAny_JoinedStr ?_
  refine Calls.Constant_str ⟨y1, _, rfl, ?_, ?_⟩
  · rw [sizeLine_eq, Str.length_append]
    show 0 + y1.length ≤ _
    omega
  · refine fmt_one (m := m) hn hv fm hk hl hd fun y t tk2 hz => ⟨y, t, rfl, ?_, ?_⟩
    · rw [sizeLine_eq, Str.length_append, Str.length_append]
      show 0 + y1.length + y.length ≤ _
      omega
    · refine Calls.Constant_str ⟨y2, _, rfl, ?_, ?_⟩
      · rw [sizeLine_eq, Str.length_append, Str.length_append, Str.length_append]
        show 0 + y1.length + y.length + y2.length ≤ _
        omega
      · refine fmt_one (m := m) hn hu fm2 hk hl2 hd2 fun z t2 tk3 hz2 => ⟨z, t2, rfl, ?_, ?_⟩
        · rw [sizeLine_eq, Str.length_append, Str.length_append, Str.length_append, Str.length_append]
          show 0 + y1.length + y.length + y2.length + z.length ≤ _
          omega
        · refine ⟨?_, _, rfl⟩
          rw [sizeLine_eq, Str.length_append, Str.length_append, Str.length_append, Str.length_append]
          show 0 + y1.length + y.length + y2.length + z.length ≤ _
          omega
theorem init1 {qual y1 f1 : Str} {c1 : Int} {j1 : Nat} {a0 a1 a2 a3 p0 p1 p2 p3 p4 p5 p6 q1 q2 q3 q4 : Pos} {x t0 : Addr} {v : Value} (T : ErrC prog K C)
    (F : ErrF prog K C fI qual (args_ [arg_ "self" p5, arg_ f1 p6]) [supCall (txt1 y1 c1 f1 j1 a0 a1 a2 a3) p0 p1 p2 p3 p4, setSelf f1 q1 q2 q3 q4] (scope1 f1)) (S : ErrS K C [f1]) (nf : NmOk f1)
    (M : ModS K mg s.heap) (hx : s.heap.get? x = some (excO C t0)) (hnx : K.lookup x = none) (hroom : A.depth < recursionLimit) (hpos : (p2.endLine == p3.line) = true) (fm : FmV c1 v) (hy : y1.length ≤ 1000)
    (hbd : ∀ (kV doc pm : Value) (an : Option Addr) (cda : Addr) (ct : Value) (cc : Addr) (x v : Value), bindArgs (ksFn "__init__" qual (args_ [arg_ "self" p5, arg_ f1 p6]) [supCall (txt1 y1 c1 f1 j1 a0 a1 a2 a3) p0 p1 p2 p3 p4, setSelf f1 q1 q2 q3 q4] (scope1 f1) .none kV doc pm an (.ref cda) ct cc) ⟨[x, v], []⟩ = pure [(("self" : Str), x), (f1, v)])
    (hq : ∀ h' tk d, InitEnd s.heap h' x C (some d) [(f1, v)] → R (.ok (.ret .none)) { s with heap := h', toks := tk }) :
    codeAny (model prog w) A (.call (.ref fI) ⟨[.ref x, v], []⟩) R s := by
  obtain ⟨oc, od, doc, pm, an, cda, ct, cc, osl, kV, ho, hcd, ⟨ccl, cdd, vs, ccs, file, tf, hcode, hvs, hfile⟩, ⟨cl, cld, csl, hcell⟩⟩ := F.fn
  obtain ⟨nm, q, N, bs, bm, sn, sub, ab, col, dd, k0, k1, k2, k3, k5, hC, hbm⟩ := T.cls
  have X := M.kin
  have hxC : x ≠ C := fun z => by
    rw [z, X _ _ hC] at hx
    cases hx
  have lsc : List.lookup f1 (scope1 f1).names = some .local := by simp [scope1, List.lookup, nf.a]
  have lsp : List.lookup ("super" : Str) (scope1 f1).names = some .globalImplicit := by
    have e1 : (("super" : Str) == ("self" : Str)) = false := by decide
    have e2 : (("super" : Str) == ("__class__" : Str)) = false := by decide
    simp [scope1, List.lookup, nf.c, e1, e2]
  have lcl : List.lookup ("__class__" : Str) (scope1 f1).names = some .free := by
    have e1 : (("__class__" : Str) == ("self" : Str)) = false := by decide
    simp [scope1, List.lookup, nf.d, e1]
  have lse : List.lookup ("self" : Str) (scope1 f1).names = some .local := by simp [scope1, List.lookup]
  refine ks_codeAny_call_defAt (fd := ksFn "__init__" qual (args_ [arg_ "self" p5, arg_ f1 p6]) [supCall (txt1 y1 c1 f1 j1 a0 a1 a2 a3) p0 p1 p2 p3 p4, setSelf f1 q1 q2 q3 q4] (scope1 f1) .none kV doc pm an (.ref cda) ct cc)
    (body := [supCall (txt1 y1 c1 f1 j1 a0 a1 a2 a3) p0 p1 p2 p3 p4, setSelf f1 q1 q2 q3 q4]) (binds := [("self", .ref x), (f1, v)]) hroom (X _ _ ho) rfl M.lim (codeRec_of X hcd) rfl
    (BindsTo.of_eq (hbd _ _ _ _ _ _ _ _ _)) ?_ ?_ (fun h₁ hns k₁ => ?_) rfl rfl rfl
  · intro y hy'
    simp [scope1] at hy'
    rcases hy' with rfl | rfl | rfl | rfl <;> (intro z; cases z)
  · intro y hy'
    simp at hy'
    rcases hy' with rfl | rfl
    · exact lse
    · exact lsc
  have M₁ : ModS K mg h₁ := M.keeps k₁
  have m1 : (fun y => List.lookup y [(f1, v), (("self" : Str), Value.ref x)]) "self" = some (.ref x) := by simp [List.lookup, nf.b]
  have m2 : (fun y => List.lookup y [(f1, v), (("self" : Str), Value.ref x)]) f1 = some v := by simp [List.lookup]
  have hx₁ := k₁ _ _ hx
  show _root_.PySem.wpAt _ _ _ (execs _ (ksEnv qual (scope1 f1) s.heap.objs.size fI (.ref cda) cc)) _ _ _
  have hns' : h₁.Ns s.heap.objs.size (fun y => List.lookup y [(f1, v), (("self" : Str), Value.ref x)]) := hns
  refine ks_wpAt_execs_cons (sup_init (mg := mg) (ar := arg_ "self" p5) (C := C) (x := x) (t0 := t0) (m := fun y => List.lookup y [(f1, v), (("self" : Str), Value.ref x)]) T M₁.kin M₁.glob M.sup M₁.blt hns' m1 hx₁ hxC ho rfl hcode hvs hfile hcell rfl lsp lcl lse
    (fun h' tk k => joined1 (env := ksEnv qual (scope1 f1) s.heap.objs.size fI (.ref cda) cc) (m := fun y => List.lookup y [(f1, v), (("self" : Str), Value.ref x)]) fm hy m2 rfl lsc nf.e (hns'.at fun o q => k _ _ q)) rfl (hev_of hpos rfl) (by first | rfl | with_unfolding_all rfl) (fun h₂ tk₂ t₂ k₂ hx₂ => ?_))
  have L1 : s.heap.objs.size ≠ x := Nat.ne_of_gt (Heap.lt_size hx)
  have kx : ∀ b o, K.lookup b = some o → b ≠ x := fun b o z e => by rw [e, hnx] at z; cases z
  have X₂ : K.In h₂ := fun b o z => k₂ b o (kx b o z) (M₁.kin b o z)
  have hns₂ : h₂.Ns s.heap.objs.size (fun y => List.lookup y [(f1, v), (("self" : Str), Value.ref x)]) := hns'.at fun o q => k₂ _ _ L1 q
  show _root_.PySem.wpAt _ _ _ (execs _ (ksEnv qual (scope1 f1) s.heap.objs.size fI (.ref cda) cc)) _ _ _
  refine wpAt_of_wpAny (wpAny_execs_cons (set_first (C := C) (x := x) (t1 := t₂) (m := fun y => List.lookup y [(f1, v), (("self" : Str), Value.ref x)]) T S.sa (S.no f1 (by simp)) X₂ hns₂ m1 m2 hx₂ rfl lse lsc nf.e rfl (fun h₃ tk₃ dx k₃ dn dne hx₃ hn₃ => ?_)))
  refine wpAny_execs_nil (hq h₃ tk₃ dx ⟨fun b o hb e => k₃ b o hb (k₂ b o hb (k₁ b o e)), ⟨_, hx₃⟩, fun dx' e => ?_⟩)
  cases e
  have z1 : s.heap.objs.size < h₁.objs.size := hns'.lt
  have z2 : s.heap.objs.size < h₂.objs.size := hns₂.lt
  exact ⟨Nat.le_of_lt (Nat.lt_of_lt_of_le z2 dn), dne, hn₃⟩
theorem init2 {qual y1 f1 y2 f2 : Str} {c1 c2 : Int} {j1 j2 : Nat} {a0 a1 a2 b0 b1 b2 a3 p0 p1 p2 p3 p4 p5 p6 p7 q1 q2 q3 q4 r1 r2 r3 r4 : Pos} {x t0 : Addr} {v u : Value} (T : ErrC prog K C)
    (F : ErrF prog K C fI qual (args_ [arg_ "self" p5, arg_ f1 p6, arg_ f2 p7]) [supCall (txt2 y1 c1 f1 y2 c2 f2 j1 j2 a0 a1 a2 b0 b1 b2 a3) p0 p1 p2 p3 p4, setSelf f1 q1 q2 q3 q4, setSelf f2 r1 r2 r3 r4] (scope2 f1 f2)) (S : ErrS K C [f1, f2]) (nf : NmOk f1) (nf2 : NmOk f2) (ne : (f1 == f2) = false) (ne2 : (f2 == f1) = false)
    (M : ModS K mg s.heap) (hx : s.heap.get? x = some (excO C t0)) (hnx : K.lookup x = none) (hroom : A.depth < recursionLimit) (hpos : (p2.endLine == p3.line) = true) (fm : FmV c1 v) (fm2 : FmV c2 u) (hy : y1.length ≤ 1000) (hy2 : y2.length ≤ 1000)
    (hbd : ∀ (kV doc pm : Value) (an : Option Addr) (cda : Addr) (ct : Value) (cc : Addr) (x v u : Value), bindArgs (ksFn "__init__" qual (args_ [arg_ "self" p5, arg_ f1 p6, arg_ f2 p7]) [supCall (txt2 y1 c1 f1 y2 c2 f2 j1 j2 a0 a1 a2 b0 b1 b2 a3) p0 p1 p2 p3 p4, setSelf f1 q1 q2 q3 q4, setSelf f2 r1 r2 r3 r4] (scope2 f1 f2) .none kV doc pm an (.ref cda) ct cc) ⟨[x, v, u], []⟩ = pure [(("self" : Str), x), (f1, v), (f2, u)])
    (hq : ∀ h' tk d, InitEnd s.heap h' x C (some d) [(f2, u), (f1, v)] → R (.ok (.ret .none)) { s with heap := h', toks := tk }) :
    codeAny (model prog w) A (.call (.ref fI) ⟨[.ref x, v, u], []⟩) R s := by
  obtain ⟨oc, od, doc, pm, an, cda, ct, cc, osl, kV, ho, hcd, ⟨ccl, cdd, vs, ccs, file, tf, hcode, hvs, hfile⟩, ⟨cl, cld, csl, hcell⟩⟩ := F.fn
  obtain ⟨nm, q, N, bs, bm, sn, sub, ab, col, dd, k0, k1, k2, k3, k5, hC, hbm⟩ := T.cls
  have X := M.kin
  have hxC : x ≠ C := fun z => by
    rw [z, X _ _ hC] at hx
    cases hx
  have lsc : List.lookup f1 (scope2 f1 f2).names = some .local := by simp [scope2, List.lookup, nf.a]
  have lsc2 : List.lookup f2 (scope2 f1 f2).names = some .local := by simp [scope2, List.lookup, nf2.a, ne2]
  have lsp : List.lookup ("super" : Str) (scope2 f1 f2).names = some .globalImplicit := by
    have e1 : (("super" : Str) == ("self" : Str)) = false := by decide
    have e2 : (("super" : Str) == ("__class__" : Str)) = false := by decide
    simp [scope2, List.lookup, nf.c, nf2.c, e1, e2]
  have lcl : List.lookup ("__class__" : Str) (scope2 f1 f2).names = some .free := by
    have e1 : (("__class__" : Str) == ("self" : Str)) = false := by decide
    simp [scope2, List.lookup, nf.d, nf2.d, e1]
  have lse : List.lookup ("self" : Str) (scope2 f1 f2).names = some .local := by simp [scope2, List.lookup]
  refine ks_codeAny_call_defAt (fd := ksFn "__init__" qual (args_ [arg_ "self" p5, arg_ f1 p6, arg_ f2 p7]) [supCall (txt2 y1 c1 f1 y2 c2 f2 j1 j2 a0 a1 a2 b0 b1 b2 a3) p0 p1 p2 p3 p4, setSelf f1 q1 q2 q3 q4, setSelf f2 r1 r2 r3 r4] (scope2 f1 f2) .none kV doc pm an (.ref cda) ct cc)
    (body := [supCall (txt2 y1 c1 f1 y2 c2 f2 j1 j2 a0 a1 a2 b0 b1 b2 a3) p0 p1 p2 p3 p4, setSelf f1 q1 q2 q3 q4, setSelf f2 r1 r2 r3 r4]) (binds := [("self", .ref x), (f1, v), (f2, u)]) hroom (X _ _ ho) rfl M.lim (codeRec_of X hcd) rfl
    (BindsTo.of_eq (hbd _ _ _ _ _ _ _ _ _ _)) ?_ ?_ (fun h₁ hns k₁ => ?_) rfl rfl rfl
  · intro y hy'
    simp [scope2] at hy'
    rcases hy' with rfl | rfl | rfl | rfl | rfl <;> (intro z; cases z)
  · intro y hy'
    simp at hy'
    rcases hy' with rfl | rfl | rfl
    · exact lse
    · exact lsc
    · exact lsc2
  have M₁ : ModS K mg h₁ := M.keeps k₁
  have m1 : (fun y => List.lookup y [(f2, u), (f1, v), (("self" : Str), Value.ref x)]) "self" = some (.ref x) := by simp [List.lookup, nf.b, nf2.b]
  have m2 : (fun y => List.lookup y [(f2, u), (f1, v), (("self" : Str), Value.ref x)]) f1 = some v := by simp [List.lookup, ne]
  have m3 : (fun y => List.lookup y [(f2, u), (f1, v), (("self" : Str), Value.ref x)]) f2 = some u := by simp [List.lookup]
  have hx₁ := k₁ _ _ hx
  show _root_.PySem.wpAt _ _ _ (execs _ (ksEnv qual (scope2 f1 f2) s.heap.objs.size fI (.ref cda) cc)) _ _ _
  have hns' : h₁.Ns s.heap.objs.size (fun y => List.lookup y [(f2, u), (f1, v), (("self" : Str), Value.ref x)]) := hns
  refine ks_wpAt_execs_cons (sup_init (mg := mg) (ar := arg_ "self" p5) (C := C) (x := x) (t0 := t0) (m := fun y => List.lookup y [(f2, u), (f1, v), (("self" : Str), Value.ref x)]) T M₁.kin M₁.glob M.sup M₁.blt hns' m1 hx₁ hxC ho rfl hcode hvs hfile hcell rfl lsp lcl lse
    (fun h' tk k => joined2 (env := ksEnv qual (scope2 f1 f2) s.heap.objs.size fI (.ref cda) cc) (m := fun y => List.lookup y [(f2, u), (f1, v), (("self" : Str), Value.ref x)]) fm fm2 hy hy2 m2 m3 rfl lsc lsc2 nf.e nf2.e (hns'.at fun o q => k _ _ q)) rfl (hev_of hpos rfl) (by first | rfl | with_unfolding_all rfl) (fun h₂ tk₂ t₂ k₂ hx₂ => ?_))
  have L1 : s.heap.objs.size ≠ x := Nat.ne_of_gt (Heap.lt_size hx)
  have kx : ∀ b o, K.lookup b = some o → b ≠ x := fun b o z e => by rw [e, hnx] at z; cases z
  have X₂ : K.In h₂ := fun b o z => k₂ b o (kx b o z) (M₁.kin b o z)
  have hns₂ : h₂.Ns s.heap.objs.size (fun y => List.lookup y [(f2, u), (f1, v), (("self" : Str), Value.ref x)]) := hns'.at fun o q => k₂ _ _ L1 q
  show _root_.PySem.wpAt _ _ _ (execs _ (ksEnv qual (scope2 f1 f2) s.heap.objs.size fI (.ref cda) cc)) _ _ _
  refine wpAt_of_wpAny (wpAny_execs_cons (set_first (C := C) (x := x) (t1 := t₂) (m := fun y => List.lookup y [(f2, u), (f1, v), (("self" : Str), Value.ref x)]) T S.sa (S.no f1 (by simp)) X₂ hns₂ m1 m2 hx₂ rfl lse lsc nf.e rfl (fun h₃ tk₃ dx k₃ dn dne hx₃ hn₃ => ?_)))
  have X₃ : K.In h₃ := fun b o z => k₃ b o (kx b o z) (X₂ b o z)
  have hns₃ : h₃.Ns s.heap.objs.size (fun y => List.lookup y [(f2, u), (f1, v), (("self" : Str), Value.ref x)]) := hns₂.at fun o q => k₃ _ _ L1 q
  have z1 : s.heap.objs.size < h₁.objs.size := hns'.lt
  have z2 : s.heap.objs.size < h₂.objs.size := hns₂.lt
  have z3 : s.heap.objs.size < dx := Nat.lt_of_lt_of_le z2 dn
  show wpAny _ _ (execs _ (ksEnv qual (scope2 f1 f2) s.heap.objs.size fI (.ref cda) cc)) _ _ _
  refine wpAny_execs_cons (set_more (C := C) (x := x) (t1 := t₂) (dx := dx) (m := fun y => List.lookup y [(f2, u), (f1, v), (("self" : Str), Value.ref x)]) T S.sa (S.no f2 (by simp)) X₃ hns₃ m1 m3 hx₃ hn₃ rfl lse lsc2 nf2.e rfl (fun h₄ tk₄ k₄ hn₄ => ?_))
  refine wpAny_execs_nil (hq h₄ tk₄ dx ⟨fun b o hb e => k₄ b o (fun z => ?_) (k₃ b o hb (k₂ b o hb (k₁ b o e))), ⟨_, k₄ _ _ (Ne.symm dne) hx₃⟩, fun dx' e => ?_⟩)
  · exact absurd (Heap.lt_size e) (by rw [z]; exact Nat.not_lt.mpr (Nat.le_of_lt z3))
  cases e
  exact ⟨Nat.le_of_lt z3, dne, hn₄⟩
theorem init0 {qual y1 : Str} {j1 : Nat} {a0 p0 p1 p2 p3 p4 p5 : Pos} {x t0 : Addr} (T : ErrC prog K C)
    (F : ErrF prog K C fI qual (args_ [arg_ "self" p5]) [supCall (.Constant (.str y1) j1 a0) p0 p1 p2 p3 p4] scope0)
    (M : ModS K mg s.heap) (hx : s.heap.get? x = some (excO C t0)) (hnx : K.lookup x = none) (hroom : A.depth < recursionLimit) (hpos : (p2.endLine == p3.line) = true)
    (hbd : ∀ (kV doc pm : Value) (an : Option Addr) (cda : Addr) (ct : Value) (cc : Addr) (x : Value), bindArgs (ksFn "__init__" qual (args_ [arg_ "self" p5]) [supCall (.Constant (.str y1) j1 a0) p0 p1 p2 p3 p4] scope0 .none kV doc pm an (.ref cda) ct cc) ⟨[x], []⟩ = pure [(("self" : Str), x)])
    (hq : ∀ h' tk, InitEnd s.heap h' x C none [] → R (.ok (.ret .none)) { s with heap := h', toks := tk }) :
    codeAny (model prog w) A (.call (.ref fI) ⟨[.ref x], []⟩) R s := by
  obtain ⟨oc, od, doc, pm, an, cda, ct, cc, osl, kV, ho, hcd, ⟨ccl, cdd, vs, ccs, file, tf, hcode, hvs, hfile⟩, ⟨cl, cld, csl, hcell⟩⟩ := F.fn
  obtain ⟨nm, q, N, bs, bm, sn, sub, ab, col, dd, k0, k1, k2, k3, k5, hC, hbm⟩ := T.cls
  have X := M.kin
  have hxC : x ≠ C := fun z => by
    rw [z, X _ _ hC] at hx
    cases hx
  refine ks_codeAny_call_defAt (fd := ksFn "__init__" qual (args_ [arg_ "self" p5]) [supCall (.Constant (.str y1) j1 a0) p0 p1 p2 p3 p4] scope0 .none kV doc pm an (.ref cda) ct cc)
    (body := [supCall (.Constant (.str y1) j1 a0) p0 p1 p2 p3 p4]) (binds := [("self", .ref x)]) hroom (X _ _ ho) rfl M.lim (codeRec_of X hcd) rfl
    (BindsTo.of_eq (hbd _ _ _ _ _ _ _ _)) (by show ∀ x ∈ scope0.names, x.2 ≠ .cell; decide) ?_ (fun h₁ hns k₁ => ?_) rfl rfl rfl
  · intro y hy'
    simp at hy'
    subst hy'
    rfl
  have M₁ : ModS K mg h₁ := M.keeps k₁
  have m1 : (fun y => List.lookup y [(("self" : Str), Value.ref x)]) "self" = some (.ref x) := by simp [List.lookup]
  have hx₁ := k₁ _ _ hx
  show _root_.PySem.wpAt _ _ _ (execs _ (ksEnv qual scope0 s.heap.objs.size fI (.ref cda) cc)) _ _ _
  have hns' : h₁.Ns s.heap.objs.size (fun y => List.lookup y [(("self" : Str), Value.ref x)]) := hns
  refine ks_wpAt_execs_cons (sup_init (mg := mg) (ar := arg_ "self" p5) (C := C) (x := x) (t0 := t0) (m := fun y => List.lookup y [(("self" : Str), Value.ref x)]) T M₁.kin M₁.glob M.sup M₁.blt hns' m1 hx₁ hxC ho rfl hcode hvs hfile hcell rfl rfl rfl rfl
    (fun h' tk k => Calls.Constant_str ⟨_, rfl⟩) rfl (hev_of hpos rfl) (by first | rfl | with_unfolding_all rfl) (fun h₂ tk₂ t₂ k₂ hx₂ => ?_))
  refine wpAt_of_wpAny (wpAny_execs_nil (hq h₂ tk₂ ⟨fun b o hb e => k₂ b o hb (k₁ b o e), ⟨_, hx₂⟩, fun dx' e => ?_⟩))
  cases e

/-- a made error -/
structure OwnMade (h h' : Heap) (e C : Addr) (d : Option Addr) (fs : List (Str × Value)) : Prop where
  keep : ∀ b o, h.get? b = some o → h'.get? b = some o
  new : h.objs.size ≤ e
  obj : ∃ oe vs, h'.get? e = some oe ∧ oe.cls = .ref C ∧ oe.dict = d ∧ oe.data = .fields vs ∧ vs[1]? = some .none ∧ vs[2]? = some .none
  own : ∀ dx, d = some dx → h.objs.size ≤ dx ∧ dx ≠ e ∧ h'.Ns1 dx (fun y => fs.lookup y)
/-- __init__ of the class at C, called with rest, leaves the fields fs -/
def InitOk (prog : Program) (w : World) (K : Frag) (mg : Str → Option Value) (C fI : Addr) (rest : List Value) (fs : List (Str × Value)) (own : Bool) : Prop :=
  ∀ (A : Around) (R : Result → Shared → Prop) (s : Shared) (x t0 : Addr), ModS K mg s.heap → s.heap.get? x = some (excO C t0) → K.lookup x = none → A.depth < recursionLimit →
    (∀ h' tk d, InitEnd s.heap h' x C d fs → d.isSome = own → R (.ok (.ret .none)) { s with heap := h', toks := tk }) → codeAny (model prog w) A (.call (.ref fI) ⟨.ref x :: rest, []⟩) R s
theorem made {rest : List Value} {fs : List (Str × Value)} {own : Bool} (T : ErrC prog K C) (iC : findIn K (.ref C) "__init__" = some (some (.ref fI))) (tI : typeIn K (.ref fI) = some (.type "function")) (I : InitOk prog w K mg C fI rest fs own)
    (M : ModS K mg s.heap) (hroom : A.depth + 1 < recursionLimit) (hz : rest.length ≤ sizeLine)
    (hq : ∀ h' tk e d, OwnMade s.heap h' e C d fs → d.isSome = own → R (.ok (.ret (.ref e))) { s with heap := h', toks := tk }) :
    codeAny (model prog w) A (.call (.ref C) ⟨rest, []⟩) R s := by
  obtain ⟨nm, q, N, bs, bm, sn, sub, ab, col, dd, k0, k1, k2, k3, k5, hC, hbm⟩ := T.cls
  obtain ⟨hp, g, dr, tk, os⟩ := s
  have X := M.kin
  have k : ∀ b o, hp.get? b = some o → ((hp.push (kdv_tup rest)).push (excO C hp.objs.size)).get? b = some o := fun b o e => Heap.get?_push_of_some _ (Heap.get?_push_of_some _ e)
  have hget : ((hp.push (kdv_tup rest)).push (excO C hp.objs.size)).get? (hp.objs.size + 1) = some (excO C hp.objs.size) := by heap_get
  have hnx : K.lookup (hp.objs.size + 1) = none := by
    cases e : K.lookup (hp.objs.size + 1) with
    | none => rfl
    | some o =>
      have z : hp.get? (hp.objs.size + 1) = some o := X _ _ e
      exact absurd (Nat.lt_of_succ_lt (Heap.lt_size z)) (Nat.lt_irrefl _)
  refine call_own F.excBase_ValueError (fun Y => refsVE_contains Y bm hbm) (X _ _ hC) (looks_findIn X iC) (fun self => bind_fn X self tI) hz ?_
  refine I _ _ ⟨(hp.push (kdv_tup rest)).push (excO C hp.objs.size), g, dr, tk, os⟩ (hp.objs.size + 1) hp.objs.size (M.keeps k) hget hnx ?_ fun h' tk' d ⟨k', ⟨t1, hx⟩, hd⟩ ho => ?_
  · show A.depth + 1 < recursionLimit
    exact hroom
  · have old : ∀ b o, hp.get? b = some o → h'.get? b = some o := fun b o e => k' b o (Nat.ne_of_lt (Nat.lt_succ_of_lt (Heap.lt_size e))) (k b o e)
    refine ⟨rfl, hq h' tk' (hp.objs.size + 1) d ⟨old, Nat.le_succ _, ⟨_, _, hx, rfl, rfl, rfl, rfl, rfl⟩, fun dx e => ?_⟩ ho⟩
    obtain ⟨dn, dne, hns⟩ := hd dx e
    have z : hp.objs.size + 1 + 1 ≤ dx := by
      first
        | (simpa only [Heap.size_push] using dn)
        | exact dn
        | (have q := dn; rw [Heap.size_push, Heap.size_push] at q; exact q)
    exact ⟨Nat.le_trans (Nat.le_trans (Nat.le_succ _) (Nat.le_succ _)) z, dne, hns⟩
end
end OwnX
end PySem
namespace L2
open PySem PySem.Spec PyProof.Rows
/-- a class of errors of the program, called x, at C, its __init__ at fI -/
structure ErrK (P : Program) (K : PySem.W.Frag) (mg : Str → Option Value) (x : Str) (C fI : Addr) : Prop where
  gC : mg x = some (.ref C)
  T : PySem.OwnX.ErrC P K C
  kC : PySem.W.keepIn K (.ref C) = true
  exC : PySem.W.subIn K (.ref C) (.type "BaseException") = some true
  tyC : PySem.W.typeIn K (.ref C) = some (.type "type")
  iC : PySem.W.findIn K (.ref C) "__init__" = some (some (.ref fI))
  tI : PySem.W.typeIn K (.ref fI) = some (.type "function")
  sup : mg "super" = none
theorem relO_list : ∀ {fs : List (Str × V)} {us : List (Str × Value)}, KV fs us → ∀ f, RelO (fs.lookup f) (us.lookup f)
  | _, _, .nil, f => trivial
  | (a, v) :: fs, (b, u) :: us, .cons ⟨e, r⟩ t, f => by
    have e' : a = b := e
    subst e'
    by_cases h : f = a
    · subst h
      simp only [List.lookup, beq_self_eq_true]
      exact r
    · have z : (f == a) = false := by simpa using h
      simp only [List.lookup, z]
      exact relO_list t f
section
variable {X : Cx} {C fI : Addr} {x : Str}
theorem Inv.modS {pins : List (Addr × Obj)} {σ : St} {H : Hp} {s : Shared} (I : Inv X pins σ H s) (h : X.mg "super" = none) : PySem.OwnX.ModS X.K X.mg s.heap := by
  obtain ⟨mb, b1, b2⟩ := I.ok.mod.blt
  exact ⟨I.kIn, I.nolimit, I.ok.mod.glob.at fun o q => I.bk _ _ q, ⟨mb, b1.at fun o q => I.bk _ _ q, b2⟩, h⟩
/-- x(e, ..): fs tells the fields off the arguments; ok what is asked of them -/
def tMkE (C : Addr) (ok : List V → Prop) (fs : List V → List (Str × V)) (ta : TA) : St → Hp → XK → Prop := fun σ H Q => ta σ H fun vs H1 => ok vs ∧ ∀ d, H1 d = none → Q (.ref C) (some d) (upd H1 d (.xd (fs vs)))
theorem pmk_err {a : Expr} {as : List Expr} {ta : TA} {p pos : Pos} {k : Nat} {ok : List V → Prop} {fs : List V → List (Str × V)} (T : ErrK X.prog X.K X.mg x C fI)
    (hi : ∀ vs us, Vals vs us → ok vs → us.length ≤ sizeLine ∧ ∃ ufs, KV (fs vs) ufs ∧ PySem.OwnX.InitOk X.prog X.w X.K X.mg C fI us ufs true)
    (hr : Room k X.A) (ha : PA X (a :: as) ta) (hg : Gl X x) (hdb : (x == ("__debug__" : Str)) = false := by decide)
    (he : starEach (a :: as) X.env = (false, eval a X.env) :: starEach as X.env := by rfl) (hpl : (backTo pos (starEach as X.env)).any (·.1) = false := by rfl) :
    L2N.PMk X (.Call (.Name x p) (a :: as) [] pos) (tMkE C ok fs ta) := by
  intro pins s σ H Q I h
  refine wpAny_Call_Name_kw (ld_glob I hg T.gC ?_ hdb)
  refine PySem.W.callWith_K (h₀ := X.base) I.ok.mod.kin T.kC (thn (ha.run pos pins s σ H _ I h) fun us s1 hh => ?_) he hpl
  obtain ⟨vs, H1, I1, r1, hok, q1⟩ := hh
  obtain ⟨hz, ufs, kv, hin⟩ := hi vs us r1 hok
  refine ⟨I1.kIn, ?_⟩
  show wpAny _ _ (call (.ref C) us) _ _ _
  have M0 := I1.modS T.sup
  obtain ⟨hp, g, dr, tk, os⟩ := s1
  refine wpAny_call (PySem.OwnX.made T.T T.iC T.tI hin M0 (by have := hr.dp; omega) hz fun h' tk' e d M ho => ?_)
  show L2N.MkP X pins σ Q (.ref e) ⟨h', g, dr, tk', os⟩
  obtain ⟨oe, fv, hoe, hc, hd, hdat, h1, h2⟩ := M.obj
  cases d with
  | none => cases ho
  | some d =>
    obtain ⟨dbig, dne, hns⟩ := M.own d rfl
    obtain ⟨G', g1, g2⟩ := restrict h' fun b => decide (b ≠ e)
    have gk : ∀ b, b ≠ e → G'.get? b = h'.get? b := fun b hb => g1 b (decide_eq_true hb)
    have ge : G'.get? e = none := g2 e (by simp)
    have old : ∀ b o, hp.get? b = some o → G'.get? b = some o := fun b o q => (gk b (Nat.ne_of_lt (Nat.lt_of_lt_of_le (Heap.lt_size q) M.new))).trans (M.keep b o q)
    have ob : ObjOk X.prog X.w (upd H1 d (.xd (fs vs))) G' d (.xd (fs vs)) :=
      ⟨_, hns.at (fun o q => (gk d dne).trans q), fun f => relO_list kv f⟩
    have J : Inv X pins σ (upd H1 d (.xd (fs vs))) ⟨G', g, dr, tk', os⟩ := I1.laid (t' := tk') old dbig ob
    refine ⟨e, oe, fv, ⟨G', g, dr, tk', os⟩, _, .ref C, some d, rfl, J, fun b o q => ?_, ge, hoe, ⟨hc, hd, fun z hz => by rw [hdat] at hz; cases hz; exact h2⟩, hdat, h1, ?_, rfl, I1.bare, raises_own T.exC T.tyC, q1 d (I1.hok.fresh dbig)⟩
    · by_cases hb : b = e
      · have q' : G'.get? b = some o := q
        rw [hb, ge] at q'; cases q'
      · exact (gk b hb).symm.trans q
    · rw [upd_ne (Ne.symm dne)]
      exact I1.hok.fresh M.new
end
end L2

/-! the classes of errors of the program, as a def of the text meets them -/
namespace PySem
namespace OwnX
open PySem.W PySem.Calls PyProof.Rows PySem.HandSPX
/-- what is asked of the text -/
structure ShapeOk (p2 p3 : Pos) (y : Str) : Prop where
  pos : (p2.endLine == p3.line) = true
  len : y.length ≤ 1000
structure Bd1 (qual : Str) (ar : Arguments) (body : List Stmt) (sc : Scope) (f1 : Str) : Prop where
  b : ∀ (kV doc pm : Value) (an : Option Addr) (cda : Addr) (ct : Value) (cc : Addr) (x v : Value), bindArgs (ksFn "__init__" qual ar body sc .none kV doc pm an (.ref cda) ct cc) ⟨[x, v], []⟩ = pure [(("self" : Str), x), (f1, v)]
structure Bd2 (qual : Str) (ar : Arguments) (body : List Stmt) (sc : Scope) (f1 f2 : Str) : Prop where
  b : ∀ (kV doc pm : Value) (an : Option Addr) (cda : Addr) (ct : Value) (cc : Addr) (x v u : Value), bindArgs (ksFn "__init__" qual ar body sc .none kV doc pm an (.ref cda) ct cc) ⟨[x, v, u], []⟩ = pure [(("self" : Str), x), (f1, v), (f2, u)]
structure Bd0 (qual : Str) (ar : Arguments) (body : List Stmt) (sc : Scope) : Prop where
  b : ∀ (kV doc pm : Value) (an : Option Addr) (cda : Addr) (ct : Value) (cc : Addr) (x : Value), bindArgs (ksFn "__init__" qual ar body sc .none kV doc pm an (.ref cda) ct cc) ⟨[x], []⟩ = pure [(("self" : Str), x)]
/-- __init__ with one field: its text -/
def Sh1 (st : Stmt) (f1 : Str) (c1 : Int) (qual : Str) : Prop := ∃ (y1 : Str) (j1 : Nat) (a0 a1 a2 a3 p0 p1 p2 p3 p4 p5 p6 q1 q2 q3 q4 : Pos),
  L2.defArgs st = args_ [arg_ "self" p5, arg_ f1 p6] ∧ L2.defBody st = [supCall (txt1 y1 c1 f1 j1 a0 a1 a2 a3) p0 p1 p2 p3 p4, setSelf f1 q1 q2 q3 q4] ∧ L2.defScope st = scope1 f1 ∧ ShapeOk p2 p3 y1 ∧ Bd1 qual (L2.defArgs st) (L2.defBody st) (L2.defScope st) f1
def Sh2 (st : Stmt) (f1 : Str) (c1 : Int) (f2 : Str) (c2 : Int) (qual : Str) : Prop := ∃ (y1 y2 : Str) (j1 j2 : Nat) (a0 a1 a2 b0 b1 b2 a3 p0 p1 p2 p3 p4 p5 p6 p7 q1 q2 q3 q4 r1 r2 r3 r4 : Pos),
  L2.defArgs st = args_ [arg_ "self" p5, arg_ f1 p6, arg_ f2 p7] ∧ L2.defBody st = [supCall (txt2 y1 c1 f1 y2 c2 f2 j1 j2 a0 a1 a2 b0 b1 b2 a3) p0 p1 p2 p3 p4, setSelf f1 q1 q2 q3 q4, setSelf f2 r1 r2 r3 r4] ∧ L2.defScope st = scope2 f1 f2 ∧ ShapeOk p2 p3 y1 ∧ y2.length ≤ 1000 ∧ Bd2 qual (L2.defArgs st) (L2.defBody st) (L2.defScope st) f1 f2
def Sh0 (st : Stmt) (qual : Str) : Prop := ∃ (y1 : Str) (j1 : Nat) (a0 p0 p1 p2 p3 p4 p5 : Pos),
  L2.defArgs st = args_ [arg_ "self" p5] ∧ L2.defBody st = [supCall (.Constant (.str y1) j1 a0) p0 p1 p2 p3 p4] ∧ L2.defScope st = scope0 ∧ (p2.endLine == p3.line) = true ∧ Bd0 qual (L2.defArgs st) (L2.defBody st) (L2.defScope st)
section
variable {prog : Program} {w : World} {K : Frag} {mg : Str → Option Value} {C fI : Addr} {st : Stmt} {qual f1 f2 : Str} {c1 c2 : Int}
theorem initOk1 (T : ErrC prog K C) (F : ErrF prog K C fI qual (L2.defArgs st) (L2.defBody st) (L2.defScope st)) (S : ErrS K C [f1]) (sh : Sh1 st f1 c1 qual) (nf : NmOk f1) {v : Value} (fm : FmV c1 v) : InitOk prog w K mg C fI [v] [(f1, v)] true := by
  obtain ⟨y1, j1, a0, a1, a2, a3, p0, p1, p2, p3, p4, p5, p6, q1, q2, q3, q4, ea, eb, es, so, bd⟩ := sh
  rw [ea, eb, es] at F bd
  exact fun A R s x t0 M hx hnx hr hq => init1 T F S nf M hx hnx hr so.pos fm so.len bd.b fun h' tk d e => hq h' tk (some d) e rfl
theorem initOk2 (T : ErrC prog K C) (F : ErrF prog K C fI qual (L2.defArgs st) (L2.defBody st) (L2.defScope st)) (S : ErrS K C [f1, f2]) (sh : Sh2 st f1 c1 f2 c2 qual) (nf : NmOk f1) (nf2 : NmOk f2) (ne : (f1 == f2) = false) (ne2 : (f2 == f1) = false) {v u : Value} (fm : FmV c1 v) (fm2 : FmV c2 u) :
    InitOk prog w K mg C fI [v, u] [(f2, u), (f1, v)] true := by
  obtain ⟨y1, y2, j1, j2, a0, a1, a2, b0, b1, b2, a3, p0, p1, p2, p3, p4, p5, p6, p7, q1, q2, q3, q4, r1, r2, r3, r4, ea, eb, es, so, so2, bd⟩ := sh
  rw [ea, eb, es] at F bd
  exact fun A R s x t0 M hx hnx hr hq => init2 T F S nf nf2 ne ne2 M hx hnx hr so.pos fm fm2 so.len so2 bd.b fun h' tk d e => hq h' tk (some d) e rfl
theorem initOk0 (T : ErrC prog K C) (F : ErrF prog K C fI qual (L2.defArgs st) (L2.defBody st) (L2.defScope st)) (sh : Sh0 st qual) : InitOk prog w K mg C fI [] [] false := by
  obtain ⟨y1, j1, a0, p0, p1, p2, p3, p4, p5, ea, eb, es, so, bd⟩ := sh
  rw [ea, eb, es] at F bd
  exact fun A R s x t0 M hx hnx hr hq => init0 T F M hx hnx hr so bd.b fun h' tk e => hq h' tk none e rfl
end
end OwnX
end PySem
namespace L2
open PySem PySem.Spec PyProof.Rows PySem.OwnX
/-- what an f-string may hold of a value -/
def FmX (c : Int) : V → Prop
  | .str z => (c = 114 ∧ (reprText z).length ≤ 7000000) ∨ (c = -1 ∧ z.length ≤ 7000000)
  | .int i => c = -1 ∧ i.natAbs.log2 < 1920
  | _ => False
theorem FmX.v {c : Int} {v : V} {u : Value} (h : FmX c v) (r : RelV v u) : FmV c u := by
  cases v with
  | str z =>
    obtain ⟨t, rfl⟩ := r
    exact h
  | int i =>
    obtain ⟨t, rfl⟩ := r
    exact h
  | _ => exact h.elim
/-- all that is told of a class of errors: C, ForkError-like bases within bm -/
structure ErrA (P : Program) (K : PySem.W.Frag) (mg : Str → Option Value) (x : Str) (C fI : Addr) (fs : List Str) : Prop where
  k : ErrK P K mg x C fI
  s : ErrS K C fs
  x : XfC K C
  i : ExcC K C
structure Err1 (P : Program) (K : PySem.W.Frag) (mg : Str → Option Value) (x : Str) (C : Addr) (f1 : Str) (c1 : Int) : Prop where
  ex : ∃ (fI : Addr) (qual : Str) (st : Stmt), ErrA P K mg x C fI [f1] ∧ ErrF P K C fI qual (defArgs st) (defBody st) (defScope st) ∧ Sh1 st f1 c1 qual
  nf : NmOk f1
structure Err2 (P : Program) (K : PySem.W.Frag) (mg : Str → Option Value) (x : Str) (C : Addr) (f1 : Str) (c1 : Int) (f2 : Str) (c2 : Int) : Prop where
  ex : ∃ (fI : Addr) (qual : Str) (st : Stmt), ErrA P K mg x C fI [f1, f2] ∧ ErrF P K C fI qual (defArgs st) (defBody st) (defScope st) ∧ Sh2 st f1 c1 f2 c2 qual
  nf : NmOk f1 ∧ NmOk f2 ∧ (f1 == f2) = false ∧ (f2 == f1) = false
structure Err0 (P : Program) (K : PySem.W.Frag) (mg : Str → Option Value) (x : Str) (C : Addr) : Prop where
  ex : ∃ (fI : Addr) (qual : Str) (st : Stmt), ErrA P K mg x C fI [] ∧ ErrF P K C fI qual (defArgs st) (defBody st) (defScope st) ∧ Sh0 st qual
section
variable {X : Cx} {C : Addr} {x f1 f2 : Str} {c1 c2 : Int}
def ok1 (c : Int) (vs : List V) : Prop := ∃ v, vs = [v] ∧ FmX c v
def fs1 (f : Str) : List V → List (Str × V)
  | [v] => [(f, v)]
  | _ => []
def ok2 (c d : Int) (vs : List V) : Prop := ∃ v u, vs = [v, u] ∧ FmX c v ∧ FmX d u
def fs2 (f g : Str) : List V → List (Str × V)
  | [v, u] => [(g, u), (f, v)]
  | _ => []
theorem pmk_err1 {a : Expr} {as : List Expr} {ta : TA} {p pos : Pos} {k : Nat} (T : Err1 X.prog X.K X.mg x C f1 c1) (hr : Room k X.A) (ha : PA X (a :: as) ta) (hg : Gl X x := by rfl) (hdb : (x == ("__debug__" : Str)) = false := by decide)
    (he : starEach (a :: as) X.env = (false, eval a X.env) :: starEach as X.env := by rfl) (hpl : (backTo pos (starEach as X.env)).any (·.1) = false := by rfl) : L2N.PMk X (.Call (.Name x p) (a :: as) [] pos) (tMkE C (ok1 c1) (fs1 f1) ta) := by
  obtain ⟨fI, qual, st, EA, F, sh⟩ := T.ex
  refine pmk_err EA.k (fun vs us r hok => ?_) hr ha hg hdb he hpl
  obtain ⟨v, rfl, fm⟩ := hok
  cases r with
  | cons r1 r2 =>
    cases r2
    exact ⟨one_size _, _, .cons ⟨rfl, r1⟩ .nil, initOk1 EA.k.T F EA.s sh T.nf (fm.v r1)⟩
theorem pmk_err2 {a : Expr} {as : List Expr} {ta : TA} {p pos : Pos} {k : Nat} (T : Err2 X.prog X.K X.mg x C f1 c1 f2 c2) (hr : Room k X.A) (ha : PA X (a :: as) ta) (hg : Gl X x := by rfl) (hdb : (x == ("__debug__" : Str)) = false := by decide)
    (he : starEach (a :: as) X.env = (false, eval a X.env) :: starEach as X.env := by rfl) (hpl : (backTo pos (starEach as X.env)).any (·.1) = false := by rfl) : L2N.PMk X (.Call (.Name x p) (a :: as) [] pos) (tMkE C (ok2 c1 c2) (fs2 f1 f2) ta) := by
  obtain ⟨fI, qual, st, EA, F, sh⟩ := T.ex
  refine pmk_err EA.k (fun vs us r hok => ?_) hr ha hg hdb he hpl
  obtain ⟨v, u, rfl, fm, fm2⟩ := hok
  cases r with
  | cons r1 r2 =>
    cases r2 with
    | cons r2 r3 =>
      cases r3
      exact ⟨by rw [sizeLine_eq]; show 2 ≤ 16777216; decide, _, .cons ⟨rfl, r2⟩ (.cons ⟨rfl, r1⟩ .nil), initOk2 EA.k.T F EA.s sh T.nf.1 T.nf.2.1 T.nf.2.2.1 T.nf.2.2.2 (fm.v r1) (fm2.v r2)⟩
/-- x() -/
theorem pmk_err0 {p pos : Pos} {k : Nat} (T : Err0 X.prog X.K X.mg x C) (hr : Room k X.A) (hg : Gl X x := by rfl) (hdb : (x == ("__debug__" : Str)) = false := by decide) : L2N.PMk X (.Call (.Name x p) [] [] pos) (fun _ H Q => Q (.ref C) none H) := by
  obtain ⟨fI, qual, st, EA, F, sh⟩ := T.ex
  intro pins s σ H Q I h
  refine wpAny_Call_Name_kw (ld_glob I hg EA.k.gC ?_ hdb)
  have M0 := I.modS EA.k.sup
  have hin := initOk0 (w := X.w) (mg := X.mg) EA.k.T F sh
  refine PySem.W.callWith_K0 I.kIn EA.k.kC ?_
  obtain ⟨hp, g, dr, tk, os⟩ := s
  refine wpAny_call (PySem.OwnX.made EA.k.T EA.k.iC EA.k.tI hin M0 (by have := hr.dp; omega) (Nat.zero_le _) fun h' tk' e d M ho => ?_)
  show L2N.MkP X pins σ Q (.ref e) ⟨h', g, dr, tk', os⟩
  obtain ⟨oe, fv, hoe, hc, hd, hdat, h1, h2⟩ := M.obj
  cases d with
  | some d => cases ho
  | none =>
    obtain ⟨G', g1, g2⟩ := restrict h' fun b => decide (b ≠ e)
    have gk : ∀ b, b ≠ e → G'.get? b = h'.get? b := fun b hb => g1 b (decide_eq_true hb)
    have ge : G'.get? e = none := g2 e (by simp)
    have old : ∀ b o, hp.get? b = some o → G'.get? b = some o := fun b o q => (gk b (Nat.ne_of_lt (Nat.lt_of_lt_of_le (Heap.lt_size q) M.new))).trans (M.keep b o q)
    have J : Inv X pins σ H ⟨G', g, dr, tk', os⟩ := I.kept (t' := tk') old
    refine ⟨e, oe, fv, ⟨G', g, dr, tk', os⟩, _, .ref C, none, rfl, J, fun b o q => ?_, ge, hoe, ⟨hc, hd, fun z hz => by rw [hdat] at hz; cases hz; exact h2⟩, hdat, h1, I.hok.fresh M.new, rfl, I.bare, raises_own EA.k.exC EA.k.tyC, h⟩
    by_cases hb : b = e
    · have q' : G'.get? b = some o := q
      rw [hb, ge] at q'; cases q'
    · exact (gk b hb).symm.trans q
end
/-- isinstance(e, c), e the exception that the suite holds, with a dict of its own -/
def rIsED (K : PySem.W.Frag) (D a : Addr) (d : Option Addr) : List V → Hp → VK → Prop := fun xs H Q => ∃ (c : V) (cv : Value) (b : Bool), xs = [.ref a, c] ∧ (∀ u, RelV c u → u = cv) ∧ PySem.W.kitOne K (.ref D) cv = some b ∧ (∀ dd, d = some dd → ∃ fs, H dd = some (.xd fs)) ∧ Q (.bl b) H
theorem call_isED {X : Cx} {a D : Addr} {oe : Obj} {d : Option Addr} {pn : List (Addr × Obj)} (C : ExcC X.K D) (hz : Zc (.ref D) d oe) (hf : ∃ vs, oe.data = .fields vs) : CallR (X.suite a ((a, oe) :: pn)) (.builtin "isinstance") (rIsED X.K D a d) := by
  intro pins s σ H xs us Q I r h
  obtain ⟨c, cv, b, rfl, hcv, e, hd, q⟩ := h
  cases r with
  | cons rx rr =>
    cases rr with
    | cons rt rr =>
      cases rr
      cases rx
      have ec := hcv _ rt
      subst ec
      obtain ⟨hget, _⟩ := I.pin (a, oe) (List.mem_append.mpr (.inl List.mem_cons_self))
      obtain ⟨vs, hv⟩ := hf
      have hcl : (PySem.W.clsIn X.K D).isSome = true := by
        obtain ⟨cd, hc, _⟩ := PySem.W.any_some C.hd
        rw [hc]
        rfl
      obtain ⟨od, J⟩ : ∃ od, PySem.W.InstAt s.heap a oe D od := by
        obtain ⟨oc, od, oda, osl⟩ := oe
        obtain ⟨h1, h2⟩ := hz
        dsimp only at h1 h2 hv
        subst h1 h2 hv
        cases od with
        | none => exact ⟨none, hget, rfl, rfl, trivial⟩
        | some dd =>
          obtain ⟨fs, hdd⟩ := hd dd rfl
          obtain ⟨mA, ⟨o, es, ep, ho, _⟩, _⟩ := I.hok dd _ hdd
          exact ⟨some o, hget, rfl, rfl, ho⟩
      exact PySem.W.kia_one (PySem.W.kitx_exc hcl C.hg C.hk C.hs C.ha C.hn C.ht C.hm) I.kIn J e (fun z => nomatch z) fun tk => ⟨.bl b, H, I.kept (t' := tk) fun _ _ z => z, rfl, q⟩
/-- .. whatever its class: the reading tells it -/
def rIsEA (K : PySem.W.Frag) (cls : Value) (a : Addr) (d : Option Addr) : List V → Hp → VK → Prop := fun xs H Q => ∃ D, cls = .ref D ∧ ExcC K D ∧ rIsED K D a d xs H Q
theorem call_isEA {X : Cx} {a : Addr} {oe : Obj} {cls : Value} {d : Option Addr} {pn : List (Addr × Obj)} (hz : L2N.Zn cls d oe) (hf : ∃ vs, oe.data = .fields vs) : CallR (X.suite a ((a, oe) :: pn)) (.builtin "isinstance") (rIsEA X.K cls a d) := by
  intro pins s σ H xs us Q I r h
  obtain ⟨D, rfl, c, q⟩ := h
  exact call_isED c hz.zc hf pins s σ H xs us Q I r q
/-- e.n, whatever its class -/
def tXfA (K : PySem.W.Frag) (a : Addr) (cls : Value) (d : Option Addr) (n : Str) (te : TE) : TE := fun σ H Q => ∃ C, cls = .ref C ∧ XfC K C ∧ PySem.W.findIn K (.ref C) n = some none ∧ tXf a cls d C n te σ H Q
theorem pe_xfA {X : Cx} {a : Addr} {oe : Obj} {cls : Value} {d : Option Addr} {pn : List (Addr × Obj)} {e : Expr} {te : TE} {pos : Pos} {n : Str} (hz : L2N.Zn cls d oe) (hf : ∃ vs, oe.data = .fields vs) (he : PE (X.suite a ((a, oe) :: pn)) e te) (hb : attributeBase e n X.env (eval e X.env) = eval e X.env := by rfl) :
    PE (X.suite a ((a, oe) :: pn)) (.Attribute e n pos) (tXfA X.K a cls d n te) := by
  refine ⟨fun pins s σ H Q I h => ?_⟩
  obtain ⟨C, rfl, T, no, q⟩ := h
  exact (pe_xf T no hz.zc hf he hb).run pins s σ H Q I q
/-- a def that may raise, as a constant of the module -/
structure CalX (P : Program) (w : World) (K : PySem.W.Frag) (mg : Str → Option Value) (base : Heap) (k : Nat) (x : Str) (sp : Sp) : Prop where
  ex : ∃ (f : Addr) (fd : FuncData) (ps : List Str), FnOk P w K mg base (L2N.CX P w) k f fd ps sp ∧ mg x = some (.ref f) ∧ PySem.W.keepIn K (.ref f) = true ∧ Binds K fd ps []
theorem pe_cX {X : Cx} {j k : Nat} {x : Str} {sp : Sp} {W : WX} {e : Expr} {es : List Expr} {t : TA} {p pos : Pos} (c : CalX X.prog X.w X.K X.mg X.base k x sp) (hr : Room j X.A) (hk : k ≤ j) (hg : Gl X x) (tk : L2N.Takes X W) (ha : PA X (e :: es) t)
    (hdb : (x == ("__debug__" : Str)) = false := by decide) (he : starEach (e :: es) X.env = (false, eval e X.env) :: starEach es X.env := by rfl) (hpl : (backTo pos (starEach es X.env)).any (·.1) = false := by rfl) : PE X (.Call (.Name x p) (e :: es) [] pos) (tCallS sp (WE W) t) := by
  obtain ⟨f, fd, ps, F, hm, kp, b⟩ := c.ex
  exact pe_callS F (hr.mono hk) hg hm kp b (fun σ => L2N.passAt tk σ) ha hdb he hpl
/-- of a class in an except clause or as a value -/
theorem Err1.g {P : Program} {K : PySem.W.Frag} {mg : Str → Option Value} {x f : Str} {C : Addr} {c : Int} (T : Err1 P K mg x C f c) : mg x = some (.ref C) := by
  obtain ⟨fI, q, st, EA, _⟩ := T.ex
  exact EA.k.gC
theorem Err2.g {P : Program} {K : PySem.W.Frag} {mg : Str → Option Value} {x f g : Str} {C : Addr} {c d : Int} (T : Err2 P K mg x C f c g d) : mg x = some (.ref C) := by
  obtain ⟨fI, q, st, EA, _⟩ := T.ex
  exact EA.k.gC
theorem Err0.g {P : Program} {K : PySem.W.Frag} {mg : Str → Option Value} {x : Str} {C : Addr} (T : Err0 P K mg x C) : mg x = some (.ref C) := by
  obtain ⟨fI, q, st, EA, _⟩ := T.ex
  exact EA.k.gC
theorem Err1.a {P : Program} {K : PySem.W.Frag} {mg : Str → Option Value} {x f : Str} {C : Addr} {c : Int} (T : Err1 P K mg x C f c) : XfC K C ∧ ExcC K C ∧ PySem.W.findIn K (.ref C) f = some none := by
  obtain ⟨fI, q, st, EA, _⟩ := T.ex
  exact ⟨EA.x, EA.i, EA.s.no f (by simp)⟩
theorem Err2.a {P : Program} {K : PySem.W.Frag} {mg : Str → Option Value} {x f g : Str} {C : Addr} {c d : Int} (T : Err2 P K mg x C f c g d) : XfC K C ∧ ExcC K C ∧ PySem.W.findIn K (.ref C) f = some none ∧ PySem.W.findIn K (.ref C) g = some none := by
  obtain ⟨fI, q, st, EA, _⟩ := T.ex
  exact ⟨EA.x, EA.i, EA.s.no f (by simp), EA.s.no g (by simp)⟩
theorem Err0.a {P : Program} {K : PySem.W.Frag} {mg : Str → Option Value} {x : Str} {C : Addr} (T : Err0 P K mg x C) : XfC K C ∧ ExcC K C := by
  obtain ⟨fI, q, st, EA, _⟩ := T.ex
  exact ⟨EA.x, EA.i⟩
/-- the promise of a def that may raise, by its body -/
theorem Fun.okN {P : Program} {w : World} {K : PySem.W.Frag} {mg : Str → Option Value} {base : Heap} {x qual : Str} {st : Stmt} {f : Addr} {fd : FuncData} {N ps : List Str} {k : Nat} {sp : Sp} (F : Fun K x qual st f fd) (sc : FnScope N ps (defScope st)) (hl : ∀ vs H Q E, sp vs H Q E → vs.length = ps.length)
    (body : ∀ (cdv : Value) (A : Around) (outer : List Env) (s : Shared) (H : Hp) (vs : List V) (Q : VK) (E : XK), Room k (A.deeper (envOfC qual (defScope st) s.heap.objs.size f cdv)) → sp vs H Q E →
      ∃ t, PSs (cxOf (L2N.CX P w) P w K mg base N qual (defScope st) f cdv A outer s H E) (defBody st) t ∧ t { nx := fun _ H' => Q .non H', rt := Q } (start N vs) H) :
    FnOk P w K mg base (L2N.CX P w) (k + 1) f fd ps sp := by
  obtain ⟨_, _, _, _, _, _, cdv, _, _, rfl, look, code⟩ := F.ex
  exact fn_of look code sc hl (body cdv)
end L2

/-! several except clauses, each with a name or without -/
namespace Fx
open PySem PySem.Spec PyProof.Rows L2
/-- a clause: the class it names, the slot of its name, what its suite asks -/
structure Cl where
  c : Value
  slot : Option Nat
  ts : Addr → Value → Option Addr → TS
def Cl.put (q : Cl) (σ : L2.St) (a : Addr) : L2.St := match q.slot with
  | none => σ
  | some i => σ.set i (some (.ref a))
def Cl.gone (q : Cl) (σ : L2.St) : L2.St := match q.slot with
  | none => σ
  | some i => σ.set i none
def Cl.ends (q : Cl) (D : Ends) : Ends := { nx := fun σ H => D.nx (q.gone σ) H, rt := D.rt, bk := fun σ H => D.bk (q.gone σ) H, ct := fun σ H => D.ct (q.gone σ) H }
/-- what is wished of an exception of the body, clause by clause -/
def wish (K : PySem.W.Frag) (W0 : WX) (D : Ends) : List Cl → WX
  | [] => W0
  | q :: r => fun cls d σ H => ∃ b, PySem.W.exmOne K cls q.c = some b ∧ (b = true → ∀ a, H a = none → q.ts a cls d (q.ends D) (q.put σ a) H) ∧ (b = false → wish K W0 D r cls d σ H)
/-- a try as a statement's reading -/
def tTry (K : PySem.W.Frag) (W0 : WX) (l : List Cl) (tb : WX → TS) : TS := fun D σ H => tb (wish K W0 D l) D σ H
def SuiteOk (X : Cx) (q : Cl) (suite : List Stmt) : Prop := ∀ (a : Addr) (oe : Obj) (cls : Value) (d : Option Addr) (pn : List (Addr × Obj)), L2N.Zn cls d oe → (∃ vs, oe.data = .fields vs) → ∃ t, PSs (X.suite a ((a, oe) :: pn)) suite t ∧ t = q.ts a cls d
inductive ClsOk (X : Cx) : List ExceptHandler → List Cl → Prop
  | nil : ClsOk X [] []
  | bare {x : Str} {c : Value} {ts : Addr → Value → Option Addr → TS} {b0 : Stmt} {suite : List Stmt} {np pos' : Pos} {hs : List ExceptHandler} {l : List Cl} (hc : Names X x c) (hsu : SuiteOk X ⟨c, none, ts⟩ (b0 :: suite)) (r : ClsOk X hs l) :
      ClsOk X (.ExceptHandler (some (.Name x np)) none (b0 :: suite) pos' :: hs) (⟨c, none, ts⟩ :: l)
  | named {x n : Str} {c : Value} {i : Nat} {ts : Addr → Value → Option Addr → TS} {b0 : Stmt} {suite : List Stmt} {np pos' : Pos} {hs : List ExceptHandler} {l : List Cl} (hN : X.N.Nodup) (hi : X.N[i]? = some n) (hl : X.env.kindOf n = some .local) (hc : Names X x c) (hsu : SuiteOk X ⟨c, some i, ts⟩ (b0 :: suite)) (r : ClsOk X hs l) :
      ClsOk X (.ExceptHandler (some (.Name x np)) (some n) (b0 :: suite) pos' :: hs) (⟨c, some i, ts⟩ :: l)
section
variable {X : Cx} {pins : List (Addr × Obj)} {D : Ends} {W0 : WX}
/-- the exception at a, of the class cls, its dict at d, caught by this frame: in flight over the ground B -/
structure Held (X : Cx) (pins : List (Addr × Obj)) (a : Addr) (B : Heap) (cls : Value) (d : Option Addr) (σ : L2.St) (H : Hp) (sI s : Shared) : Prop where
  st : X.stack = X.env :: X.outer
  fr : X.env.frame = some X.env.locals
  inv : Inv X pins σ H sI
  nb : ∀ b o, sI.heap.get? b = some o → b ∉ frs X.stack → B.get? b = some o
  up : sI.heap.UpToSlots s.heap
  fly : HandSPX.FlyingZ B (X.env :: X.outer) a (L2N.Zn cls d) s.heap
  na : H a = none
  os : s.os = sI.os
  ag : AllBare s.gens
variable {a : Addr} {B : Heap} {cls : Value} {d : Option Addr} {σ : L2.St} {H : Hp} {sI s : Shared}
theorem Held.moved {h4 : Heap} (h : Held X pins a B cls d σ H sI s) (f : HandSPX.FlyingZ B (X.env :: X.outer) a (L2N.Zn cls d) h4) (u : s.heap.UpToSlots h4) : Held X pins a B cls d σ H sI { s with heap := h4 } :=
  ⟨h.st, h.fr, h.inv, h.nb, h.up.trans u, f, h.na, h.os, h.ag⟩
/-- what the suite's context asks -/
theorem Held.look (h : Held X pins a B cls d σ H sI s) : ∃ oe vs, s.heap.get? a = some oe ∧ L2N.Zn cls d oe ∧ oe.data = .fields vs ∧ Inv X pins σ H s ∧ Inv (X.suite a ((a, oe) :: (X.pn ++ pins))) [] σ H s := by
  obtain ⟨oe, vs, he, hz, hd⟩ := h.fly.there
  have J := h.inv.landed h.nb h.fly.1 h.up h.os h.ag
  have out : ∀ b ∈ frs (X.env :: X.outer), b ≠ a := fun b hb e => by
    subst e
    obtain ⟨_, o, ho, hn⟩ := h.fly.2.2.1.mem hb
    rw [he] at ho
    cases ho
    exact hn _ hd
  have n1 : a ≠ X.env.locals := fun e => out X.env.locals (List.mem_filterMap.mpr ⟨X.env, List.mem_cons_self, h.fr⟩) e.symm
  have n2 : a ∉ X.fs := fun hm => by
    obtain ⟨e, h1, h2⟩ := List.mem_filterMap.mp hm
    exact out a (List.mem_filterMap.mpr ⟨e, List.mem_cons_of_mem _ h1, h2⟩) rfl
  exact ⟨oe, vs, he, hz, hd, J, J.suite he hd h.na n1 n2⟩
/-- no clause takes it: it flies on -/
theorem Held.on (h : Held X pins a B cls d σ H sI s) (tk : L2N.Takes X W0) (w : W0 cls d σ H) : wpAny (model X.prog X.w) X.A (handleBy (.ref a) X.env []) (SP X pins D) X.xe s := by
  refine wpAny_handleBy_nil ?_
  obtain ⟨oe, vs, T, oT, ts, he, hz, hd, h1, hr⟩ := h.fly.2.2.2
  unfold PySem.passOn
  refine wpAny_bind (wpAny_field he hd h1 ?_)
  rw [if_neg (show ¬ ((Value.ref T == Value.none) = true) by simp)]
  have last : wpAny (model X.prog X.w) X.A (setFlight (.ref a) X.env.frame) (fun _ s4 => wpAny (model X.prog X.w) X.A (throw (.ref a) : Sem Flow) (SP X pins D) X.xe s4) X.xe s := by
    rw [h.fr]
    refine HandSPX.setFlight_upZ h.fly fun h4 k4 u4 => wpAny_throw (tk _ _ ⟨a, B, sI, pins, σ, H, cls, d, rfl, h.inv, h.nb, h.up.trans u4, ?_, h.na, h.os, h.ag, w⟩)
    rw [h.st]
    exact .inr (.inr k4)
  first
    | exact wpAny_bind (wpAny_pure (wpAny_bind last))
    | exact wpAny_bind last
/-- the clause's class is asked -/
theorem Held.test {x : Str} {c : Value} {np : Pos} {b : Bool} {Q : Bool → Shared → Prop} {E : Value → Shared → Prop} (h : Held X pins a B cls d σ H sI s) (hc : Names X x c) : ∃ oe, Inv (X.suite a ((a, oe) :: (X.pn ++ pins))) [] σ H s ∧
    ∀ {Q : Value → Shared → Prop} {E : Value → Shared → Prop}, Q c s → wpAny (model X.prog X.w) (X.A.mark (some (.ref a))) (eval (.Name x np) X.env) Q E s := by
  obtain ⟨oe, vs, he, hz, hd, J, S⟩ := h.look
  refine ⟨oe, S, fun {Q E} q => ?_⟩
  obtain ⟨g, db, m | ⟨m, v, n⟩⟩ := hc
  · exact ld_glob (X := X.suite a ((a, oe) :: (X.pn ++ pins))) S g m q db
  · exact ld_blt (X := X.suite a ((a, oe) :: (X.pn ++ pins))) S g m v q n db
theorem Held.handled {hs : List ExceptHandler} {l : List Cl} (tk : L2N.Takes X W0) (ok : ClsOk X hs l) : ∀ {s : Shared}, Held X pins a B cls d σ H sI s → wish X.K W0 D l cls d σ H → wpAny (model X.prog X.w) X.A (handleBy (.ref a) X.env hs) (SP X pins D) X.xe s := by
  induction ok with
  | nil => exact fun {s} h w => h.on tk w
  | @bare x c ts b0 suite np pos' hs l hc hsu r ih =>
    intro s h w
    obtain ⟨b, hb, yes, no⟩ := w
    obtain ⟨oe, vs, he, hz, hd, J, S⟩ := h.look
    obtain ⟨_, _, test⟩ := Held.test (np := np) (b := b) (Q := fun _ _ => True) (E := fun _ _ => True) h hc
    have LT : PySem.W.Looks (model X.prog X.w) s.heap (typeOf (.ref a)) cls := fun A Q E s' k q => wpAny_typeOf_ref (k _ _ he) (by rw [hz.1]; exact q)
    have LM := PySem.W.exm_one (M := model X.prog X.w) J.kIn LT hb
    refine wpAny_handleBy_cons (codeAny_handlers_test (test (LM.here ?_))) (by intro q; cases q)
    cases b with
    | false => exact ih h (no rfl)
    | true =>
      refine codeAny_handlers_suite (HandSPX.lands_againZ h.fly fun h4 f4 u4 => ?_)
      have h' := h.moved f4 u4
      obtain ⟨oe4, vs4, he4, hz4, hd4, J4, S4⟩ := h'.look
      obtain ⟨t4, ht4, et4⟩ := hsu a oe4 cls d (X.pn ++ pins) hz4 ⟨_, hd4⟩
      rw [et4] at ht4
      refine wpAny_mono (ht4.run [] _ _ H _ S4 (yes rfl a h.na)) (fun f s6 q => ?_) (fun _ _ z => z.elim)
      have ok := h.inv.ok
      cases f with
      | ret u =>
        obtain ⟨v, σ6, H6, S6, r6, q6⟩ := q
        exact ⟨v, σ6, H6, S6.unsuite ok, r6, q6⟩
      | next | brk | cont =>
        obtain ⟨σ6, H6, S6, q6⟩ := q
        exact ⟨σ6, H6, S6.unsuite ok, q6⟩
  | @named x n c i ts b0 suite np pos' hs l hN hi hl hc hsu r ih =>
    intro s h w
    obtain ⟨b, hb, yes, no⟩ := w
    obtain ⟨oe, vs, he, hz, hd, J, S⟩ := h.look
    obtain ⟨_, _, test⟩ := Held.test (np := np) (b := b) (Q := fun _ _ => True) (E := fun _ _ => True) h hc
    have LT : PySem.W.Looks (model X.prog X.w) s.heap (typeOf (.ref a)) cls := fun A Q E s' k q => wpAny_typeOf_ref (k _ _ he) (by rw [hz.1]; exact q)
    have LM := PySem.W.exm_one (M := model X.prog X.w) J.kIn LT hb
    refine wpAny_handleBy_cons (codeAny_handlers_test (test (LM.here ?_))) (by intro q; cases q)
    cases b with
    | false => exact ih h (no rfl)
    | true =>
      refine codeAny_handlers_suite_as (HandSPX.lands_againZ h.fly fun h4 f4 u4 => ?_)
      have h' := h.moved f4 u4
      obtain ⟨oe4, vs4, he4, hz4, hd4, J4, S4⟩ := h'.look
      have ok := h.inv.ok
      refine store_ok (X := X.suite a ((a, oe4) :: (X.pn ++ pins))) (v := .ref a) S4 hN hi (.inl hl) rfl (fun s5 S5 => ?_) (.inr hl)
      obtain ⟨t4, ht4, et4⟩ := hsu a oe4 cls d (X.pn ++ pins) hz4 ⟨_, hd4⟩
      rw [et4] at ht4
      refine wpAny_mono (ht4.run [] s5 _ H _ S5 (yes rfl a h.na)) (fun f s6 q => ?_) (fun _ _ z => z.elim)
      cases f with
      | ret u =>
        obtain ⟨v, σ6, H6, S6, r6, q6⟩ := q
        exact gone_ok (S6.unsuite ok) hN hi hl fun s7 J7 => ⟨_, _, _, J7, r6, q6⟩
      | next | brk | cont =>
        obtain ⟨σ6, H6, S6, q6⟩ := q
        exact gone_ok (S6.unsuite ok) hN hi hl fun s7 J7 => ⟨_, _, J7, q6⟩
/-- try: body, several clauses -/
theorem ps_try_cl {body : List Stmt} {h0 : ExceptHandler} {hs : List ExceptHandler} {l : List Cl} {pos : Pos} {tb : WX → TS} (st : X.stack = X.env :: X.outer) (hf : X.env.frame = some X.env.locals) (tk : L2N.Takes X W0)
    (hb : ∀ (W : WX) (pn : List (Addr × Obj)) (xe : Value → Shared → Prop), L2N.Takes (X.tr pn xe) W → PassesOwn (model X.prog X.w) X.A X.env xe → PSs (X.tr pn xe) body (tb W))
    (hh : ClsOk X (h0 :: hs) l) : PS X (.Try body (h0 :: hs) [] [] pos) (tTry X.K W0 l tb) := by
  refine ⟨fun pins s σ H D I h => ?_⟩
  have ok := I.ok
  refine wpAny_Try_except (wpAny_mono ((hb (wish X.K W0 D l) (X.pn ++ pins) (fun e s1 => wpAny (model X.prog X.w) X.A (noteFrame e X.env) (fun _ s2 => wpAny (model X.prog X.w) X.A (setFlight e none) (fun _ s3 =>
    wpAny (model X.prog X.w) X.A (handleBy e X.env (h0 :: hs)) (SP X pins D) X.xe s3) X.xe s2) X.xe s1) (fun u s' x => ?_) PassesOwn.looking).run [] s σ H D (I.toTry _) h) (fun f s1 q => ?_) fun e s1 z => z)
  · obtain ⟨a, B, sI, pins', σ', H', cls, d, rfl, J', nb, up, sky, na, os, ag, w⟩ := x
    have sky' : Sky B (X.env :: X.outer) a (L2N.Zn cls d) X.env.locals s'.heap := by
      rw [← st]
      exact sky
    have hfr : X.A.frames = some (X.env :: X.outer) := by rw [ok.frames, st]
    refine L2N.Sky.land L2N.Zn.steady hfr hf sky' fun h3 f3 u3 => ?_
    exact Held.handled tk hh ⟨st, hf, J'.ofTry ok, nb, up.trans u3, f3, na, os, ag⟩ w
  · cases f with
    | next =>
      obtain ⟨σ', H', J', r⟩ := q
      exact wpAny_execs_nil ⟨σ', H', J'.ofTry ok, r⟩
    | ret u =>
      obtain ⟨v, σ', H', J', r⟩ := q
      exact ⟨v, σ', H', J'.ofTry ok, r⟩
    | brk | cont =>
      obtain ⟨σ', H', J', r⟩ := q
      exact ⟨σ', H', J'.ofTry ok, r⟩
end
end Fx

/-! a list comprehension over range within an except suite -/
namespace Fx
open PySem PySem.Spec PyProof.Rows L2 L2H
/-- nothing may be let out -/
theorem none0 {X : Cx} : L2N.Takes X (fun _ _ _ _ => False) := by
  rintro u s' ⟨_, _, _, _, _, _, _, _, _, _, _, _, _, _, _, _, no⟩
  exact no.elim
/-- a suite stands where an exception is handled -/
theorem hot_suite {X : Cx} {a : Addr} {oe : Obj} {cls : Value} {d : Option Addr} {pn : List (Addr × Obj)} (hz : L2N.Zn cls d oe) (hf : ∃ vs, oe.data = .fields vs) : HotC (X.suite a ((a, oe) :: pn)) := by
  obtain ⟨vs, e⟩ := hf
  exact ⟨(a, oe), ⟨rfl, vs, e, hz.2.2 vs e⟩, List.mem_cons_self⟩
/-- a block's context that keeps p, the exception that is handled, in sight -/
abbrev hblk (X : Cx) (p : Addr × Obj) (s : Shared) (H : Hp) (scope : Scope) (ce : Env) (fp : List Addr) : Cx := { X.blk s H scope ce fp with pn := [p] }
theorem hblk_in {X : Cx} {p : Addr × Obj} {s s' : Shared} {H H' : Hp} {scope : Scope} {ce : Env} {fp : List Addr} {σ : L2.St} (I : Inv (X.blk s H scope ce fp) [] σ H' s') (g : s'.heap.get? p.1 = some p.2) (n : H' p.1 = none) (l : p.1 ≠ ce.locals)
    (f : p.1 ∉ frs X.stack) (c : ∀ v, p.2.data ≠ .cell v) : Inv (hblk X p s H scope ce fp) [] σ H' s' := by
  have o := I.ok
  refine ⟨⟨o.mod, o.kind, o.glob, o.blt, o.above, o.inj, o.has, o.cab, o.hd, o.frames, o.stk, o.exf, o.bs, o.bsz, o.noex, o.exfs, o.funs, o.frf⟩, I.os, I.bare, I.base, I.loc, I.cell, I.free, I.freeC, ?_, I.hok, I.len⟩
  intro q hq
  obtain rfl : q = p := by simpa using (show q ∈ [p] ++ [] from hq)
  exact ⟨g, n, l, f, c⟩
/-- what the iterator's objects are to a context, whatever is tracked -/
def Apart (B : Cx) (b : Addr) : Prop := ∀ H : Hp, H b = none → FpOk B [] H b
/-- what one turn asks, the n-th of m -/
def Turn1 (J : It) (g : TG) (tt : TT) (te : TE) (vs : List Nat) (τ : L2.St) (D : Addr) (Q : VK) (W : Nat → Nat → Hp → Prop) : Prop :=
  ∀ i m H, W i m H → (J.stop i H ∧ Q (.ref D) H) ∨ (J.go i H ∧ ∃ Nx : Hp → Prop, (∀ H', Nx H' → ∃ m', m' < m ∧ W (i + 1) m' H') ∧ ∀ x H', J.yld i H x H' → g x τ H' fun σ2 H2 => wipe σ2 vs = τ ∧ tt σ2 H2 fun b H3 =>
    if b = true then te σ2 H3 fun y H4 => ∃ acc, H4 D = some (.lst acc) ∧ acc.length < sizeLine ∧ Nx (upd H4 D (.lst (acc ++ [y]))) else Nx H3)
theorem loopH {B : Cx} {J : It} {it D : Addr} {fp : List Addr} {tn : Nat → Heap → Prop} {tg iter elt : Expr} {ifs : List Expr} {scope : Scope} {pos : Pos} {g : TG} {tt : TT} {te : TE} {vs : List Nat} {τ : L2.St} {Q : VK} {W : Nat → Nat → Hp → Prop} {R : Result → Shared → Prop}
    (hx : B.xe = fun _ _ => False) (hot : HotC B) (T : TurnH B.prog B.w B.K tg J fp it tn) (ap : ∀ b ∈ fp, Apart B b) (pg : PG B tg g) (pt : PTs B ifs tt) (pe : PE B elt te) (turns : Turn1 J g tt te vs τ D Q W)
    (fin : ∀ s H, Inv B [] τ H s → Q (.ref D) H → R (.ok .next) s) {m0 : Nat} {s0 : Shared} {H0 : Hp} (I0 : Inv B [] τ H0 s0) (t0 : tn 0 s0.heap) (n0 : ∀ b ∈ fp, H0 b = none) (w0 : W 0 m0 H0) :
    codeAny (model B.prog B.w) B.A (.compLoop (.ListComp elt [⟨tg, iter, ifs, 0⟩] scope pos) 0 (.ref it) (.ref D) B.env) R s0 := by
  refine compLoop_any (fun m s => ∃ i H, Inv B [] τ H s ∧ tn i s.heap ∧ (∀ b ∈ fp, H b = none) ∧ W i m H) (fun m s h => ?_) m0 ⟨0, H0, I0, t0, n0, w0⟩
  obtain ⟨i, H, I, t, nn, w⟩ := h
  have okAll : ∀ {H : Hp}, (∀ b ∈ fp, H b = none) → ∀ b ∈ fp, FpOk B [] H b := fun z b hb => ap b hb _ (z b hb)
  rcases turns i m H w with ⟨hs, q⟩ | ⟨hg, Nx, less, step⟩
  · -- the end
    refine thnF (T.done B rfl rfl rfl hot i [] s τ H (fun _ _ => False) I (okAll nn) t hs) ?_
    rintro _ s1 ⟨rfl, I1⟩
    exact fin s1 H I1 q
  · refine thnF (T.item B rfl rfl rfl hot i [] s τ H (fun _ _ => False) I (okAll nn) t hg) ?_
    rintro _ s1 ⟨u, rfl, h1⟩
    refine thnF h1 ?_
    rintro _ s2 ⟨x, H2, I2, rx, y2, t2, n2⟩
    have Ip := I2.pinned (okAll n2) (T.obj _ _ t2)
    have rg := pg.run _ s2 τ H2 x u _ Ip rx (step x H2 y2)
    rw [hx] at rg
    refine thnF rg ?_
    rintro _ s3 ⟨σ3, H3, I3, e3, q3⟩
    have rt := pt.run _ s3 σ3 H3 _ I3 q3
    rw [hx] at rt
    refine thnF rt ?_
    rintro b s4 ⟨H4, I4, q4⟩
    -- where the turn ends
    have turned : ∀ {s' : Shared} {H' : Hp}, Inv B ([] ++ pinsAt fp s2.heap) σ3 H' s' → Nx H' → ∃ m', m' < m ∧ ∃ i H, Inv B [] τ H s' ∧ tn i s'.heap ∧ (∀ b ∈ fp, H b = none) ∧ W i m' H := by
      intro s' H' I' nx
      obtain ⟨m', lt, w'⟩ := less H' nx
      have see : ∀ b ∈ fp, ∀ o, s2.heap.get? b = some o → s'.heap.get? b = some o ∧ H' b = none := fun b hb o e => by
        have z := I'.pin (b, o) (List.mem_append_right _ (List.mem_append_right _ (mem_pinsAt hb e)))
        exact ⟨z.1, z.2.1⟩
      have len : τ.length = σ3.length := by
        rw [← e3]
        exact wipe_length ..
      refine ⟨m', lt, i + 1, H', ?_, T.keep _ _ _ t2 (fun b hb o e => (see b hb o e).1), (fun b hb => ?_), w'⟩
      · refine (Inv.unpinned (pins := []) I').weak len fun j v e => ?_
        rw [← e3] at e
        exact (wipe_some e).1
      · obtain ⟨o, e, _⟩ := T.obj _ _ t2 b hb
        exact (see b hb o e).2
    cases b with
    | false =>
      exact turned I4 (by simpa using q4)
    | true =>
      have re := pe.run _ s4 σ3 H4 _ I4 (by simpa using q4)
      rw [hx] at re
      refine thnF re ?_
      rintro v s5 ⟨y, H5, I5, ry, acc, hD, small, nx⟩
      exact app_ok (X := B) I5 hD small ry fun s6 I6 => turned I6 nx
/-- [elt for target in range(..) if ..], where an exception is handled -/
theorem pe_lcH {X : Cx} {elt tg iter : Expr} {ifs : List Expr} {scope : Scope} {own : List (Str × Nat)} {pos : Pos} {wi : TI} {g : TG} {tt : TT} {te : TE} (hot : HotC X) (hN : X.N.Nodup) (hi : PIH X tg iter wi) (ok : BlkOk X.N X.env.scope scope own)
    (hg : ∀ (p : Addr × Obj) (s : Shared) (H : Hp) (C : Addr) (cl : List (Str × Addr)) (fp : List Addr), PG (hblk X p s H scope (compEnvC scope cl C X.env) fp) tg g)
    (ht : ∀ (p : Addr × Obj) (s : Shared) (H : Hp) (C : Addr) (cl : List (Str × Addr)) (fp : List Addr), PTs (hblk X p s H scope (compEnvC scope cl C X.env) fp) ifs tt)
    (he : ∀ (p : Addr × Obj) (s : Shared) (H : Hp) (C : Addr) (cl : List (Str × Addr)) (fp : List Addr), PE (hblk X p s H scope (compEnvC scope cl C X.env) fp) elt te) (hs : ∀ x, foldedSetIterable iter X.env x = pure x := by intro _; rfl) :
    PE X (.ListComp elt [⟨tg, iter, ifs, 0⟩] scope pos) (tLc wi g tt te (own.map (·.2))) := by
  refine ⟨fun pins s σ H Q I h => ?_⟩
  rw [eval_ListComp]
  have closed : ∀ z ∈ scope.names, z.2 = .free → ∃ c, X.env.cells.lookup z.1 = some c := fun z hz e => I.ok.has _ (ok.free z hz e)
  refine wpAny_comprehension_free (use := none) rfl hs (closure_ok closed) ok.kind (fun z hz e => by rw [ok.uniq z hz, e]) (thn (hi.run pins s σ H _ I h) fun xv s1 h1 => thn h1 fun itv s2 h2 => ?_)
  obtain ⟨it, fp, tn, J, H2, rfl, I2, T, t2, f2, q⟩ := h2
  obtain ⟨p, hp1, hp2⟩ := hot
  have see := I2.pin p (List.mem_append_left _ hp2)
  refine wpAny_newObj_type (newEnv_comp ?_) (by show 0 ≤ sizeLine; decide)
  obtain ⟨W, ⟨m0, w0⟩, turns⟩ := q s2.heap.objs.size (I2.hok.fresh (Nat.le_refl _))
  -- the list that is filled
  have ID : Inv X pins σ (upd H2 s2.heap.objs.size (.lst [])) { s2 with heap := s2.heap.push { cls := .type "list", data := .seq ([] : List Value).toArray } } :=
    I2.laid (t' := s2.toks) (fun b o e => Heap.get?_push_of_some _ e) (Nat.le_refl _) ⟨Nat.zero_le _, [], 0, .nil, Heap.get?_push_size _ rfl⟩
  have old : ∀ b o, s2.heap.get? b = some o → b ≠ s2.heap.objs.size := fun b o e => Nat.ne_of_lt (Heap.lt_size e)
  have fD : ∀ b ∈ fp, FpOk X pins (upd H2 s2.heap.objs.size (.lst [])) b ∧ b < (s2.heap.push { cls := .type "list", data := .seq ([] : List Value).toArray }).objs.size := by
    intro b hb
    obtain ⟨o, e, _⟩ := T.obj _ _ t2 b hb
    refine ⟨⟨(upd_ne (old b o e)).trans (f2 b hb).1, (f2 b hb).2⟩, ?_⟩
    rw [Heap.size_push]
    exact Nat.lt_succ_of_lt (Heap.lt_size e)
  generalize hsD : ({ s2 with heap := s2.heap.push { cls := .type "list", data := .seq ([] : List Value).toArray } } : Shared) = sD at ID
  have heD : s2.heap.push { cls := .type "list", data := .seq ([] : List Value).toArray } = sD.heap := by rw [← hsD]
  rw [heD] at fD
  have kD : ∀ b o, s2.heap.get? b = some o → sD.heap.get? b = some o := fun b o e => by
    rw [← heD]
    exact Heap.get?_push_of_some _ e
  have nC : (upd H2 s2.heap.objs.size (HO.lst [])) p.1 = none := (upd_ne (old _ _ see.1)).trans see.2.1
  generalize hHD : upd H2 s2.heap.objs.size (HO.lst []) = HD at ID fD w0 nC
  have kB : ∀ b o, sD.heap.get? b = some o → (pushCells (sD.heap.push { cls := .type "dict", data := .dict #[] }) scope.names).get? b = some o := fun b o e => pushCells_keeps _ _ _ _ (Heap.get?_push_of_some _ e)
  have offStack : p.1 ∉ frs X.stack := fun z => (List.mem_cons.mp (ID.stkSub p.1 z)).elim see.2.2.1 see.2.2.2.1
  have IB := hblk_in (p := p) (block_start ID ok hN fD) (kB _ _ (kD _ _ see.1)) nC (Nat.ne_of_lt (Heap.lt_size (kD _ _ see.1))) offStack see.2.2.2.2
  have pg := hg p sD HD sD.heap.objs.size (cellsFrom (sD.heap.objs.size + 1) scope.names (cloFrom X.env.cells scope.names [])) fp
  have pt := ht p sD HD sD.heap.objs.size (cellsFrom (sD.heap.objs.size + 1) scope.names (cloFrom X.env.cells scope.names [])) fp
  have pe := he p sD HD sD.heap.objs.size (cellsFrom (sD.heap.objs.size + 1) scope.names (cloFrom X.env.cells scope.names [])) fp
  have tB : tn 0 (pushCells (sD.heap.push { cls := .type "dict", data := .dict #[] }) scope.names) := T.keep _ _ _ t2 fun b _ o e => kB b o (kD b o e)
  have ap : ∀ b ∈ fp, Apart (hblk X p sD HD scope (compEnvC scope (cellsFrom (sD.heap.objs.size + 1) scope.names (cloFrom X.env.cells scope.names [])) sD.heap.objs.size X.env) fp) b := by
    intro b hb H' n
    refine ⟨n, (IB.ok.exf b hb).1, IB.ok.exfs b hb, .inl hb, (IB.ok.exf b hb).2, fun r hr => ?_⟩
    obtain rfl : r = p := by simpa using (show r ∈ [p] ++ [] from hr)
    exact (f2 b hb).2.2.2.2.2 r (List.mem_append_left _ hp2)
  have go : codeAny (model X.prog X.w) X.A (.compLoop (.ListComp elt [⟨tg, iter, ifs, 0⟩] scope pos) 0 (.ref it) (.ref s2.heap.objs.size) (compEnvC scope (cellsFrom (sD.heap.objs.size + 1) scope.names (cloFrom X.env.cells scope.names [])) sD.heap.objs.size X.env))
      (compPost (model X.prog X.w) X.A X.xe none (EP X pins σ Q) (.ref s2.heap.objs.size) sD.heap.objs.size) { sD with heap := pushCells (sD.heap.push { cls := .type "dict", data := .dict #[] }) scope.names } := by
    refine loopH (B := hblk X p sD HD scope (compEnvC scope (cellsFrom (sD.heap.objs.size + 1) scope.names (cloFrom X.env.cells scope.names [])) sD.heap.objs.size X.env) fp)
      rfl ⟨p, hp1, List.mem_cons_self⟩ T ap pg pt pe (D := s2.heap.objs.size) (vs := own.map Prod.snd) (τ := wipe σ (own.map Prod.snd)) (Q := Q) (W := W) turns (fun s6 H6 I6 q6 => ?_) IB tB (fun b hb => (fD b hb).1.1) w0
    -- back in the def
    have IE : Inv X pins σ H6 s6 := ID.call' (ch := fp) I6.os I6.base I6.hok I6.bare fun b hb => ⟨(fD b hb).1.2.2.2.1, (fD b hb).1.2.1, (fD b hb).1.2.2.2.2.1, (fD b hb).1.2.2.2.2.2⟩
    obtain ⟨m, hn, _⟩ := I6.loc
    refine ⟨m, hn, fun h'' sb => ?_⟩
    obtain ⟨f0, f1, f2, f3, f4, f5⟩ := ID.fpOk (b := sD.heap.objs.size) (Nat.le_refl _) (show H6 sD.heap.objs.size = none from I6.free)
    exact ⟨.ref s2.heap.objs.size, H6, IE.turned (t' := s6.toks) (fun b o hb e => (sb.2 b hb).trans e) f0 f1 f3 f4 f5, rfl, q6⟩
  exact codeAny_compStart_list go (T.self X.A 0 _ _ _ tB go)
end Fx

--#ty _law_bag _law_script=l _law_cells=l
--#ty _law_take _law_bag_here=l _law_bag_here[4]=l
--#wide _law_take op_fdivW | _law_bag_here[1] // _law_many
namespace Fk
open PySem L2
/-! short words: rdc closes a side condition, r1 one step of a reading, rd as many as there are -/
local macro_rules | `(tactic| walk_at "rdc") => `(tactic| (first | exact Or.inl ⟨by decide, by decide⟩ | exact Or.inr ⟨by decide, by decide⟩ | exact ⟨by decide, by decide⟩ | exact Or.inl ⟨by omega, by omega⟩ | exact Or.inr ⟨by omega, by omega⟩ | ((show (0 : Int) < _); (first | decide | omega)) | exact ⟨by decide, by decide, by decide⟩ | exact ⟨by omega, by assumption⟩))
local macro_rules | `(tactic| walk_at "hp") => `(tactic| (first | exact upd_same | assumption | ((rw [upd_ne (by assumption)]); (first | exact upd_same | assumption | ((rw [upd_ne (by assumption)]); (first | exact upd_same | assumption | ((rw [upd_ne (by assumption)]); (first | exact upd_same | assumption))))))))
local macro_rules | `(tactic| walk_at "r1") => `(tactic| (first | refine ⟨_, rfl, ?_⟩ | refine ⟨_, _, rfl, rfl, ?_⟩ | refine ⟨_, _, rfl, ?_⟩ | refine Or.inl ⟨_, rfl, ?_⟩ | refine ⟨rfl, ?_⟩ | refine ⟨(by walk_at "rdc"), ?_⟩ | refine ⟨_, _, _, _, rfl, rfl, SqL.of (by walk_at "hp"), rfl, ?_⟩ | refine ⟨_, _, _, _, rfl, rfl, (by walk_at "hp"), rfl, ?_⟩ | refine ⟨_, _, _, _, rfl, rfl, SqL.of (by walk_at "hp"), by assumption, ?_⟩))
local macro_rules | `(tactic| walk_at "rd") => `(tactic| (repeat walk_at "r1"))
def top (i : Nat) : Stmt := PySem.Challenge.pw_forkbeats_k06_tuning_text_refused.main.body.getD i (.Pass ⟨0, 0, 0, 0⟩)
/-- all that was tracked stands, but for b -/
def Keep (H H' : Hp) (b : Addr) : Prop := ∀ a o, H a = some o → a ≠ b → H' a = some o
theorem Keep.refl (H : Hp) (b : Addr) : Keep H H b := fun _ _ h _ => h
theorem Keep.trans {H H1 H2 : Hp} {b : Addr} (x : Keep H H1 b) (y : Keep H1 H2 b) : Keep H H2 b := fun a o h n => y a o (x a o h n) n
theorem Keep.upd {H H1 : Hp} {b : Addr} {o : HO} (x : Keep H H1 b) : Keep H (upd H1 b o) b := fun a u h n => by
  rw [upd_ne n]
  exact x a u h n
theorem Keep.new {H H1 : Hp} {b p : Addr} {o : HO} (x : Keep H H1 b) (hp : H1 p = none) : Keep H (L2.upd H1 p o) b := fun a u h n => by
  have q := x a u h n
  rw [upd_ne (ne_of_none q hp)]
  exact q
/-- a bag of draws at b -/
def BagIs (H : Hp) (b : Addr) (n acc pos base : Int) (c : Addr) (cells : List Int) : Prop :=
  H b = some (.lst [.int n, .int acc, .int pos, .int base, .ref c]) ∧ H c = some (.lst (cells.map V.int)) ∧ b ≠ c ∧ 0 ≤ acc ∧ 0 ≤ pos ∧ 0 ≤ base ∧ base < 2147483647 ∧ (∀ x ∈ cells, 0 ≤ x) ∧ cells.length ≤ 63
def Bag (H : Hp) (b c : Addr) : Prop := ∃ n acc pos base cells, BagIs H b n acc pos base c cells
theorem Bag.keep {H H' : Hp} {b c d : Addr} (h : Bag H b c) (k : Keep H H' d) (e1 : b ≠ d) (e2 : c ≠ d) : Bag H' b c := by
  obtain ⟨n, acc, pos, base, cells, h1, h2, r⟩ := h
  exact ⟨n, acc, pos, base, cells, k _ _ h1 e1, k _ _ h2 e2, r⟩
theorem Bag.at1 {H : Hp} {b c : Addr} (h : Bag H b c) : ∃ o, H b = some o := by
  obtain ⟨n, acc, pos, base, cells, h1, h2, r⟩ := h
  exact ⟨_, h1⟩
theorem Bag.at2 {H : Hp} {b c : Addr} (h : Bag H b c) : ∃ o, H c = some o := by
  obtain ⟨n, acc, pos, base, cells, h1, h2, r⟩ := h
  exact ⟨_, h2⟩
theorem Bag.off {H : Hp} {b c p : Addr} (h : Bag H b c) (hp : H p = none) : b ≠ p ∧ c ≠ p := by
  obtain ⟨o, e⟩ := h.at1
  obtain ⟨o2, e2⟩ := h.at2
  exact ⟨ne_of_none e hp, ne_of_none e2 hp⟩
theorem Bag.set {H : Hp} {b c d : Addr} {o : HO} (h : Bag H b c) (e1 : b ≠ d) (e2 : c ≠ d) : Bag (upd H d o) b c := by
  obtain ⟨n, acc, pos, base, cells, h1, h2, r⟩ := h
  exact ⟨n, acc, pos, base, cells, (upd_ne e1).trans h1, (upd_ne e2).trans h2, r⟩
/-- the built-ins by their names -/
structure Bn (mg : Str → Option Value) : Prop where
  b_len : mg "len" = none
  b_abs : mg "abs" = none
  b_max : mg "max" = none
  b_int : mg "int" = none
  b_range : mg "range" = none
/-! ### texts -/
theorem fold_list (a : Array Nat) : ∀ (m : Nat) (acc : Array Nat), ((List.replicate m a).foldl (· ++ ·) acc).toList = acc.toList ++ (List.replicate m a.toList).flatten
  | 0, acc => by simp
  | m + 1, acc => by
    rw [List.replicate_succ, List.foldl_cons, fold_list a m]
    simp [List.replicate_succ]
/-- a text times a number -/
def rRepS : R2 := fun x y H Q => ∃ z n, x = .str z ∧ y = .int n ∧ 2 ≤ n ∧ n ≤ 6000 ∧ 0 < z.length ∧ z.length ≤ 1000 ∧ Q (.str ⟨((List.replicate n.toNat z.cps.toList).flatten).toArray⟩) H
theorem op_rep_str {X : Cx} : OpR X (binaryOp .Mult) rRepS := by
  intro pins s σ H x y v u Q I rx ry h
  obtain ⟨z, n, rfl, rfl, h1, h2, h3, h4, q⟩ := h
  obtain ⟨t, rfl⟩ := rx
  obtain ⟨t2, rfl⟩ := ry
  have hn1 : ¬ n < 1 := by omega
  have e1 : (n == 1 || z.length == 0) = false := by
    rw [Bool.or_eq_false_iff]
    exact ⟨by simp; omega, by simp; omega⟩
  have hmul : z.length * n.toNat ≤ 1000 * 6000 := Nat.mul_le_mul h4 (by omega)
  have el : (⟨(List.replicate n.toNat z.cps).foldl (· ++ ·) #[]⟩ : Str) = ⟨((List.replicate n.toNat z.cps.toList).flatten).toArray⟩ := by
    have e := fold_list z.cps n.toNat #[]
    simp only [List.nil_append] at e
    rw [← e]
  refine PySem.P.mul_str ?_ (fun _ _ => ?_) (fun _ _ => ?_) ?_
  · rw [Bool.or_eq_false_iff]
    exact ⟨decide_eq_false (by omega), decide_eq_false (by omega)⟩
  · have : (z.length : Int) ≤ 1000 := by omega
    have h5 : (1000 : Int) ≤ (2 ^ 63 - 1) / n := by
      refine (Int.le_ediv_iff_mul_le (by omega)).mpr ?_
      omega
    omega
  · exact decide_eq_false (by rw [sizeLine_eq]; omega)
  · rw [if_neg hn1, e1, if_neg Bool.false_ne_true, el]
    refine ⟨?_, .str _, H, I.tok _, ⟨_, rfl⟩, q⟩
    show (((List.replicate n.toNat z.cps.toList).flatten).toArray).size ≤ sizeLine
    have hz : z.cps.toList.length = z.length := Array.length_toList
    rw [List.size_toArray, List.length_flatten, List.map_replicate, List.sum_replicate_nat, hz, sizeLine_eq]
    rw [Nat.mul_comm] at hmul
    omega
/-! ### lists and texts, no program -/
theorem pigeon {α : Type} [DecidableEq α] : ∀ (l m : List α), l.Nodup → (∀ x ∈ l, x ∈ m) → l.length ≤ m.length
  | [], _, _, _ => Nat.zero_le _
  | a :: l, m, hn, hs => by
    have ha : a ∈ m := hs a (List.mem_cons_self ..)
    have hn' := List.nodup_cons.mp hn
    have h := pigeon l (m.erase a) hn'.2 fun x hx => (List.mem_erase_of_ne (fun (e : x = a) => hn'.1 (e ▸ hx))).mpr (hs x (List.mem_cons_of_mem _ hx))
    have e := List.length_erase_of_mem ha
    have p : 0 < m.length := List.length_pos_of_mem ha
    rw [List.length_cons]
    omega
theorem fresh_of {α : Type} [DecidableEq α] {l m : List α} (hn : l.Nodup) (hl : m.length < l.length) : ∃ x ∈ l, x ∉ m := by
  by_cases h : ∃ x ∈ l, x ∉ m
  · exact h
  · have h' : ∀ x ∈ l, x ∈ m := fun x hx => by
      by_cases hm : x ∈ m
      · exact hm
      · exact absurd ⟨x, hx, hm⟩ h
    exact absurd (pigeon l m hn h') (by omega)
abbrev S (l : List Nat) : Str := ⟨l.toArray⟩
theorem S_len (l : List Nat) : (S l).length = l.length := by simp [S, Str.length]
theorem S_cat (a b : List Nat) : S a ++ S b = S (a ++ b) := SX.S_cat a b
theorem S_inj {a b : List Nat} (h : S a = S b) : a = b := SX.S_inj h
theorem S_cps (l : List Nat) : (S l).cps.toList = l := rfl
/-- small letters -/
def Lows (l : List Nat) : Prop := ∀ c ∈ l, 97 ≤ c ∧ c ≤ 122
/-- a name -/
def Nm (l : List Nat) : Prop := 1 ≤ l.length ∧ l.length ≤ 12 ∧ Lows l
/-- a text that is a name -/
def Low (z : Str) : Prop := ∃ l, z = S l ∧ Nm l
theorem joinL_one (a b c : Nat) : TL.joinL [] [[a]] = [a] ∧ TL.joinL [] [[a], [b]] = [a, b] ∧ TL.joinL [] [[a], [b], [c]] = [a, b, c] := ⟨rfl, rfl, rfl⟩
theorem join_row {l : List Nat} {a b c : Nat} (h : l = [a] ∨ l = [a, b] ∨ l = [a, b, c]) : Txt.join (S []) (l.map fun c => S [c]) = S l := by
  have e : (l.map fun c => S [c]) = (l.map fun c => [c]).map S := by rw [List.map_map]; rfl
  rw [e, SX.join_S]
  rcases h with rfl | rfl | rfl <;> rfl
theorem cut_row (x y z : V) (k : Int) (h1 : 1 ≤ k) (h2 : k ≤ 4) : cutV [x, y, z] none (some k) = [x] ∨ cutV [x, y, z] none (some k) = [x, y] ∨ cutV [x, y, z] none (some k) = [x, y, z] := by
  have : k = 1 ∨ k = 2 ∨ k = 3 ∨ k = 4 := by omega
  rcases this with rfl | rfl | rfl | rfl
  · exact .inl rfl
  · exact .inr (.inl rfl)
  · exact .inr (.inr rfl)
  · exact .inr (.inr rfl)
theorem row_cut (a b c : Nat) (k : Int) (h1 : 1 ≤ k) (h2 : k ≤ 4) : ∃ l : List Nat, (l = [a] ∨ l = [a, b] ∨ l = [a, b, c]) ∧ cutV [.str (S [a]), .str (S [b]), .str (S [c])] none (some k) = (l.map fun c => S [c]).map V.str := by
  rcases cut_row (.str (S [a])) (.str (S [b])) (.str (S [c])) k h1 h2 with e | e | e
  · exact ⟨[a], .inl rfl, e⟩
  · exact ⟨[a, b], .inr (.inl rfl), e⟩
  · exact ⟨[a, b, c], .inr (.inr rfl), e⟩
theorem cutS_to (l : List Nat) (k : Nat) : cutS (S l) none (some (k : Int)) = S (l.take k) := by
  unfold cutS
  rw [S_cps, S_len, HT.sIx_none, HT.sIx_nat]
  show (⟨((l.drop 0).take (min k l.length - 0)).toArray⟩ : Str) = ⟨(l.take k).toArray⟩
  rw [List.drop_zero, Nat.sub_zero]
  congr 2
  by_cases h : k ≤ l.length
  · rw [Nat.min_eq_left h]
  · rw [Nat.min_eq_right (by omega), List.take_of_length_le (by omega), List.take_of_length_le (by omega)]
/-- the name, then its beginning with each of twelve letters -/
def poolOf (l : List Nat) : List Str := S l :: ([97, 98, 99, 100, 101, 102, 103, 104, 105, 106, 107, 108].map fun c => S (l.take 3 ++ [c]))
/-- a drawn name is short, or its first sign comes again -/
def Rep (l : List Nat) : Prop := l.length ≤ 4 ∨ l[0]? = l[3]?
/-- the name that is never drawn -/
def zyS : Str := S [122, 121, 122, 121, 122, 121, 122, 121, 122, 121, 122, 121]
theorem zy_eq : ("zyzyzyzyzyzy" : Str) = zyS := by decide +kernel
def Lz (z : Str) : Prop := Low z ∧ z ≠ zyS
theorem lz_of {l : List Nat} (h : Nm l) (r : Rep l) : Lz (S l) := by
  refine ⟨⟨l, rfl, h⟩, fun e => ?_⟩
  have e := S_inj e
  subst e
  rcases r with r | r
  · exact absurd r (by decide)
  · exact absurd r (by decide)
theorem pool_low {l : List Nat} (h : Nm l) (r : Rep l) : ∀ z ∈ poolOf l, Lz z := by
  intro z hz
  rcases List.mem_cons.mp hz with rfl | hz
  · exact lz_of h r
  · obtain ⟨c, hc, rfl⟩ := List.mem_map.mp hz
    refine lz_of ⟨?_, ?_, ?_⟩ (.inl ?_)
    · rw [List.length_append]
      exact Nat.le_add_left _ _
    · rw [List.length_append, List.length_take]
      show min 3 l.length + 1 ≤ 12
      omega
    · intro d hd
      rcases List.mem_append.mp hd with hd | hd
      · exact h.2.2 d (List.mem_of_mem_take hd)
      · have e : d = c := by simpa using hd
        subst e
        simp only [List.mem_cons, List.not_mem_nil, or_false] at hc
        omega
    · rw [List.length_append, List.length_take]
      show min 3 l.length + 1 ≤ 4
      omega
theorem pool_fresh (l : List Nat) {zs : List Str} (h : zs.length ≤ 11) : ∃ z ∈ poolOf l, z ∉ zs := by
  have hn : ([97, 98, 99, 100, 101, 102, 103, 104, 105, 106, 107, 108].map fun c => S (l.take 3 ++ [c])).Nodup := by
    refine List.Pairwise.map (R := fun a b : Nat => a ≠ b) _ (fun a b hab e => hab ?_) (by decide)
    have e2 := S_inj e
    have e3 := List.append_cancel_left e2
    exact (List.cons.inj e3).1
  obtain ⟨z, hz, hm⟩ := fresh_of (m := zs) hn (by rw [List.length_map]; show zs.length < 12; omega)
  exact ⟨z, List.mem_cons_of_mem _ hz, hm⟩
theorem pool_len (l : List Nat) : (poolOf l).length = 13 := rfl
theorem lows_rep {a b c : Nat} (h : Lows [a, b, c]) : Nm (((List.replicate 4 [a, b, c]).flatten).take 12) := by
  refine ⟨by show 1 ≤ 12; decide, by show 12 ≤ 12; decide, ?_⟩
  intro d hd
  refine h d ?_
  have := List.mem_of_mem_take hd
  obtain ⟨x, hx, hd⟩ := List.mem_flatten.mp this
  rw [(List.mem_replicate.mp hx).2] at hd
  exact hd
theorem sum_ones : ∀ l : List Nat, ((l.map fun c => S [c]).map (·.length)).sum = l.length
  | [] => rfl
  | c :: l => by
    have ih := sum_ones l
    rw [List.map_cons, List.map_cons, List.sum_cons, ih, List.length_cons]
    show 1 + l.length = l.length + 1
    omega
theorem join_size (l : List Nat) (h : l.length ≤ 1000) : ((l.map fun c => S [c]).map (·.length)).sum + (l.map fun c => S [c]).length * (Str.ofString "").length ≤ 16777216 := by
  have e0 : (Str.ofString "").length = 0 := by decide
  rw [sum_ones, e0, Nat.mul_zero]
  omega
theorem nm_size {l : List Nat} (h : Nm l) : (S l).length ≤ sizeLine := by
  rw [S_len]
  exact Nat.le_trans h.2.1 (by decide)
theorem cut_ints (ns : List Int) (lo hi : Option Int) : ∃ ms : List Int, cutV (ns.map V.int) lo hi = ms.map V.int ∧ ms.length ≤ ns.length := by
  refine ⟨(ns.drop (HT.sIx ns.length 0 lo)).take (HT.sIx ns.length ns.length hi - HT.sIx ns.length 0 lo), ?_, ?_⟩
  · unfold cutV
    rw [List.length_map, List.map_take, List.map_drop]
  · rw [List.length_take, List.length_drop]
    omega
theorem ints_at {ns : List Int} {i : Nat} {y : V} (h : (ns.map V.int)[i]? = some y) : ∃ z, ns[i]? = some z ∧ y = V.int z := by
  rw [List.getElem?_map] at h
  cases e : ns[i]? with
  | none =>
    rw [e] at h
    cases h
  | some z =>
    rw [e] at h
    exact ⟨z, rfl, (Option.some.inj h).symm⟩
theorem map_snoc (l : List Int) (z : Int) : l.map V.int ++ [V.int z] = (l ++ [z]).map V.int := by
  rw [List.map_append]
  rfl
theorem Same.new {H H1 : Hp} {p : Addr} {o : HO} (x : Same H H1) (hp : H1 p = none) : Same H (upd H1 p o) := fun a u h => by
  have q := x a u h
  rw [upd_ne (ne_of_none q hp)]
  exact q
theorem Same.set {H H1 : Hp} {D : Addr} {o : HO} (x : Same H H1) (hD : H D = none) : Same H (upd H1 D o) := fun a u h => by
  rw [upd_ne (ne_of_none h hD)]
  exact x a u h
theorem Bag.same {H H' : Hp} {b c : Addr} (h : Bag H b c) (k : Same H H') : Bag H' b c := by
  obtain ⟨n, acc, pos, bs, cells, h1, h2, r⟩ := h
  exact ⟨n, acc, pos, bs, cells, k _ _ h1, k _ _ h2, r⟩
theorem Keep.same {H H1 H2 : Hp} {b : Addr} (x : Keep H H1 b) (k : Same H1 H2) : Keep H H2 b := fun a o h n => k a o (x a o h n)
section
variable {P : Program} {w : World} {K : PySem.W.Frag} {mg : Str → Option Value} {base : Heap}
/-! ### _law_bag -/
abbrev s__law_bag : Stmt := top 19
theorem sc__law_bag : FnScope ["_law_script", "_law_cell", "_law_cells", "_law_base"] ["_law_script"] (defScope s__law_bag) := ⟨rfl, rfl, rfl, by decide +kernel, rfl, by decide +kernel, by decide +kernel⟩
def spBag (K : PySem.W.Frag) : Sp := fun vs H Q _ => ∃ (a : Addr) (ns : List Int), vs = [.ref a] ∧ SqL K H a (ns.map V.int) ∧ ns.length ≤ 63 ∧
  ∀ H' b c, Same H H' → Bag H' b c → Q (.ref b) H'
theorem ok_bag {f : Addr} {fd : FuncData} (F : Fun K "_law_bag" "_law_bag" s__law_bag f fd) (T : Bn mg) : FnOk P w K mg base CX0 1 f fd ["_law_script"] (spBag K) := by
  refine F.ok sc__law_bag (fun vs H Q E h => ?_) (fun cdv A outer s H vs Q E hr h => ?_)
  · obtain ⟨a, ns, rfl, _⟩ := h
    rfl
  · obtain ⟨a, ns, rfl, hS, hl, k⟩ := h
    refine ⟨_, (pss_cons (ps_setLc (i := 2) (own := [("_law_cell", 1)]) (g := gName 1) (tt := tYes) rfl sc__law_bag.nd rfl rfl (sw_true rfl rfl rfl (by decide +kernel)) (pi_list (pe_slice sl_list (pv 0) po_none (po_some pe_int))) (blkOk_by (own := [("_law_cell", 1)]) (N := ["_law_script", "_law_cell", "_law_cells", "_law_base"]) (sc := defScope s__law_bag) (by decide +kernel)) (fun _ _ _ _ _ => pg_name (i := 1) sc__law_bag.nd rfl (by first | exact Or.inl rfl | exact Or.inr rfl)) (fun _ _ _ _ _ => pts_nil) (fun _ _ _ _ _ => (pe_callB call_abs (by rfl) T.b_abs (by decide +kernel) (pa_cons (pe_callTy call_int1 (by rfl) T.b_int (by decide +kernel) (pa_cons (pv 1) pa_nil)) pa_nil))))
      (pss_cons (ps_set (i := 3) sc__law_bag.nd rfl (by first | exact Or.inl rfl | exact Or.inr rfl) pe_int)
      (pss_cons (ps_for PassesOwn.never rfl (pi_list (pv 2)) (pg_name (i := 1) sc__law_bag.nd rfl (by first | exact Or.inl rfl | exact Or.inr rfl)) (pss_one (ps_set (i := 3) sc__law_bag.nd rfl (by first | exact Or.inl rfl | exact Or.inr rfl) (pe_op op_mod (pe_callTy call_int1 (by rfl) T.b_int (by decide +kernel) (pa_cons (pe_op op_add (pe_op op_mul (pv 3) pe_int) (pv 1)) pa_nil)) pe_int))))
      (pss_one (ps_ret (pe_lst (pa_cons pe_int (pa_cons pe_int (pa_cons pe_int (pa_cons (pv 3) (pa_cons (pv 2) pa_nil))))))))))), ?_⟩
    walk_at "rd"
    refine ⟨a, _, rfl, hS, fun p np => ?_⟩
    refine ⟨_, rfl, ⟨_, SqL.of upd_same⟩, fun D nD => ?_⟩
    obtain ⟨ms, em, hml⟩ := cut_ints ns none (some 63)
    rw [em] at nD ⊢
    have npD : p ≠ D := fun z => by
      rw [← z, upd_same] at nD
      cases nD
    have nD0 : H D = none := by
      rw [upd_ne npD.symm] at nD
      exact nD
    refine lc_list (K := K) (a := p) (xs := ms.map V.int) (fun i H' => ∃ acc : List Int, H' D = some (.lst (acc.map V.int)) ∧ acc.length = i ∧ (∀ x ∈ acc, 0 ≤ x) ∧ H' p = some (.lst (ms.map V.int)) ∧ Same H H' ∧ ∀ b, H' b = none → H b = none) ?_ ?_ ?_ ?_
    · refine ⟨[], upd_same, rfl, (fun _ z => nomatch z), ?_, ?_, ?_⟩
      · rw [upd_ne npD]
        exact upd_same
      · exact Same.new (Same.new (Same.refl H) np) nD
      · intro b hb
        exact (Same.new (Same.new (Same.refl H) np) nD).free hb
    · rintro i H' _ ⟨acc, _, _, _, h, _⟩
      exact SqL.of h
    · rintro i x H' hi ⟨acc, hD, hl', hpos, hp', hs, hf⟩
      obtain ⟨z, hz, rfl⟩ := ints_at hi
      have hi63 : i < ms.length := (List.getElem?_eq_some_iff.mp hz).1
      refine ⟨rfl, ?_⟩
      walk_at "rd"
      have hDp : p ≠ D := npD
      refine ⟨_, hD, ?_, acc ++ [if z < 0 then -z else z], ?_, ?_, ?_, ?_, ?_, ?_⟩
      · rw [List.length_map, hl']
        exact small1000 (by omega)
      · rw [upd_same, map_snoc]
      · rw [List.length_append, hl']
        rfl
      · intro x hx
        rcases List.mem_append.mp hx with h | h
        · exact hpos x h
        · have e : x = (if z < 0 then -z else z) := by simpa using h
          rw [e]
          split <;> omega
      · rw [upd_ne npD]
        exact hp'
      · intro b o e
        rw [upd_ne (fun z => by rw [z, nD0] at e; cases e)]
        exact hs b o e
      · intro b hb
        by_cases hbD : b = D
        · rw [hbD]
          exact nD0
        · rw [upd_ne hbD] at hb
          exact hf b hb
    · rintro H' ⟨acc, hD, hl', hpos, hp', hs, hf⟩
      rw [List.length_map] at hl'
      walk_at "rd"
      refine ⟨⟨_, SqL.of hD⟩, ?_⟩
      refine for_list (K := K) (a := D) (xs := acc.map V.int) (fun i σ H2 => H2 = H' ∧ ∃ (v : Option V) (bs : Int), σ = [some (.ref a), v, some (.ref D), some (.int bs)] ∧ 0 ≤ bs ∧ bs < 2147483647)
        ⟨rfl, none, 0, rfl, by decide, by decide⟩ (fun i σ H2 _ e => by rw [e.1]; exact SqL.of hD) ?_ ?_
      · rintro i y σ H2 hi ⟨rfl, v, bs, rfl, h0, h1⟩
        obtain ⟨z, hz, rfl⟩ := ints_at hi
        walk_at "rd"
        exact ⟨Int.emod_nonneg _ (by decide), Int.emod_lt_of_pos _ (by decide)⟩
      · rintro σ H2 ⟨rfl, v, bs, rfl, h0, h1⟩
        walk_at "rd"
        refine ⟨by show 5 ≤ sizeLine; decide, fun q hq => ?_⟩
        refine k _ q D (Same.new hs hq) ⟨0, 0, 0, bs, acc, upd_same, ?_, ?_, by decide, by decide, h0, h1, hpos, by omega⟩
        · rw [upd_ne (ne_of_none hD hq)]
          exact hD
        · exact (ne_of_none hD hq).symm
/-! ### _law_mixed -/
abbrev s__law_mixed : Stmt := top 20
theorem sc__law_mixed : FnScope ["_law_cell", "_law_turn", "_law_number"] ["_law_cell", "_law_turn"] (defScope s__law_mixed) := ⟨rfl, rfl, rfl, by decide +kernel, rfl, by decide +kernel, by decide +kernel⟩
def spMixed : Sp := fun vs H Q _ => ∃ x t : Int, vs = [.int x, .int t] ∧ 0 ≤ x ∧ x < 2 ^ 64 ∧ ∀ r : Int, 0 ≤ r → Q (.int r) H
theorem ok_mixed {f : Addr} {fd : FuncData} (F : Fun K "_law_mixed" "_law_mixed" s__law_mixed f fd) (T : Bn mg) : FnOk P w K mg base CX0 1 f fd ["_law_cell", "_law_turn"] spMixed := by
  refine F.ok sc__law_mixed (fun vs H Q E h => ?_) (fun cdv A outer s H vs Q E hr h => ?_)
  · obtain ⟨x, t, rfl, _⟩ := h
    rfl
  · obtain ⟨x, t, rfl, h0, h1, k⟩ := h
    refine ⟨_, (pss_cons (ps_set (i := 2) sc__law_mixed.nd rfl (by first | exact Or.inl rfl | exact Or.inr rfl) (pe_op op_mod (pe_callTy call_int1 (by rfl) T.b_int (by decide +kernel) (pa_cons (pe_op op_mul (pv 0) (pe_op op_add (pe_op op_mul pe_int (pv 1)) pe_int)) pa_nil)) pe_int))
      (pss_cons (ps_set (i := 2) sc__law_mixed.nd rfl (by first | exact Or.inl rfl | exact Or.inr rfl) (pe_op op_mod (pe_callTy call_int1 (by rfl) T.b_int (by decide +kernel) (pa_cons (pe_op op_add (pe_op op_mul (pv 2) pe_int) (pe_op op_fdiv (pv 2) pe_int)) pa_nil)) pe_int))
      (pss_one (ps_ret (pe_op op_fdiv (pv 2) pe_int))))), ?_⟩
    walk_at "rd"
    exact k _ (Int.ediv_nonneg (Int.emod_nonneg _ (by decide)) (by decide))
/-! ### _law_take -/
abbrev s__law_take : Stmt := top 21
theorem sc__law_take : FnScope ["_law_bag_here", "_law_many", "_law_cell", "_law_digit"] ["_law_bag_here", "_law_many"] (defScope s__law_take) := ⟨rfl, rfl, rfl, by decide +kernel, rfl, by decide +kernel, by decide +kernel⟩
def spTake : Sp := fun vs H Q _ => ∃ (b c : Addr) (m : Int), vs = [.ref b, .int m] ∧ Bag H b c ∧ m < 2 ^ 200 ∧
  ∀ (r : Int) H', Bag H' b c → Keep H H' b → 0 ≤ r → r < max 1 m → Q (.int r) H'
theorem ok_take {f : Addr} {fd : FuncData} (F : Fun K "_law_take" "_law_take" s__law_take f fd) (T : Bn mg) (c__law_mixed : C8.Cal P w K mg base 1 "_law_mixed" spMixed []) : FnOk P w K mg base CX0 2 f fd ["_law_bag_here", "_law_many"] spTake := by
  refine F.ok sc__law_take (fun vs H Q E h => ?_) (fun cdv A outer s H vs Q E hr h => ?_)
  · obtain ⟨b, c, m, rfl, _⟩ := h
    rfl
  · obtain ⟨b, c, m, rfl, hb, hm, k⟩ := h
    refine ⟨_, (pss_cons (ps_set (i := 1) sc__law_take.nd rfl (by first | exact Or.inl rfl | exact Or.inr rfl) (pe_callB (call_max2 rfl) (by rfl) T.b_max (by decide +kernel) (pa_cons pe_int (pa_cons (pv 1) pa_nil))))
      (pss_cons (ps_asg (pe_op op_add (pe_ix ix_list (pv 0) pe_int (fun _ _ => rfl)) pe_int) (pg_sub (pv 0) pe_int set_list))
      (pss_cons (ps_if (PW.pt (pw_and (pt_cmpR op_lt (pe_ix ix_list (pv 0) pe_int (fun _ _ => rfl)) (pv 1) (nomark _)) (pw_and1 (pt_cmpR op_lt (pe_ix ix_list (pv 0) pe_int (fun _ _ => rfl)) (pe_callB call_len (by rfl) T.b_len PySem.boot_len (pa_cons (pe_ix ix_list (pv 0) pe_int (fun _ _ => rfl)) pa_nil)) (nomark _))))) (pss_cons (ps_set (i := 2) sc__law_take.nd rfl (by first | exact Or.inl rfl | exact Or.inr rfl) (pe_ix ix_list (pe_ix ix_list (pv 0) pe_int (fun _ _ => rfl)) (pe_ix ix_list (pv 0) pe_int (fun _ _ => rfl)) (fun _ _ => rfl)))
      (pss_cons (ps_asg (pe_op op_add (pe_ix ix_list (pv 0) pe_int (fun _ _ => rfl)) pe_int) (pg_sub (pv 0) pe_int set_list))
      (pss_cons (ps_if (pt_cmpR op_lt (pv 2) (pe_op op_pow pe_int pe_int) (nomark _)) (pss_one (ps_ret (pe_op op_mod (pe_callTy call_int1 (by rfl) T.b_int (by decide +kernel) (pa_cons (C8.pe_c c__law_mixed hr (by decide) rfl (pa_cons (pv 2) (pa_cons (pe_ix ix_list (pv 0) pe_int (fun _ _ => rfl)) pa_nil))) pa_nil)) (pv 1)))) pss_nil)
      (pss_one (ps_asg (pv 2) (pg_sub (pv 0) pe_int set_list)))))) pss_nil)
      (pss_cons (ps_if (pt_cmpR op_ge (pe_ix ix_list (pv 0) pe_int (fun _ _ => rfl)) (pv 1) (nomark _)) (pss_cons (ps_set (i := 3) sc__law_take.nd rfl (by first | exact Or.inl rfl | exact Or.inr rfl) (pe_op op_mod (pe_callTy call_int1 (by rfl) T.b_int (by decide +kernel) (pa_cons (pe_ix ix_list (pv 0) pe_int (fun _ _ => rfl)) pa_nil)) (pv 1)))
      (pss_cons (ps_asg (pe_op op_fdivW (pe_ix ix_list (pv 0) pe_int (fun _ _ => rfl)) (pv 1)) (pg_sub (pv 0) pe_int set_list))
      (pss_one (ps_ret (pv 3))))) pss_nil)
      (pss_one (ps_ret (pe_op op_mod (pe_callTy call_int1 (by rfl) T.b_int (by decide +kernel) (pa_cons (C8.pe_c c__law_mixed hr (by decide) rfl (pa_cons (pe_ix ix_list (pv 0) pe_int (fun _ _ => rfl)) (pa_cons (pe_ix ix_list (pv 0) pe_int (fun _ _ => rfl)) pa_nil))) pa_nil)) (pv 1)))))))), ?_⟩
    obtain ⟨n, acc, pos, bs, cells, h1, h2, hbc, ha, hp, hbs, hbs2, hcs, hl⟩ := hb
    have hcb : c ≠ b := hbc.symm
    have kk : ∀ (r n' acc' pos' : Int) (H' : Hp), H' b = some (.lst [.int n', .int acc', .int pos', .int bs, .ref c]) → Keep H H' b → 0 ≤ acc' → 0 ≤ pos' → 0 ≤ r → r < max 1 m → Q (.int r) H' :=
      fun r n' acc' pos' H' e kp e1 e2 e3 e4 => k r H' ⟨n', acc', pos', bs, cells, e, kp _ _ h2 hcb, hbc, e1, e2, hbs, hbs2, hcs, hl⟩ kp e3 e4
    walk_at "rd"
    have hM1 : (if m > 1 then m else 1) = max 1 m := by omega
    rw [hM1]
    have hMa : 1 ≤ max 1 m := by omega
    have hMb : (max 1 m).natAbs.log2 < 9000 := Nat.lt_of_lt_of_le (PySem.Flt.log2_lt_of (show 0 < 200 by decide) (show (max 1 m).natAbs < 2 ^ 200 by omega)) (show 200 ≤ 9000 by decide)
    generalize max 1 m = M at *
    have kp0 : ∀ l : List V, Keep H (upd H b (.lst l)) b := fun l => (Keep.refl H b).upd
    have tail1 : ∀ (r n' acc' pos' : Int) (H' : Hp), H' b = some (.lst [.int n', .int acc', .int pos', .int bs, .ref c]) → Keep H H' b → 0 ≤ acc' → 0 ≤ pos' → 0 ≤ r → Q (.int (r % M)) H' :=
      fun r n' acc' pos' H' e kp e1 e2 e3 => kk _ n' acc' pos' H' e kp e1 e2 (Int.emod_nonneg _ (by omega)) (Int.emod_lt_of_pos _ (by omega))
    refine ite2 (fun c1 => ?_) (fun c1 => ?_)
    · walk_at "rd"
      refine ⟨_, _, rfl, .inl ⟨_, SqL.of (by walk_at "hp"), rfl⟩, ?_⟩
      walk_at "rd"
      refine ite2 (fun c2 => ?_) (fun c2 => ?_)
      · have c2' := of_decide_eq_true c2
        rw [List.length_map] at c2'
        obtain ⟨x, hx⟩ : ∃ x, cells[pos.toNat]? = some x := ⟨_, List.getElem?_eq_getElem (by omega)⟩
        have hx0 : 0 ≤ x := hcs x (List.mem_of_getElem? hx)
        have hat : atI (cells.map V.int) pos = some (V.int x) := at_of (j := pos.toNat) (by omega) (by rw [List.getElem?_map, hx]; rfl)
        walk_at "rd"
        refine ite2 (fun c3 => ?_) (fun c3 => ?_)
        · have c3' : x < 10 ^ (18 : Int).toNat := of_decide_eq_true c3
          have c3'' : x < 1000000000000000000 := c3'
          walk_at "rd"
          refine ⟨hx0, by omega, fun r hr0 => ?_⟩
          walk_at "rd"
          exact tail1 r _ _ _ _ upd_same (Keep.refl H b).upd.upd ha (by omega) hr0
        · walk_at "rd"
          refine ite2 (fun c4 => ?_) (fun c4 => ?_)
          · walk_at "rd"
            exact tail1 x _ _ _ _ upd_same (Keep.refl H b).upd.upd.upd.upd (Int.ediv_nonneg hx0 (by omega)) (by omega) hx0
          · walk_at "rd"
            refine ⟨hbs, by omega, fun r hr0 => ?_⟩
            walk_at "rd"
            exact tail1 r _ _ _ _ (by walk_at "hp") (Keep.refl H b).upd.upd.upd hx0 (by omega) hr0
      · walk_at "rd"
        refine ite2 (fun c4 => ?_) (fun c4 => ?_)
        · walk_at "rd"
          exact tail1 acc _ _ _ _ upd_same (Keep.refl H b).upd.upd (Int.ediv_nonneg ha (by omega)) hp ha
        · walk_at "rd"
          refine ⟨hbs, by omega, fun r hr0 => ?_⟩
          walk_at "rd"
          exact tail1 r _ _ _ _ (by walk_at "hp") (Keep.refl H b).upd ha hp hr0
    · walk_at "rd"
      refine ite2 (fun c4 => ?_) (fun c4 => ?_)
      · walk_at "rd"
        exact tail1 acc _ _ _ _ upd_same (Keep.refl H b).upd.upd (Int.ediv_nonneg ha (by omega)) hp ha
      · walk_at "rd"
        refine ⟨hbs, by omega, fun r hr0 => ?_⟩
        walk_at "rd"
        exact tail1 r _ _ _ _ (by walk_at "hp") (Keep.refl H b).upd ha hp hr0
--#ty _law_name _law_letters=s _law_row=l _law_names=l _law_name_here=s _law_pool=l _law_letter=s _law_one=s
--#ty _law_name _law_row_here=l _law_names_here=l
--#ret _law_take i
--#ret _law_name s
--#cut _law_name 4
/-! ### _law_name -/
theorem letters_at : ∀ n : Nat, n < 26 → atI (("qwertyuiopasdfghjklzxcvbnm" : Str).cps.toList) (n : Int) = some (("qwertyuiopasdfghjklzxcvbnm" : Str).cps.toList.getD n 0) ∧ 97 ≤ ("qwertyuiopasdfghjklzxcvbnm" : Str).cps.toList.getD n 0 ∧ ("qwertyuiopasdfghjklzxcvbnm" : Str).cps.toList.getD n 0 ≤ 122 := by decide +kernel
theorem letter_at (i : Int) (h0 : 0 ≤ i) (h1 : i < 26) : ∃ c, atI (("qwertyuiopasdfghjklzxcvbnm" : Str).cps.toList) i = some c ∧ 97 ≤ c ∧ c ≤ 122 := by
  obtain ⟨n, rfl⟩ := Int.eq_ofNat_of_zero_le h0
  exact ⟨_, letters_at n (by omega)⟩
theorem strs_ne_bag {zs : List Str} {n acc pos bs : Int} {c : Addr} : HO.lst (zs.map V.str) ≠ HO.lst [.int n, .int acc, .int pos, .int bs, .ref c] := by
  intro e
  have e := HO.lst.inj e
  cases zs with
  | nil => cases e
  | cons z zs =>
    have := (List.cons.inj e).1
    cases this
theorem Bag.new {H : Hp} {b c p : Addr} {o : HO} (h : Bag H b c) (hp : H p = none) : Bag (upd H p o) b c := by
  obtain ⟨n, acc, pos, bs, cells, h1, h2, r⟩ := h
  exact ⟨n, acc, pos, bs, cells, (upd_ne (ne_of_none h1 hp)).trans h1, (upd_ne (ne_of_none h2 hp)).trans h2, r⟩
theorem inV_strs (z : Str) : ∀ zs : List Str, inV (.str z) (zs.map V.str) = decide (z ∈ zs)
  | [] => rfl
  | y :: zs => by
    have ih := inV_strs z zs
    unfold inV at ih ⊢
    rw [List.map_cons, List.any_cons, ih]
    show ((y == z) || decide (z ∈ zs)) = decide (z ∈ y :: zs)
    by_cases h : y = z
    · subst h
      simp
    · have h2 : (y == z) = false := by simpa using h
      have h3 : ¬ z = y := fun e => h e.symm
      simp [h2, h3]
theorem strs_flat (zs : List Str) : (zs.map V.str).all flatV = true := by
  rw [List.all_map, List.all_eq_true]
  intro _ _
  rfl
theorem take_snoc {α : Type} {l : List α} {i : Nat} {x : α} (h : l[i]? = some x) : l.take (i + 1) = l.take i ++ [x] := by
  rw [List.take_add_one, h]
  rfl
theorem strs_at {zs : List Str} {i : Nat} {y : V} (h : (zs.map V.str)[i]? = some y) : ∃ z, zs[i]? = some z ∧ y = V.str z := by
  rw [List.getElem?_map] at h
  cases e : zs[i]? with
  | none =>
    rw [e] at h
    cases h
  | some z =>
    rw [e] at h
    exact ⟨z, rfl, (Option.some.inj h).symm⟩
abbrev s__law_name : Stmt := top 22
theorem sc__law_name : FnScope ["_law_bag_here", "_law_names_here", "_law_letters", "_law_number", "_law_row_here", "_law_name_here", "_law_pool", "_law_letter", "_law_one"] ["_law_bag_here", "_law_names_here"] (defScope s__law_name) := ⟨rfl, rfl, rfl, by decide +kernel, rfl, by decide +kernel, by decide +kernel⟩
def spName : Sp := fun vs H Q _ => ∃ (b c q : Addr) (zs : List Str), vs = [.ref b, .ref q] ∧ Bag H b c ∧ H q = some (.lst (zs.map V.str)) ∧ zs.length ≤ 11 ∧
  ∀ (z : Str) H', Bag H' b c → Keep H H' b → Lz z → z ∉ zs → Q (.str z) H'
theorem ok_name {f : Addr} {fd : FuncData} (F : Fun K "_law_name" "_law_name" s__law_name f fd) (T : Bn mg) (c__law_take : C8.Cal P w K mg base 2 "_law_take" spTake []) : FnOk P w K mg base CX0 3 f fd ["_law_bag_here", "_law_names_here"] spName := by
  refine F.ok sc__law_name (fun vs H Q E h => ?_) (fun cdv A outer s H vs Q E hr h => ?_)
  · obtain ⟨b, c, q, zs, rfl, _⟩ := h
    rfl
  · obtain ⟨b, c, q, zs, rfl, hb, hq, hz, k⟩ := h
    have hqb : q ≠ b := by
      obtain ⟨n, acc, pos, bs, cells, h1, _⟩ := hb
      exact ne_of hq h1 strs_ne_bag
    refine ⟨_, (pss_cons (ps_set (i := 2) sc__law_name.nd rfl (by first | exact Or.inl rfl | exact Or.inr rfl) pe_str)
      (pss_cons (ps_set (i := 3) sc__law_name.nd rfl (by first | exact Or.inl rfl | exact Or.inr rfl) (C8.pe_c c__law_take hr (by decide) rfl (pa_cons (pv 0) (pa_cons (pe_op op_mul (pe_op op_mul (pe_op op_mul pe_int pe_int) pe_int) pe_int) pa_nil))))
      (pss_cons (ps_set (i := 4) sc__law_name.nd rfl (by first | exact Or.inl rfl | exact Or.inr rfl) (pe_lst (pa_cons (pe_ix ix_str (pv 2) (pe_op op_mod (pe_callTy call_int1 (by rfl) T.b_int (by decide +kernel) (pa_cons (pe_op op_fdiv (pv 3) pe_int) pa_nil)) pe_int) (fun _ _ => rfl)) (pa_cons (pe_ix ix_str (pv 2) (pe_op op_mod (pe_callTy call_int1 (by rfl) T.b_int (by decide +kernel) (pa_cons (pe_op op_fdiv (pv 3) pe_int) pa_nil)) pe_int) (fun _ _ => rfl)) (pa_cons (pe_ix ix_str (pv 2) (pe_op op_mod (pe_callTy call_int1 (by rfl) T.b_int (by decide +kernel) (pa_cons (pe_op op_fdiv (pv 3) pe_int) pa_nil)) pe_int) (fun _ _ => rfl)) pa_nil)))))
      (pss_cons (ps_set (i := 5) sc__law_name.nd rfl (by first | exact Or.inl rfl | exact Or.inr rfl) (pe_join pe_str (pe_slice sl_list (pv 4) po_none (po_some (pe_op op_add pe_int (pe_op op_mod (pe_callTy call_int1 (by rfl) T.b_int (by decide +kernel) (pa_cons (pv 3) pa_nil)) pe_int))))))
      (C8.pss_cut (ps_if (pt_cmpR op_eq (pe_op op_mod (pe_callTy call_int1 (by rfl) T.b_int (by decide +kernel) (pa_cons (pv 3) pa_nil)) pe_int) pe_int (nomark _)) (pss_one (ps_set (i := 5) sc__law_name.nd rfl (by first | exact Or.inl rfl | exact Or.inr rfl) (pe_slice sl_str (pe_op op_rep_str (pe_join pe_str (pv 4)) pe_int) po_none (po_some pe_int)))) pss_nil)
      (pss_cons (ps_set (i := 6) sc__law_name.nd rfl (by first | exact Or.inl rfl | exact Or.inr rfl) (pe_op op_cat (pe_lst (pa_cons (pv 5) pa_nil)) (pe_lc (own := [("_law_letter", 7)]) (g := gName 7) (tt := tYes) rfl sc__law_name.nd (pi_str pe_str) (blkOk_by (own := [("_law_letter", 7)]) (N := ["_law_bag_here", "_law_names_here", "_law_letters", "_law_number", "_law_row_here", "_law_name_here", "_law_pool", "_law_letter", "_law_one"]) (sc := defScope s__law_name) (by decide +kernel)) (fun _ _ _ _ _ => pg_name (i := 7) sc__law_name.nd rfl (by first | exact Or.inl rfl | exact Or.inr rfl)) (fun _ _ _ _ _ => pts_nil) (fun _ _ _ _ _ => (pe_op op_add_str (pe_slice sl_str (pv 5) po_none (po_some pe_int)) (pv 7))))))
      (pss_one (ps_ret (pe_ix ix_list (pe_lc (own := [("_law_one", 8)]) (g := gName 8) rfl sc__law_name.nd (pi_list (pv 6)) (blkOk_by (own := [("_law_one", 8)]) (N := ["_law_bag_here", "_law_names_here", "_law_letters", "_law_number", "_law_row_here", "_law_name_here", "_law_pool", "_law_letter", "_law_one"]) (sc := defScope s__law_name) (by decide +kernel)) (fun _ _ _ _ _ => pg_name (i := 8) sc__law_name.nd rfl (by first | exact Or.inl rfl | exact Or.inr rfl)) (fun _ _ _ _ _ => pts_one (pt_cmpR (show OpR _ (compareOp .NotIn) (rIn K true) from op_notIn_seq) (pv 8) (pv 1) (by rfl))) (fun _ _ _ _ _ => (pv 8))) pe_int (fun _ _ => rfl)))))))))), ?_⟩
    walk_at "rd"
    refine ⟨b, c, _, rfl, hb, by decide, fun r H1 hb1 hk1 h0 h1 => ?_⟩
    walk_at "rd"
    obtain ⟨c1, e1, l1, u1⟩ := letter_at ((r / 8) % 26) (by omega) (by omega)
    obtain ⟨c2, e2, l2, u2⟩ := letter_at ((r / 208) % 26) (by omega) (by omega)
    obtain ⟨c3, e3, l3, u3⟩ := letter_at ((r / 5408) % 26) (by omega) (by omega)
    have hlow : Lows [c1, c2, c3] := by
      intro d hd
      simp only [List.mem_cons, List.not_mem_nil, or_false] at hd
      rcases hd with rfl | rfl | rfl
      · exact ⟨l1, u1⟩
      · exact ⟨l2, u2⟩
      · exact ⟨l3, u3⟩
    refine ⟨_, _, c1, rfl, rfl, by decide, e1, ?_⟩
    walk_at "rd"
    refine ⟨_, _, c2, rfl, rfl, by decide, e2, ?_⟩
    walk_at "rd"
    refine ⟨_, _, c3, rfl, rfl, by decide, e3, ?_⟩
    refine ⟨by show 3 ≤ sizeLine; decide, fun p np => ?_⟩
    walk_at "rd"
    have hpb : b ≠ p := by
      obtain ⟨n, acc, pos, bs, cells, h1, _⟩ := hb1
      exact ne_of_none h1 np
    refine ⟨⟨_, rfl⟩, ?_⟩
    walk_at "rd"
    obtain ⟨l, hl3, el⟩ := row_cut c1 c2 c3 (1 + r % 4) (by omega) (by omega)
    refine ⟨_, _, rfl, SqL.of upd_same, fun p2 np2 => ?_⟩
    have es : SqL K (upd (upd H1 p (.lst [.str (S [c1]), .str (S [c2]), .str (S [c3])])) p2 (.lst (cutV [.str (S [c1]), .str (S [c2]), .str (S [c3])] none (some (1 + r % 4))))) p2 ((l.map fun c => S [c]).map V.str) := by
      rw [← el]
      exact SqL.of upd_same
    have hsz : ((l.map fun c => S [c]).map (·.length)).sum + (l.map fun c => S [c]).length * (Str.ofString "").length ≤ 16777216 := by
      refine join_size l ?_
      rcases hl3 with rfl | rfl | rfl <;> simp
    refine ⟨_, p2, l.map fun c => S [c], rfl, rfl, .inl es, hsz, ?_⟩
    rw [show Txt.join (Str.ofString "") (l.map fun c => S [c]) = S l from join_row hl3]
    have hnm : Nm l := by
      rcases hl3 with rfl | rfl | rfl
      · exact ⟨by simp, by simp, fun d hd => hlow d (by simp at hd; simp [hd])⟩
      · exact ⟨by simp, by simp, fun d hd => hlow d (by simp at hd; rcases hd with rfl | rfl <;> simp)⟩
      · exact ⟨by simp, by simp, hlow⟩
    have hk3 := fun o => (hk1.new np).new (o := o) np2
    have hb3 := fun o => (hb1.new np).new (o := o) np2
    refine ⟨fun σ' H' => ∃ l : List Nat, Nm l ∧ Rep l ∧ σ' = [some (.ref b), some (.ref q), some (.str "qwertyuiopasdfghjklzxcvbnm"), some (.int r), some (.ref p), some (.str (S l)), none, none, none] ∧ Bag H' b c ∧ Keep H H' b, ?_, ?_⟩
    · walk_at "rd"
      refine ite2 (fun c => ?_) (fun c => ?_)
      · walk_at "rd"
        refine ⟨⟨_, rfl⟩, ?_⟩
        walk_at "rd"
        refine ⟨_, p, [S [c1], S [c2], S [c3]], rfl, rfl, .inl (SqL.of ?_), join_size [c1, c2, c3] (by simp), ?_⟩
        · rw [upd_ne (fun z => by rw [z] at np2; rw [← z, upd_same] at np2; cases np2)]
          exact upd_same
        rw [show Txt.join (Str.ofString "") [S [c1], S [c2], S [c3]] = S [c1, c2, c3] from join_row (a := c1) (b := c2) (c := c3) (.inr (.inr rfl))]
        walk_at "rd"
        refine ⟨by decide, by decide, by show (0 : Nat) < 3; decide, by show (3 : Nat) ≤ 1000; decide, ?_⟩
        walk_at "rd"
        refine ⟨by show (12 : Nat) ≤ sizeLine; decide, ?_⟩
        refine ⟨_, lows_rep hlow, .inr rfl, ?_, hb3 _, hk3 _⟩
        rw [← show cutS (S ((List.replicate 4 [c1, c2, c3]).flatten)) none (some ((12 : Nat) : Int)) = S (((List.replicate 4 [c1, c2, c3]).flatten).take 12) from cutS_to _ 12]
        rfl
      · exact ⟨l, hnm, .inl (by rcases hl3 with rfl | rfl | rfl <;> simp), rfl, hb3 _, hk3 _⟩
    · rintro σ' H2 ⟨l, hl, hrp, rfl, hb2, hk2⟩
      walk_at "rd"
      refine ⟨by show 1 ≤ sizeLine; decide, fun p1 np1 => ?_⟩
      refine ⟨_, rfl, fun D nD => ?_⟩
      have hp1D : p1 ≠ D := ne_of_none (o := .lst [.str (S l)]) upd_same nD
      have hab : ("abcdefghijkl" : Str) = S [97, 98, 99, 100, 101, 102, 103, 104, 105, 106, 107, 108] := by decide +kernel
      rw [hab]
      let H3 := upd H2 p1 (.lst [.str (S l)])
      have nD3 : H3 D = none := nD
      refine lc_it walk_str (fun i H' => H' D = some (.lst ((([97, 98, 99, 100, 101, 102, 103, 104, 105, 106, 107, 108].take i).map fun c => S (l.take 3 ++ [c])).map V.str)) ∧ Same H3 H') ?_ (fun _ _ _ _ => trivial) ?_ ?_
      · exact ⟨upd_same, Same.set (Same.refl H3) nD3⟩
      · rintro i x H' H'' hi ⟨hD, hs⟩ ⟨rfl, c, hc, rfl⟩
        walk_at "rd"
        refine ⟨nm_size hl, ?_⟩
        walk_at "rd"
        rw [show cutS (S l) none (some (3 : Int)) = S (l.take 3) from cutS_to l 3]
        have hi12 : i < 12 := hi
        have hc' : ([97, 98, 99, 100, 101, 102, 103, 104, 105, 106, 107, 108] : List Nat)[i]? = some c := by
          rw [← Array.getElem?_toList] at hc
          exact hc
        refine ⟨?_, _, hD, ?_, ?_, Same.set hs nD3⟩
        · have e1 : (S (l.take 3)).length ≤ 3 := by
            rw [S_len, List.length_take]
            omega
          have e2 : (⟨#[c]⟩ : Str).length = 1 := rfl
          rw [e2, sizeLine_eq]
          omega
        · rw [List.length_map, List.length_map, List.length_take]
          exact small1000 (by omega)
        · rw [upd_same, take_snoc hc', List.map_append, List.map_append]
          show some (HO.lst (_ ++ [V.str (S (l.take 3) ++ S [c])])) = some (HO.lst (_ ++ [V.str (S (l.take 3 ++ [c]))]))
          rw [S_cat]
      · rintro H' ⟨hD, hs⟩
        have hp1 : H' p1 = some (.lst [.str (S l)]) := hs _ _ upd_same
        refine ⟨_, _, _, _, rfl, rfl, hp1, hD, by show 1 + 12 ≤ sizeLine; decide, fun p3 np3 => ?_⟩
        have hb' : Bag H' b c := (hb2.new np1).same hs
        have hk' : Keep H H' b := (hk2.new np1).same hs
        walk_at "rd"
        refine ⟨⟨_, SqL.of upd_same⟩, fun D2 nD2 => ?_⟩
        let H4 := upd H' p3 (.lst ((poolOf l).map V.str))
        have hq4 : H4 q = some (.lst (zs.map V.str)) := by
          have e : H' q = some (.lst (zs.map V.str)) := hk' q _ hq hqb
          exact (upd_ne (ne_of_none e np3)).trans e
        have hb4 : Bag H4 b c := hb'.new np3
        have hk4 : Keep H H4 b := hk'.new np3
        have nD4 : H4 D2 = none := nD2
        have hp4 : H4 p3 = some (.lst ((poolOf l).map V.str)) := upd_same
        refine lc_list (K := K) (a := p3) (xs := (poolOf l).map V.str) (fun i H5 => H5 D2 = some (.lst ((((poolOf l).take i).filter fun z => !decide (z ∈ zs)).map V.str)) ∧ Same H4 H5) ?_ ?_ ?_ ?_
        · exact ⟨upd_same, Same.set (Same.refl H4) nD4⟩
        · rintro i H5 _ ⟨_, hs5⟩
          exact SqL.of (hs5 _ _ hp4)
        · rintro i x H5 hi ⟨hD5, hs5⟩
          obtain ⟨z, hz', rfl⟩ := strs_at hi
          refine ⟨rfl, ?_⟩
          walk_at "rd"
          refine ⟨_, _, rfl, .inl (SqL.of (hs5 _ _ hq4)), rfl, strs_flat zs, ?_⟩
          rw [inV_strs]
          walk_at "rd"
          have hlen : (((poolOf l).take i).filter fun z => !decide (z ∈ zs)).length ≤ 13 := by
            refine Nat.le_trans (List.length_filter_le _ _) ?_
            rw [List.length_take, pool_len]
            omega
          refine ite2 (fun c => ?_) (fun c => ?_)
          · walk_at "rd"
            refine ⟨_, hD5, ?_, ?_, Same.set hs5 nD4⟩
            · rw [List.length_map]
              exact small1000 (by omega)
            · rw [upd_same, take_snoc hz', List.filter_append, List.map_append]
              have c' : (!decide (z ∈ zs)) = true := c
              rw [show List.filter (fun z => !decide (z ∈ zs)) [z] = [z] by simp [List.filter, c']]
              rfl
          · refine ⟨?_, hs5⟩
            have c' : (!decide (z ∈ zs)) = false := by simpa using c
            rw [take_snoc hz', List.filter_append, show List.filter (fun z => !decide (z ∈ zs)) [z] = [] by simp [List.filter, c'], List.append_nil]
            exact hD5
        · rintro H5 ⟨hD5, hs5⟩
          rw [List.length_map, List.take_length] at hD5
          obtain ⟨z0, hz0, hn0⟩ := pool_fresh l hz
          have hm0 : z0 ∈ (poolOf l).filter fun z => !decide (z ∈ zs) := List.mem_filter.mpr ⟨hz0, by simp [hn0]⟩
          obtain ⟨y, ys, ey⟩ := List.exists_cons_of_ne_nil (List.ne_nil_of_mem hm0)
          have hy : y ∈ (poolOf l).filter fun z => !decide (z ∈ zs) := by
            rw [ey]
            exact List.mem_cons_self ..
          obtain ⟨hy1, hy2⟩ := List.mem_filter.mp hy
          rw [ey] at hD5
          walk_at "rd"
          refine ⟨_, _, _, _, rfl, rfl, SqL.of hD5, at_of (j := 0) rfl (v := .str y) rfl, ?_⟩
          exact k y H5 (hb4.same hs5) (hk4.same hs5) (pool_low hl hrp y hy1) (by simpa using hy2)
end
end Fk

/-! tuple(d.values()) -/
namespace Fx
open PySem PySem.Spec PyProof.Rows L2
section
variable {prog : Program} {w : World} {A : Around} {E : Value → Shared → Prop} {s : Shared} {T : String} {r d : Addr} {n : Nat} {Pr : Nat → Value → Prop} {OK : Heap → Prop}
/-- all that a source yields, collected -/
theorem gather {Q : List Value → Shared → Prop} (src : PySem.W.KdlSrc prog w T r d n Pr OK) (hh : A.handled = none) (hok : OK s.heap) (small : n ≤ sizeLine)
    (hQ : ∀ (h' : Heap) (tk : Nat) (acc : Array Value), (∀ b o, s.heap.get? b = some o → h'.get? b = some o) → ItemsOf Pr acc n → Q acc.toList { s with heap := h', toks := tk }) : wpAny (model prog w) A (collect (.ref r)) Q E s := by
  have old := src.there _ hok
  unfold collect
  refine wpAny_bind (wpAny_runValue (codeAny_builtin F.entry_proto_collect ?_))
  rw [Around.under_plainId F.plain_proto_collect _]
  show wpAny _ A.in1 (newList [] >>= fun z => again (.builtin "list.__iadd__" ⟨[z, .ref r], []⟩)) _ _ s
  refine wpAny_bind (wpAny_newObj_type (wpAny_pure ⟨plainId_quiet F.plain_list_iadd _, codeAny_builtin F.entry_list_iadd ?_⟩))
  rw [Around.under_plainId F.plain_list_iadd _]
  show wpAny _ A.in1 (Builtin.List.listExtendWith (.ref s.heap.objs.size) (.ref r) (.ref s.heap.objs.size)) _ _ _
  have grown : ∀ b o, s.heap.get? b = some o → (s.heap.push { cls := .type "list", data := .seq ([] : List Value).toArray }).get? b = some o := fun b o e => Heap.get?_push_of_some _ e
  refine wpAny_mono (PySem.W.kdl_extend (s := { s with heap := s.heap.push { cls := .type "list", data := .seq ([] : List Value).toArray } }) (A := A)
    (R := fun q s1 => q = .ok (.ret (.ref s.heap.objs.size)) ∧ ∃ (h' : Heap) (tk : Nat) (acc : Array Value) (c' : Nat), s1 = { s with heap := h', toks := tk } ∧ (∀ b o, s.heap.get? b = some o → h'.get? b = some o) ∧
      h'.get? s.heap.objs.size = some { cls := .type "list", dict := none, data := .seq acc c', slots := #[] } ∧ ItemsOf Pr acc n)
    src hh (src.keep _ _ hok fun b _ o e => grown b o e) s.heap.objs.size (Nat.ne_of_gt old.1) (Nat.ne_of_gt old.2) (.ref s.heap.objs.size) 0 (Heap.get?_push_size _ rfl) (fun h' tk acc c' k e items => ?_) small) (fun fin s1 h => ?_) (fun e s1 h => ?_)
  · exact ⟨rfl, h', tk, acc, c', rfl, fun b o q => k b o (Nat.ne_of_lt (Heap.lt_size q)) (grown b o q), e, items⟩
  · have last : ∀ {h' : Heap} {tk : Nat} {acc : Array Value} {c' : Nat}, (∀ b o, s.heap.get? b = some o → h'.get? b = some o) → h'.get? s.heap.objs.size = some { cls := .type "list", dict := none, data := .seq acc c', slots := #[] } → ItemsOf Pr acc n →
        wpAny (model prog w) A (load s.heap.objs.size >>= fun ob => match ob.data with | .seq a _ => (pure a.toList : Sem (List Value)) | _ => pure []) Q E { s with heap := h', toks := tk } := fun {h' tk acc c'} k e items =>
      wpAny_bind (wpAny_load e (wpAny_pure (hQ h' tk acc k items)))
    cases fin with
    | done f =>
      obtain ⟨e, h', tk, acc, c', rfl, k, hS, items⟩ := h
      cases e
      show wpAny _ A (load s.heap.objs.size >>= _) _ _ _
      exact wpAny_bind (wpAny_load hS (wpAny_pure (hQ h' tk acc k items)))
    | again c2 =>
      refine ⟨h.1, codeAny_mono h.2 fun q s2 hq => ?_⟩
      obtain ⟨rfl, h', tk, acc, c', rfl, k, hS, items⟩ := hq
      show wpAny _ A (load s.heap.objs.size >>= _) _ _ _
      exact wpAny_bind (wpAny_load hS (wpAny_pure (hQ h' tk acc k items)))
  · exact absurd h.1 (by simp)
theorem tup_of {Q : Value → Shared → Prop} (src : PySem.W.KdlSrc prog w T r d n Pr OK) (hT : T = "dict_values") (hh : A.handled = none) (hok : OK s.heap) (small : n ≤ sizeLine)
    (hQ : ∀ (h' : Heap) (tk : Nat) (acc : Array Value), (∀ b o, s.heap.get? b = some o → h'.get? b = some o) → ItemsOf Pr acc n → Q (.ref h'.objs.size) { s with heap := h'.push { cls := .type "tuple", data := .seq acc }, toks := tk }) :
    wpAny (model prog w) A (call (.type "tuple") [.ref r]) Q E s := by
  subst hT
  refine callType_codes (Q₁ := fun v s1 => s1.TypeIs v "tuple" ∧ Q v s1) F.called_tuple (F.typeCall_tuple_1 _) F.entry_object_init (codeAny_of_tree ?_) fun v s1 h1 =>
    ⟨h1.1, F.args_object_init_2 v _, object_init_meets F.called_tuple.init.lookup F.called_tuple.made (by decide) prog w A.in1 _ s1 ⟨h1.1, rfl, h1.2⟩⟩
  show wpAny _ A.in1.in1 (do checkBuiltinCall "tuple.__new__" ⟨[.type "tuple", .ref r], []⟩; again (.builtin "tuple.__new__" ⟨[.type "tuple", .ref r], []⟩)) _ _ s
  refine wpAny_bind (wpAny_of_eq (F.newCall_tuple_1 _) (wpAny_pure ⟨plainId_quiet F.plain_tuple_new _, codeAny_builtin F.entry_tuple_new ?_⟩))
  rw [Around.under_plainId F.plain_tuple_new _]
  have k1 := sub_tuple_self
  have k2 := init_tuple_lookup
  have k3 := madeHere_tuple
  have ty : s.TypeIs (.ref r) "dict_values" := src.type s hok
  have hh1 : A.in1.in1.handled = none := hh
  wp_walk using wpAny_typeOf ty, gather (A := A.in1.in1) src hh1 hok small
  intro h' tk acc k items
  show wpAny _ _ (Builtin.Tuple.tupleExact acc.toList.toArray >>= fun v => ret v) _ _ _
  unfold Builtin.Tuple.tupleExact
  refine wpAny_bind (wpAny_newObj_type (wpAny_pure ?_) (by show acc.toList.toArray.size ≤ sizeLine; rw [Array.toArray_toList, items.1]; exact small))
  rw [show acc.toList.toArray = acc by simp]
  exact ⟨⟨_, Heap.get?_push_size _ rfl, rfl⟩, hQ h' tk acc k items⟩
end
theorem vals_snd {α : Type} : ∀ {kvs : List (α × V)} {vs : List (α × Value)}, Paired (fun a b => a.1 = b.1 ∧ RelV a.2 b.2) kvs vs → Vals (kvs.map (·.2)) (vs.map (·.2))
  | [], [], _ => .nil
  | _ :: _, _ :: _, .cons h r => .cons h.2 (vals_snd r)
/-- tuple(e.values()): e a dict with keys that are numbers or texts -/
def tTupVals (td : TE) : TE := fun σ H Q => td σ H fun x H1 => ∃ d kvs, x = .ref d ∧ H1 d = some (.dK kvs) ∧ ∀ q, H1 q = none → Q (.ref q) (upd H1 q (.tup (kvs.map (·.2))))
theorem pe_tupVals {X : Cx} {e : Expr} {td : TE} {p apos cpos pos : Pos} (calm : X.calm = true) (hg : Gl X "tuple") (hm : X.mg "tuple" = none) (he : PE X e td) (hbase : attributeBase e "values" X.env (eval e X.env) = eval e X.env := by rfl) (hline : (apos.endLine == cpos.line) = true := by rfl)
    (na : starEach [(.Call (.Attribute e "values" apos) [] [] cpos)] X.env = (false, eval (.Call (.Attribute e "values" apos) [] [] cpos) X.env) :: starEach [] X.env := by rfl) : PE X (.Call (.Name "tuple" p) [.Call (.Attribute e "values" apos) [] [] cpos] [] pos) (tTupVals td) := by
  refine ⟨fun pins s σ H Q I h => ?_⟩
  refine Call_ (ld_blt I hg hm boot_tuple (PyProof.Rows.callWith_type1 (args_cons ?_ na) na))
  refine wpAny_Call_method (T := "dict") (id := "dict.values") hbase rfl hline F.plainAttrs_dict F.slot_dict_values F.type_dict_values (thn (he.run pins s σ H _ I h) fun u s1 ⟨x, H1, I1, rx, d, kvs, ex, hd, q⟩ => ?_)
  subst ex
  obtain rfl : u = Value.ref d := rx
  obtain ⟨z, lo, vs, rk, hD⟩ := (show ObjOk X.prog X.w H1 s1.heap d (.dK kvs) from I1.hok d _ hd)
  obtain ⟨ep, hat⟩ := hD.dictAt
  have hl : kvs.length = vs.length := Paired.length rk
  refine ⟨hD.typeIs, hD.mapOf.noDict, ?_⟩
  show wpAny _ _ (callWith cpos (.builtin "dict.values") [.ref d] [] []) _ X.xe s1
  have I2 : Inv X pins σ H1 { s1 with heap := s1.heap.push { cls := .type "dict_values", data := .fields #[.ref d] } } := I1.kept (t' := s1.toks) fun b o e => Heap.get?_push_of_some _ e
  refine method_meetsIn F.slot_dict_values F.entry_dict_values rfl (PySem.evalArgs_none ⟨rfl, hD.typeIs, F.args_dict_values_1 _, _, meets_dict_values (mixKind X.prog X.w) d lo, ⟨vs, hD⟩, ?_⟩)
  refine args_nil ?_
  refine tup_of (PySem.W.kdl_values (knd := mixKind X.prog X.w) (r := s1.heap.objs.size) (d := d) (kvs := vs) (ep := ep)) rfl (I1.ok.hd calm) ⟨⟨_, Heap.get?_push_size _ rfl, rfl, rfl⟩, hat.push _⟩ (by rw [← hl]; exact z) fun h' tk acc keep items => ?_
  have I3 : Inv X pins σ H1 { s1 with heap := h', toks := tk } := I2.kept keep
  have I4 : Inv X pins σ (upd H1 h'.objs.size (.tup (kvs.map (·.2)))) { s1 with heap := h'.push { cls := .type "tuple", data := .seq acc }, toks := tk } := by
    refine I3.laid (t' := tk) (fun b o e => Heap.get?_push_of_some _ e) (Nat.le_refl _) (show ObjOk X.prog X.w _ _ _ (.tup (kvs.map (·.2))) from ⟨by rw [List.length_map]; exact z, acc.toList, ?_, ?_⟩)
    · have e : acc.toList = vs.map (·.2) := PySem.W.kdl_vals_eq acc.toList (by rw [Array.length_toList]; exact items.1) fun j v hj => items.2 j v (by rw [← hj, Array.getElem?_toList])
      rw [e]
      exact vals_snd rk
    · rw [Array.toArray_toList]
      exact IsTup.new _ _
  exact ⟨.ref h'.objs.size, _, I4, rfl, q _ (I3.hok.fresh (Nat.le_refl _))⟩
end Fx

/-! objects of a class of the program: made by an __init__ that may raise, asked by their methods -/
namespace Fx
open PySem PySem.Spec PyProof.Rows L2
/-- the class x at C, its __init__ keeps sp and may raise -/
structure MkX (P : Program) (w : World) (K : PySem.W.Frag) (mg : Str → Option Value) (base : Heap) (k : Nat) (x : Str) (C : Addr) (sp : Sp) : Prop where
  ex : ∃ (f : Addr) (fd : FuncData) (ps : List Str), Mk K C f ∧ FnOk P w K mg base (L2N.CX P w) k f fd ps sp ∧ mg x = some (.ref C) ∧ Binds K fd ps []
/-- x(..): the new object at y, its dict at dy -/
def tMkX (C : Addr) (sp : Sp) (W : WX) (t : TA) : TE := fun σ H Q => t σ H fun vs H1 => ∀ y dy, H1 y = none → H1 dy = none → dy ≠ y → sp (.ref y :: vs) (upd (upd H1 dy (.own y)) y (.ins C dy [])) (fun v H2 => v = .non ∧ Q (.ref y) H2) (WE W σ)
theorem pe_mkX {X : Cx} {j k : Nat} {x : Str} {C : Addr} {sp : Sp} {W : WX} {e : Expr} {es : List Expr} {t : TA} {p pos : Pos} (c : MkX X.prog X.w X.K X.mg X.base k x C sp) (hr : Room j X.A) (hk : k + 1 ≤ j) (hg : Gl X x) (tk : L2N.Takes X W) (ha : PA X (e :: es) t)
    (hdb : (x == ("__debug__" : Str)) = false := by decide) (he : starEach (e :: es) X.env = (false, eval e X.env) :: starEach es X.env := by rfl) (hpl : (backTo pos (starEach es X.env)).any (·.1) = false := by rfl) : PE X (.Call (.Name x p) (e :: es) [] pos) (tMkX C sp W t) := by
  obtain ⟨f, fd, ps, M, F, hm, b⟩ := c.ex
  refine ⟨fun pins s σ H Q I h => ?_⟩
  refine wpAny_Call_Name_kw (ld_glob I hg hm ?_ hdb)
  refine PySem.W.callWith_K (h₀ := X.base) I.ok.mod.kin M.kp (thn (ha.run pos pins s σ H _ I h) fun us s1 ⟨vs, H1, I1, r, q⟩ => ⟨I1.kIn, ?_⟩) he hpl
  have asked := q (s1.heap.objs.size + 1) s1.heap.objs.size (I1.hok.fresh (Nat.le_succ _)) (I1.hok.fresh (Nat.le_refl _)) (Nat.ne_of_lt (Nat.lt_succ_self _))
  have J := Inv.made (C := C) I1
  have rel : Vals (V.ref (s1.heap.objs.size + 1) :: vs) (Value.ref (s1.heap.objs.size + 1) :: us) := .cons rfl r
  have len : (Value.ref (s1.heap.objs.size + 1) :: us).length = ps.length := by rw [← rel.length]; exact F.len _ _ _ _ asked
  have bound := b _ (Value.ref (s1.heap.objs.size + 1) :: us) J.kIn (by rw [List.append_nil]; exact len)
  rw [List.append_nil] at bound
  have ran := F.run _ X.stack _ _ ⟨Value.ref (s1.heap.objs.size + 1) :: us, []⟩ _ _ _ _ ((hr.mono hk).make C us []) (J.env0.make C us []) bound rel asked
  refine wpAny_call (make_map (f := f) I1.kIn M.makes M.init (beq_iff_eq.mp M.fn) (codeAny_mono ran fun r2 s2 got => ?_))
  match r2 with
  | .error e =>
    exact tk e s2 (L2N.XE.of_call J (fun _ _ _ z => z) got)
  | .ok (.ret u) =>
    obtain ⟨v, H2, J2, rv, ev, q2⟩ := J.after got
    subst ev
    exact ⟨rv, ⟨V.ref (s1.heap.objs.size + 1), H2, J2, rfl, q2⟩⟩
  | .ok .next | .ok .brk | .ok .cont => exact got.elim
/-- a method m of the class at C that raises nothing -/
structure MethC (P : Program) (w : World) (K : PySem.W.Frag) (mg : Str → Option Value) (base : Heap) (k : Nat) (C : Addr) (m : Str) (sp : Sp) : Prop where
  ex : ∃ (f : Addr) (fd : FuncData) (ps : List Str), Meth K C m f ∧ FnOk P w K mg base CX0 k f fd ps sp ∧ Binds K fd ps []
theorem pe_mc0 {X : Cx} {j k : Nat} {C : Addr} {m : Str} {sp : Sp} {o : Expr} {to : TE} {apos pos : Pos} {pl : Sem Bool} (c : MethC X.prog X.w X.K X.mg X.base k C m sp) (cl : Cls X.K C) (hr : Room j X.A) (hk : k ≤ j) (ho : PE X o to)
    (ht : eval (.Call (.Attribute o m apos) [] [] pos) X.env = (do
      let v ← eval o X.env
      standAt apos.atName
      let (g, self) ← holding [v] (getMethod v m pl)
      callWith pos g self (backTo pos (starEach [] X.env)) (backToKw pos (keywordEach [] X.env))) := by rfl) : PE X (.Call (.Attribute o m apos) [] [] pos) (tMeth C m sp [] C8.E0 to tNil) := by
  obtain ⟨f, fd, ps, M, F, b⟩ := c.ex
  exact pe_meth0 ho cl M F (hr.mono hk) b .nil pass0 ht
end Fx

namespace Fk
open PySem L2
local macro_rules | `(tactic| walk_at "rdc") => `(tactic| (first | exact Or.inl ⟨by decide, by decide⟩ | exact Or.inr ⟨by decide, by decide⟩ | exact ⟨by decide, by decide⟩ | exact Or.inl ⟨by omega, by omega⟩ | exact Or.inr ⟨by omega, by omega⟩ | ((show (0 : Int) < _); (first | decide | omega)) | exact ⟨by decide, by decide, by decide⟩ | exact ⟨by omega, by assumption⟩))
local macro_rules | `(tactic| walk_at "hp") => `(tactic| (first | exact upd_same | assumption | ((rw [upd_ne (by assumption)]); (first | exact upd_same | assumption | ((rw [upd_ne (by assumption)]); (first | exact upd_same | assumption | ((rw [upd_ne (by assumption)]); (first | exact upd_same | assumption))))))))
local macro_rules | `(tactic| walk_at "r1") => `(tactic| (first | refine ⟨_, rfl, ?_⟩ | refine ⟨_, _, rfl, rfl, ?_⟩ | refine ⟨_, _, rfl, ?_⟩ | refine Or.inl ⟨_, rfl, ?_⟩ | refine ⟨rfl, ?_⟩ | refine ⟨(by walk_at "rdc"), ?_⟩ | refine ⟨_, _, _, _, rfl, rfl, SqL.of (by walk_at "hp"), rfl, ?_⟩ | refine ⟨_, _, _, _, rfl, rfl, (by walk_at "hp"), rfl, ?_⟩ | refine ⟨_, _, _, _, rfl, rfl, SqL.of (by walk_at "hp"), by assumption, ?_⟩))
local macro_rules | `(tactic| walk_at "rd") => `(tactic| (repeat walk_at "r1"))
--#ty table_of table=d names=l pitches=l name=s pitch=i
--#ty is_name word=s
--#ty check_name word=s
--#ty * ._names=l ._table=d
--#raising check_name table_of
--#okX check_name table_of Tuning.__init__
--#ret is_name b
/-! ### names -/
/-- what the program takes for a name -/
def nameB (z : Str) : Bool := decide ((z.length : Int) ≤ 12) && (Txt.isascii z && (Txt.isalpha z && Txt.islower z))
/-- what is known of the module -/
structure Tw (P : Program) (K : PySem.W.Frag) (mg : Str → Option Value) (CB CR : Addr) (t0 : Tok) : Prop where
  b_len : mg "len" = none
  g_MOST_LETTERS : mg "MOST_LETTERS" = some (.int 12 t0)
  e_BadName : Err1 P K mg "BadName" CB "name" 114
  e_RepeatedFork : Err1 P K mg "RepeatedFork" CR "name" 114
  b_zip : mg "zip" = none
section
variable {P : Program} {w : World} {K : PySem.W.Frag} {mg : Str → Option Value} {base : Heap}
abbrev s_is_name : Stmt := top 10
theorem sc_is_name : FnScope ["word"] ["word"] (defScope s_is_name) := ⟨rfl, rfl, rfl, by decide +kernel, rfl, by decide +kernel, by decide +kernel⟩
def spIsName : Sp := fun vs H Q _ => ∃ z : Str, vs = [.str z] ∧ z.length ≤ 1000 ∧ Q (.bl (nameB z)) H
theorem ok_is_name {f CB CR : Addr} {t0 : Tok} {fd : FuncData} (F : Fun K "is_name" "is_name" s_is_name f fd) (T : Tw P K mg CB CR t0) : FnOk P w K mg base CX0 1 f fd ["word"] spIsName := by
  refine F.ok sc_is_name (fun vs H Q E h => ?_) (fun cdv A outer s H vs Q E hr h => ?_)
  · obtain ⟨z, rfl, _⟩ := h
    rfl
  · obtain ⟨z, rfl, hz, k⟩ := h
    refine ⟨_, (pss_one (ps_ret (pe_and (pe_cmpR op_le (pe_callB call_len (by rfl) T.b_len PySem.boot_len (pa_cons (pv 0) pa_nil)) (pe_glob (v := .int _) rfl T.g_MOST_LETTERS ⟨_, rfl⟩) (nomark _)) (pe_and (pe_m0 PySem.F.slot_str_isascii PySem.F.type_str_isascii mt_isascii (pv 0)) (pe_and (pe_m0 PySem.F.slot_str_isalpha PySem.F.type_str_isalpha mt_isalpha (pv 0)) (pe_one (pe_m0 PySem.F.slot_str_islower PySem.F.type_str_islower mt_islower (pv 0)))))))), ?_⟩
    walk_at "rd"
    refine ⟨_, _, rfl, ⟨Nat.le_trans hz (by decide), rfl⟩, ?_⟩
    walk_at "rd"
    have e : Q (.bl (nameB z)) H := k
    unfold nameB at e
    generalize decide ((z.length : Int) ≤ 12) = a1 at e ⊢
    walk_at "rd"
    refine ite2 (fun c => ?_) (fun c => ?_)
    · rw [c] at e
      refine ⟨_, rfl, ⟨_, rfl⟩, _, rfl, rfl, trivial, ?_⟩
      generalize Txt.isascii z = a2 at e ⊢
      walk_at "rd"
      refine ite2 (fun c => ?_) (fun c => ?_)
      · rw [c] at e
        refine ⟨_, rfl, ⟨_, rfl⟩, _, rfl, rfl, trivial, ?_⟩
        generalize Txt.isalpha z = a3 at e ⊢
        walk_at "rd"
        refine ite2 (fun c => ?_) (fun c => ?_)
        · rw [c] at e
          exact ⟨_, rfl, ⟨_, rfl⟩, _, rfl, rfl, trivial, e⟩
        · rw [show a3 = false by simpa using c] at e
          exact e
      · rw [show a2 = false by simpa using c] at e
        exact e
    · rw [show a1 = false by simpa using c] at e
      exact e
abbrev s_check_name : Stmt := top 11
theorem sc_check_name : FnScope ["word"] ["word"] (defScope s_check_name) := ⟨rfl, rfl, rfl, by decide +kernel, rfl, by decide +kernel, by decide +kernel⟩
def spCheck (CB : Addr) : Sp := fun vs H Q E => ∃ z : Str, vs = [.str z] ∧ z.length ≤ 1000 ∧ FmX 114 (.str z) ∧ (nameB z = true → Q .non H) ∧ (nameB z = false → ∀ d, H d = none → E (.ref CB) (some d) (upd H d (.xd [("name", .str z)])))
theorem ok_check_name {f CB CR : Addr} {t0 : Tok} {fd : FuncData} (F : Fun K "check_name" "check_name" s_check_name f fd) (T : Tw P K mg CB CR t0) (c_is_name : C8.Cal P w K mg base 1 "is_name" spIsName []) : FnOk P w K mg base (L2N.CX P w) 3 f fd ["word"] (spCheck CB) := by
  refine F.okN sc_check_name (fun vs H Q E h => ?_) (fun cdv A outer s H vs Q E hr h => ?_)
  · obtain ⟨z, rfl, _⟩ := h
    rfl
  · obtain ⟨z, rfl, hz, fm, yes, no⟩ := h
    refine ⟨_, (pss_one (ps_if (pt_not (pt_val (C8.pe_c c_is_name hr (by decide) rfl (pa_cons (pv 0) pa_nil)))) (pss_one (L2N.ps_raise rfl (L2N.takes_of rfl rfl rfl rfl) (by exact (pmk_err1 T.e_BadName hr (pa_cons (pv 0) pa_nil))))) pss_nil)), ?_⟩
    walk_at "rd"
    refine ⟨hz, ?_⟩
    walk_at "rd"
    refine ite2 (fun c => ?_) (fun c => ?_)
    · walk_at "rd"
      exact ⟨⟨_, rfl, fm⟩, fun d hd => no (by simpa using c) d hd⟩
    · exact yes (by simpa using c)
/-! ### the table of the names -/
/-- what is wrong with z behind the names in seen -/
def step (seen : List Str) (z : Str) : Option (Bool × Str) := if nameB z = false then some (true, z) else if z ∈ seen then some (false, z) else none
/-- what is wrong first with the first i of ws -/
def vd (ws : List Str) : Nat → Option (Bool × Str)
  | 0 => none
  | i + 1 => match vd ws i with
    | some v => some v
    | none => match ws[i]? with
      | some z => step (ws.take i) z
      | none => none
theorem vd_stays {ws : List Str} {i : Nat} {v : Bool × Str} (h : vd ws i = some v) : ∀ {j : Nat}, i ≤ j → vd ws j = some v
  | 0, hj => by
    have : i = 0 := by omega
    rw [← this]
    exact h
  | j + 1, hj => by
    by_cases e : i = j + 1
    · rw [← e]
      exact h
    · unfold vd
      rw [vd_stays h (show i ≤ j by omega)]
theorem vd_next {ws : List Str} {i : Nat} {z : Str} (h : vd ws i = none) (hz : ws[i]? = some z) : vd ws (i + 1) = step (ws.take i) z := by
  show (match vd ws i with | some v => some v | none => match ws[i]? with | some z => step (ws.take i) z | none => none) = _
  rw [h, hz]
/-- a table of names and things -/
def tab (ws : List Str) (ps : List V) : List (Key × V) := (ws.map fun z => (Sum.inr z : Key)).zip ps
theorem tab_isSome (z : Str) : ∀ (l : List Str) (ps : List V), l.length = ps.length → (valV (tab l ps) (Sum.inr z : Key)).isSome = decide (z ∈ l)
  | [], _, _ => by simp [tab, valV]
  | _ :: _, [], h => by simp at h
  | y :: l, p :: ps, h => by
    have ih := tab_isSome z l ps (by simpa using h)
    by_cases e : y = z
    · subst e
      simp [tab, valV]
    · have e2 : tab (y :: l) (p :: ps) = (Sum.inr y, p) :: tab l ps := rfl
      rw [e2, valV_neg (fun q => e (Sum.inr.inj q)), ih]
      have : (z = y) = False := eq_false fun q => e q.symm
      simp [this]
theorem tab_snoc {l : List Str} {ps : List V} (z : Str) (y : V) (h : l.length = ps.length) : tab (l ++ [z]) (ps ++ [y]) = tab l ps ++ [(Sum.inr z, y)] := by
  unfold tab
  rw [List.map_append, List.zip_append (by simpa using h)]
  rfl
theorem tab_snd : ∀ (l : List Str) (ps : List V), l.length = ps.length → (tab l ps).map (·.2) = ps
  | [], [], _ => rfl
  | [], _ :: _, h => by simp at h
  | _ :: _, [], h => by simp at h
  | y :: l, p :: ps, h => by
    show p :: (tab l ps).map (·.2) = p :: ps
    rw [tab_snd l ps (by simpa using h)]
theorem take_next {α : Type} {l : List α} {i : Nat} {x : α} (h : l[i]? = some x) : l.take (i + 1) = l.take i ++ [x] := by
  rw [List.take_succ, h]
  rfl
def spTable (CB CR : Addr) : Sp := fun vs H Q E => ∃ (a b : Addr) (ws : List Str) (ps : List V), vs = [.ref a, .ref b] ∧ H a = some (.lst (ws.map V.str)) ∧ H b = some (.lst ps) ∧ ws.length = ps.length ∧ ws.length ≤ 100 ∧ (∀ z ∈ ws, z.length ≤ 1000 ∧ FmX 114 (.str z)) ∧
  match vd ws ws.length with
  | none => ∀ (p : Addr) H', Same H H' → H' p = some (.dK (tab ws ps)) → H p = none → Q (.ref p) H'
  | some (bad, z) => ∀ (d : Addr) H', Same H H' → H d = none → H' d = some (.xd [("name", .str z)]) → E (.ref (if bad then CB else CR)) (some d) H'
abbrev s_table_of : Stmt := top 15
theorem sc_table_of : FnScope ["names", "pitches", "table", "name", "pitch"] ["names", "pitches"] (defScope s_table_of) := ⟨rfl, rfl, rfl, by decide +kernel, rfl, by decide +kernel, by decide +kernel⟩
theorem ok_table_of {f CB CR : Addr} {t0 : Tok} {fd : FuncData} (F : Fun K "table_of" "table_of" s_table_of f fd) (T : Tw P K mg CB CR t0) (c_check_name : CalX P w K mg base 3 "check_name" (spCheck CB)) : FnOk P w K mg base (L2N.CX P w) 4 f fd ["names", "pitches"] (spTable CB CR) := by
  refine F.okN sc_table_of (fun vs H Q E h => ?_) (fun cdv A outer s H vs Q E hr h => ?_)
  · obtain ⟨a, b, ws, ps, rfl, _⟩ := h
    rfl
  · obtain ⟨a, b, ws, ps, rfl, ha, hb, hl, hs, hw, k⟩ := h
    have hu := hu_of hr
    refine ⟨_, (pss_cons (ps_set (i := 2) sc_table_of.nd rfl (by first | exact Or.inl rfl | exact Or.inr rfl) pe_dnewK)
      (pss_cons (ps_for (passes_of rfl) rfl (pi_zip (by rfl) T.b_zip (pa_cons (pv 0) (pa_cons (pv 1) pa_nil))) (pg_tup rfl (pgs_cons (pg_name (i := 3) sc_table_of.nd rfl (by first | exact Or.inl rfl | exact Or.inr rfl)) (pgs_cons (pg_name (i := 4) sc_table_of.nd rfl (by first | exact Or.inl rfl | exact Or.inr rfl)) pgs_nil))) (pss_cons (ps_expr (pe_cX c_check_name hr (by decide) rfl (L2N.takes_of rfl rfl rfl rfl) (pa_cons (pv 3) pa_nil)))
      (pss_cons (ps_if (pt_cmp (pc_din hu (pv 3) (pv 2))) (pss_one (L2N.ps_raise rfl (L2N.takes_of rfl rfl rfl rfl) (by exact (pmk_err1 T.e_RepeatedFork hr (pa_cons (pv 3) pa_nil))))) pss_nil)
      (pss_one (ps_dput hu (pv 2) (pv 3) (pv 4) rfl)))))
      (pss_one (ps_ret (pv 2))))), ?_⟩
    walk_at "rd"
    intro D nD
    have aD : a ≠ D := ne_of_none ha nD
    have bD : b ≠ D := ne_of_none hb nD
    refine ⟨_, rfl, _, rfl, a, b, _, _, rfl, SqL.of ((upd_ne aD).trans ha), SqL.of ((upd_ne bD).trans hb), ?_⟩
    refine RZ.for_zipL (K := K) (a := a) (b := b) (xs := ws.map V.str) (ys := ps) (by rw [List.length_map]; exact hl)
      (fun i σ H' => vd ws i = none ∧ (∃ u v, σ = [some (.ref a), some (.ref b), some (.ref D), u, v]) ∧ H' D = some (.dK (tab (ws.take i) (ps.take i))) ∧ Same H H') ⟨rfl, ⟨none, none, rfl⟩, upd_same, Same.new (Same.refl H) nD⟩
      (fun i σ H' hp => ⟨SqL.of (hp.2.2.2 _ _ ha), SqL.of (hp.2.2.2 _ _ hb)⟩) ?_ ?_
    · intro i x y T σ H' hx hy hp nT
      obtain ⟨hv, ⟨u, v, rfl⟩, hD, hs'⟩ := hp
      rw [List.getElem?_map] at hx
      obtain ⟨z, hz, rfl⟩ : ∃ z, ws[i]? = some z ∧ x = V.str z := by
        cases e : ws[i]? with
        | none => rw [e] at hx; cases hx
        | some z => rw [e] at hx; exact ⟨z, rfl, (Option.some.inj hx).symm⟩
      have hmem := hw z (List.mem_of_getElem? hz)
      have hi : i < ws.length := (List.getElem?_eq_some_iff.mp hz).1
      have next := vd_next hv hz
      have hip : i < ps.length := by omega
      have lens : (ws.take i).length = (ps.take i).length := by rw [List.length_take, List.length_take]; omega
      have TD : D ≠ T := ne_of_none hD nT
      refine ⟨_, _, rfl, SqT.of upd_same, rfl, ?_⟩
      walk_at "rd"
      refine ⟨hmem.1, hmem.2, fun good => ?_, fun bad => ?_⟩
      · have hD2 : (upd H' T (.tup [V.str z, y])) D = some (.dK (tab (ws.take i) (ps.take i))) := (upd_ne TD).trans hD
        walk_at "rd"
        refine ⟨D, _, rfl, DGet.k (k := Sum.inr z) hD2, ?_⟩
        walk_at "rd"
        rw [tab_isSome z _ _ lens]
        have st : step (ws.take i) z = if z ∈ ws.take i then some (false, z) else none := by
          unfold step
          rw [if_neg (by rw [good]; decide)]
        refine ite2 (fun c => ?_) (fun c => ?_)
        · rw [st, if_pos (of_decide_eq_true c)] at next
          rw [vd_stays next hi] at k
          walk_at "rd"
          exact ⟨⟨_, rfl, hmem.2⟩, fun d hd => k d _ (Same.new (Same.new hs' nT) hd) (Same.free (Same.new hs' nT) hd) upd_same⟩
        · have c' : z ∉ ws.take i := fun q => c (decide_eq_true q)
          rw [st, if_neg c'] at next
          walk_at "rd"
          have fresh : valV (tab (ws.take i) (ps.take i)) (Sum.inr z : Key) = none := by
            have q := tab_isSome z _ _ lens
            rw [decide_eq_false c'] at q
            simpa using q
          refine ⟨D, _, rfl, DPut.k (k := Sum.inr z) hD2 ?_, next, ⟨_, _, rfl⟩, ?_, Same.set (Same.new hs' nT) nD⟩
          · refine small1000 ?_
            unfold tab
            rw [List.length_zip, List.length_map, List.length_take, List.length_take]
            omega
          · rw [upd_same, putK_new _ fresh, take_next hz, take_next hy, tab_snoc z y lens]
      · intro d hd
        have st : step (ws.take i) z = some (true, z) := by
          unfold step
          rw [if_pos bad]
        rw [st] at next
        rw [vd_stays next hi] at k
        exact k d _ (Same.new (Same.new hs' nT) hd) (Same.free (Same.new hs' nT) hd) upd_same
    · rintro σ H' ⟨hv, ⟨u, v, rfl⟩, hD, hs'⟩
      rw [List.length_map] at hv hD
      rw [hv] at k
      rw [List.take_length, show ps.take ws.length = ps by rw [hl, List.take_length]] at hD
      walk_at "rd"
      exact k D H' hs' hD nD
/-! ### the class Tuning -/
/-- what is known of the class -/
structure Tc (K : PySem.W.Frag) (mg : Str → Option Value) (C : Addr) : Prop where
  cls : Cls K C
  nT : NoAttr K C "_table"
  nN : NoAttr K C "_names"
  b_list : mg "list" = none
  b_tuple : mg "tuple" = none
/-- a tuning at p -/
def Tun (C : Addr) (H : Hp) (p : Addr) (ws : List Str) (ps : List V) : Prop :=
  ∃ dx t n, H p = some (.ins C dx [("_table", .ref t), ("_names", .ref n)]) ∧ H t = some (.dK (tab ws ps)) ∧ H n = some (.lst (ws.map V.str))
/-- .. its table at t, its names at n -/
def TunAt (C : Addr) (H : Hp) (p t n : Addr) (ws : List Str) (ps : List V) : Prop :=
  ∃ dx, H p = some (.ins C dx [("_table", .ref t), ("_names", .ref n)]) ∧ H t = some (.dK (tab ws ps)) ∧ H n = some (.lst (ws.map V.str))
theorem TunAt.tun {C : Addr} {H : Hp} {p t n : Addr} {ws : List Str} {ps : List V} (h : TunAt C H p t n ws ps) : Tun C H p ws ps := by
  obtain ⟨dx, h1, h2, h3⟩ := h
  exact ⟨dx, t, n, h1, h2, h3⟩
def spInit (C CB CR : Addr) : Sp := fun vs H Q E => ∃ (x a b : Addr) (ws : List Str) (ps : List V) (dx : Addr), vs = [.ref x, .ref a, .ref b] ∧ H x = some (.ins C dx []) ∧ H a = some (.lst (ws.map V.str)) ∧ H b = some (.lst ps) ∧ ws.length = ps.length ∧ ws.length ≤ 100 ∧ (∀ z ∈ ws, z.length ≤ 1000 ∧ FmX 114 (.str z)) ∧
  match vd ws ws.length with
  | none => ∀ H' t n, Keep H H' x → H t = none → H n = none → TunAt C H' x t n ws ps → Q .non H'
  | some (bad, z) => ∀ (d : Addr) H', Same H H' → H d = none → H' d = some (.xd [("name", .str z)]) → E (.ref (if bad then CB else CR)) (some d) H'
abbrev s_Tuning___init__ : Stmt := inClass (top 17) 0
theorem sc_Tuning___init__ : FnScope ["self", "names", "pitches"] ["self", "names", "pitches"] (defScope s_Tuning___init__) := ⟨rfl, rfl, rfl, by decide +kernel, rfl, by decide +kernel, by decide +kernel⟩
theorem ok_init {f C CB CR : Addr} {fd : FuncData} (F : Fun K "__init__" "Tuning.__init__" s_Tuning___init__ f fd) (T : Tc K mg C) (c_table_of : CalX P w K mg base 4 "table_of" (spTable CB CR)) : FnOk P w K mg base (L2N.CX P w) 5 f fd ["self", "names", "pitches"] (spInit C CB CR) := by
  refine F.okN sc_Tuning___init__ (fun vs H Q E h => ?_) (fun cdv A outer s H vs Q E hr h => ?_)
  · obtain ⟨x, a, b, ws, ps, dx, rfl, _⟩ := h
    rfl
  · obtain ⟨x, a, b, ws, ps, dx, rfl, hx, ha, hb, hl, hs, hw, k⟩ := h
    refine ⟨_, (pss_cons (ps_fld (pv 0) (pe_cX c_table_of hr (by decide) rfl (L2N.takes_of rfl rfl rfl rfl) (pa_cons (pv 1) (pa_cons (pv 2) pa_nil))) rfl)
      (pss_one (ps_fld (pv 0) (pe_callTy call_list_of (by rfl) T.b_list (by decide +kernel) (pa_cons (pv 1) pa_nil)) rfl))), ?_⟩
    walk_at "rd"
    refine ⟨a, b, ws, ps, rfl, ha, hb, hl, hs, hw, ?_⟩
    cases hv : vd ws ws.length with
    | some v =>
      rw [hv] at k
      exact k
    | none =>
      rw [hv] at k
      intro p H1 h1 hp np
      walk_at "rd"
      have ax : a ≠ x := ne_of ha hx (by intro z; cases z)
      have px : p ≠ x := fun e => by
        rw [e, hx] at np
        cases np
      refine ⟨x, C, dx, [], rfl, h1 _ _ hx, T.cls, T.nT, by decide, ?_⟩
      walk_at "rd"
      refine ⟨a, _, rfl, .inl (SqL.of ((upd_ne ax).trans (h1 _ _ ha))), fun n nn => ?_⟩
      have nx : n ≠ x := fun e => by
        rw [e, upd_same] at nn
        cases nn
      have np1 : n ≠ p := fun e => by
        rw [e, upd_ne px, hp] at nn
        cases nn
      walk_at "rd"
      refine ⟨x, C, dx, _, rfl, (upd_ne nx.symm).trans upd_same, T.cls, T.nN, by show 1 < 1000; decide, ?_⟩
      refine k _ p n (fun q o e ne => ?_) np ?_ ⟨dx, upd_same, ?_, ?_⟩
      · have nq : q ≠ n := fun z => by
          rw [z] at e ne
          rw [upd_ne ne, h1 _ _ e] at nn
          cases nn
        rw [upd_ne ne, upd_ne nq, upd_ne ne]
        exact h1 _ _ e
      · rw [upd_ne nx] at nn
        exact Same.free h1 nn
      · rw [upd_ne px, upd_ne np1.symm, upd_ne px]
        exact hp
      · rw [upd_ne nx]
        exact upd_same
abbrev s_Tuning_names : Stmt := inClass (top 17) 3
theorem sc_Tuning_names : FnScope ["self"] ["self"] (defScope s_Tuning_names) := ⟨rfl, rfl, rfl, by decide +kernel, rfl, by decide +kernel, by decide +kernel⟩
def spNamesM (C : Addr) : Sp := fun vs H Q _ => ∃ (p : Addr) (ws : List Str) (ps : List V), vs = [.ref p] ∧ Tun C H p ws ps ∧ ∀ (q : Addr) H', Same H H' → H q = none → H' q = some (.lst (ws.map V.str)) → Q (.ref q) H'
theorem ok_names {f C : Addr} {fd : FuncData} (F : Fun K "names" "Tuning.names" s_Tuning_names f fd) (T : Tc K mg C) : FnOk P w K mg base CX0 1 f fd ["self"] (spNamesM C) := by
  refine F.ok sc_Tuning_names (fun vs H Q E h => ?_) (fun cdv A outer s H vs Q E hr h => ?_)
  · obtain ⟨p, ws, ps, rfl, _⟩ := h
    rfl
  · obtain ⟨p, ws, ps, rfl, ⟨dx, t, n, h1, h2, h3⟩, k⟩ := h
    refine ⟨_, (pss_one (ps_ret (pe_callTy call_list_of (by rfl) T.b_list (by decide +kernel) (pa_cons (pe_fld (pv 0) rfl) pa_nil)))), ?_⟩
    walk_at "rd"
    refine ⟨p, C, dx, _, _, rfl, h1, T.cls, T.nN, rfl, ?_⟩
    refine ⟨n, _, rfl, .inl (SqL.of h3), fun q nq => ?_⟩
    exact k q _ (Same.new (Same.refl H) nq) nq upd_same
abbrev s_Tuning_pitches : Stmt := inClass (top 17) 4
theorem sc_Tuning_pitches : FnScope ["self"] ["self"] (defScope s_Tuning_pitches) := ⟨rfl, rfl, rfl, by decide +kernel, rfl, by decide +kernel, by decide +kernel⟩
def spPitches (C : Addr) : Sp := fun vs H Q _ => ∃ (p : Addr) (ws : List Str) (ps : List V), vs = [.ref p] ∧ Tun C H p ws ps ∧ ws.length = ps.length ∧ ∀ (q : Addr) H', Same H H' → H q = none → H' q = some (.tup ps) → Q (.ref q) H'
theorem ok_pitches {f C : Addr} {fd : FuncData} (F : Fun K "pitches" "Tuning.pitches" s_Tuning_pitches f fd) (T : Tc K mg C) : FnOk P w K mg base CX0 1 f fd ["self"] (spPitches C) := by
  refine F.ok sc_Tuning_pitches (fun vs H Q E h => ?_) (fun cdv A outer s H vs Q E hr h => ?_)
  · obtain ⟨p, ws, ps, rfl, _⟩ := h
    rfl
  · obtain ⟨p, ws, ps, rfl, ⟨dx, t, n, h1, h2, h3⟩, hl, k⟩ := h
    refine ⟨_, (pss_one (ps_ret (Fx.pe_tupVals rfl (by rfl) T.b_tuple (pe_fld (pv 0) rfl)))), ?_⟩
    walk_at "rd"
    refine ⟨p, C, dx, _, _, rfl, h1, T.cls, T.nT, rfl, t, _, rfl, h2, fun q nq => ?_⟩
    rw [tab_snd ws ps hl]
    exact k q _ (Same.new (Same.refl H) nq) nq upd_same
end
end Fk

namespace Fk
open PySem L2
local macro_rules | `(tactic| walk_at "rdc") => `(tactic| (first | exact Or.inl ⟨by decide, by decide⟩ | exact Or.inr ⟨by decide, by decide⟩ | exact ⟨by decide, by decide⟩ | exact Or.inl ⟨by omega, by omega⟩ | exact Or.inr ⟨by omega, by omega⟩ | ((show (0 : Int) < _); (first | decide | omega)) | exact ⟨by decide, by decide, by decide⟩ | exact ⟨by omega, by assumption⟩))
local macro_rules | `(tactic| walk_at "hp") => `(tactic| (first | exact upd_same | assumption | ((rw [upd_ne (by assumption)]); (first | exact upd_same | assumption | ((rw [upd_ne (by assumption)]); (first | exact upd_same | assumption | ((rw [upd_ne (by assumption)]); (first | exact upd_same | assumption))))))))
local macro_rules | `(tactic| walk_at "r1") => `(tactic| (first | refine ⟨_, rfl, ?_⟩ | refine ⟨_, _, rfl, rfl, ?_⟩ | refine ⟨_, _, rfl, ?_⟩ | refine Or.inl ⟨_, rfl, ?_⟩ | refine ⟨rfl, ?_⟩ | refine ⟨(by walk_at "rdc"), ?_⟩ | refine ⟨_, _, _, _, rfl, rfl, SqL.of (by walk_at "hp"), rfl, ?_⟩ | refine ⟨_, _, _, _, rfl, rfl, (by walk_at "hp"), rfl, ?_⟩ | refine ⟨_, _, _, _, rfl, rfl, SqL.of (by walk_at "hp"), by assumption, ?_⟩))
local macro_rules | `(tactic| walk_at "rd") => `(tactic| (repeat walk_at "r1"))
--#ty _law_names _law_names_here=l
--#ty _law_texts _law_thing=l _law_due=l
--#ty _law_row _law_thing=t _law_due=t
--#ty _law_is_tuning _law_names_here=l _law_pitches=l
--#ty _law_bad_name _law_name_here=s
--#ret _law_is_int b
--#ret _law_texts b
--#ret _law_row b
--#meth names pitches
--#wide _law_pitch op_pow | 10 ** 30
section
variable {P : Program} {w : World} {K : PySem.W.Frag} {mg : Str → Option Value} {base : Heap}
/-- more of the built-ins -/
structure Bm (mg : Str → Option Value) : Prop where
  b_range : mg "range" = none
  b_len : mg "len" = none
  b_isinstance : mg "isinstance" = none
  b_int : mg "int" = none
  b_bool : mg "bool" = none
  b_tuple : mg "tuple" = none
  b_list : mg "list" = none
  b_str : mg "str" = none
  b_all : mg "all" = none
/-- the class as a thing is asked of it -/
structure Ti (K : PySem.W.Frag) (mg : Str → Option Value) (C : Addr) : Prop where
  cls : Cls K C
  g_Tuning : mg "Tuning" = some (.ref C)
  b_isinstance : mg "isinstance" = none
  b_tuple : mg "tuple" = none
  ty : ∀ {H : Hp} {a dx : Addr} {fs : List (Str × V)}, H a = some (.ins C dx fs) → TyX K H (.ref a) (.ref C)
  kit : PySem.W.kitOne K (.ref C) (.ref C) = some true
theorem ins_lz {zs : List Str} {z : Str} {r : Nat} (h : ∀ x ∈ zs, Lz x) (hz : Lz z) : ∀ x ∈ zs.take r ++ [z] ++ zs.drop r, Lz x := by
  intro x hx
  simp only [List.mem_append, List.mem_singleton] at hx
  rcases hx with (hx | rfl) | hx
  · exact h x (List.mem_of_mem_take hx)
  · exact hz
  · exact h x (List.mem_of_mem_drop hx)
theorem ins_nodup {zs : List Str} {z : Str} {r : Nat} (h : zs.Nodup) (hz : z ∉ zs) : (zs.take r ++ [z] ++ zs.drop r).Nodup := by
  have e : zs = zs.take r ++ zs.drop r := (List.take_append_drop r zs).symm
  have p : (zs.take r ++ [z] ++ zs.drop r).Perm (z :: zs) := by
    have q : (zs.take r ++ [z] ++ zs.drop r).Perm (z :: (zs.take r ++ zs.drop r)) := by
      rw [List.append_assoc]
      exact List.perm_middle
    rw [List.take_append_drop] at q
    exact q
  exact p.nodup_iff.mpr (List.nodup_cons.mpr ⟨hz, h⟩)
/-! ### _law_names -/
abbrev s__law_names : Stmt := top 23
theorem sc__law_names : FnScope ["_law_bag_here", "_law_many", "_law_names_here", "_law_k"] ["_law_bag_here", "_law_many"] (defScope s__law_names) := ⟨rfl, rfl, rfl, by decide +kernel, rfl, by decide +kernel, by decide +kernel⟩
def spNames : Sp := fun vs H Q _ => ∃ (b c : Addr) (m : Int), vs = [.ref b, .int m] ∧ Bag H b c ∧ 0 ≤ m ∧ m ≤ 8 ∧
  ∀ (q : Addr) (zs : List Str) H', Bag H' b c → Keep H H' b → H q = none → H' q = some (.lst (zs.map V.str)) → zs.length = m.toNat → zs.Nodup → (∀ z ∈ zs, Lz z) → Q (.ref q) H'
theorem ok_law_names {f : Addr} {fd : FuncData} (F : Fun K "_law_names" "_law_names" s__law_names f fd) (T : Bm mg) (c__law_take : C8.Cal P w K mg base 2 "_law_take" spTake []) (c__law_name : C8.Cal P w K mg base 3 "_law_name" spName []) : FnOk P w K mg base CX0 4 f fd ["_law_bag_here", "_law_many"] spNames := by
  refine F.ok sc__law_names (fun vs H Q E h => ?_) (fun cdv A outer s H vs Q E hr h => ?_)
  · obtain ⟨b, c, m, rfl, _⟩ := h
    rfl
  · obtain ⟨b, c, m, rfl, hb, m0, m1, k⟩ := h
    refine ⟨_, (pss_cons (ps_set (i := 2) sc__law_names.nd rfl (by first | exact Or.inl rfl | exact Or.inr rfl) (pe_lst pa_nil))
      (pss_cons (ps_for PassesOwn.never rfl (pi_range1 (by rfl) T.b_range (pa_cons (pv 1) pa_nil)) (pg_name (i := 3) sc__law_names.nd rfl (by first | exact Or.inl rfl | exact Or.inr rfl)) (pss_one (ps_expr (pe_bm PySem.F.plainAttrs_list PySem.F.slot_list_insert PySem.F.type_list_insert mt_insert (pv 2) (pa_cons (C8.pe_c c__law_take hr (by decide) rfl (pa_cons (pv 0) (pa_cons (pe_op op_add (pe_callB call_len (by rfl) T.b_len PySem.boot_len (pa_cons (pv 2) pa_nil)) pe_int) pa_nil))) (pa_cons (C8.pe_c c__law_name hr (by decide) rfl (pa_cons (pv 0) (pa_cons (pv 2) pa_nil))) pa_nil))))))
      (pss_one (ps_ret (pv 2))))), ?_⟩
    walk_at "rd"
    refine ⟨Nat.zero_le _, fun q nq => ?_⟩
    walk_at "rd"
    obtain ⟨hbq, hcq⟩ := hb.off nq
    refine ⟨by omega, by omega, ?_⟩
    refine for_range (lo := 0) (n := m.toNat) (fun i σ H' => ∃ (zs : List Str) (v : Option V), σ = [some (.ref b), some (.int m), some (.ref q), v] ∧ H' q = some (.lst (zs.map V.str)) ∧ zs.length = i ∧ zs.Nodup ∧ (∀ z ∈ zs, Lz z) ∧ Bag H' b c ∧ Keep H H' b)
      ⟨[], none, rfl, upd_same, rfl, List.nodup_nil, (fun _ h => nomatch h), Bag.same hb (Same.new (Same.refl H) nq), (Keep.refl H b).new nq⟩ (fun i σ H' hi hp => ?_) (fun σ H' hp => ?_)
    · obtain ⟨zs, v, rfl, hq, hl, hn, hlow, hb', hk⟩ := hp
      walk_at "rd"
      refine ⟨.inl ⟨rfl, _, SqL.of hq⟩, ?_⟩
      walk_at "rd"
      have i8 : i < 8 := by omega
      refine ⟨_, zs.length, rfl, .inl ⟨_, SqL.of hq, (List.length_map ..).symm⟩, ?_⟩
      walk_at "rd"
      refine ⟨b, c, _, rfl, hb', by omega, fun r H1 hb1 hk1 h0 h1 => ?_⟩
      have hq1 : H1 q = some (.lst (zs.map V.str)) := hk1 _ _ hq hbq.symm
      walk_at "rd"
      refine ⟨b, c, q, zs, rfl, hb1, hq1, by omega, fun z H2 hb2 hk2 lz nz => ?_⟩
      have hq2 : H2 q = some (.lst (zs.map V.str)) := hk2 _ _ hq1 hbq.symm
      have r8 : r < 9 := by
        have e : max (1 : Int) ((zs.length : Int) + 1) = zs.length + 1 := by omega
        rw [e] at h1
        omega
      walk_at "rd"
      refine ⟨q, _, r, _, rfl, rfl, hq2, ?_, h0, by omega, ?_⟩
      · rw [List.length_map]
        exact small1000 (by omega)
      refine ⟨zs.take r.toNat ++ [z] ++ zs.drop r.toNat, _, rfl, ?_, ?_, ins_nodup hn nz, ins_lz hlow lz, ?_, ?_⟩
      · rw [upd_same, List.map_append, List.map_append, List.map_take, List.map_drop]
        rfl
      · simp only [List.length_append, List.length_take, List.length_drop, List.length_singleton]
        omega
      · exact hb2.set hbq hcq
      · intro x o e ne
        have nxq : x ≠ q := fun z => by
          rw [z, nq] at e
          cases e
        rw [upd_ne nxq]
        exact hk2 _ _ (hk1 _ _ (hk _ _ e ne) ne) ne
    · obtain ⟨zs, v, rfl, hq, hl, hn, hlow, hb', hk⟩ := hp
      walk_at "rd"
      exact k q zs H' hb' hk nq hq hl hn hlow
/-! ### _law_pitch -/
abbrev s__law_pitch : Stmt := top 27
theorem sc__law_pitch : FnScope ["_law_bag_here", "_law_way"] ["_law_bag_here"] (defScope s__law_pitch) := ⟨rfl, rfl, rfl, by decide +kernel, rfl, by decide +kernel, by decide +kernel⟩
def spPitch : Sp := fun vs H Q _ => ∃ b c : Addr, vs = [.ref b] ∧ Bag H b c ∧
  ∀ (n : Int) H', Bag H' b c → Keep H H' b → -(10 ^ 30) ≤ n → n ≤ 10 ^ 30 → Q (.int n) H'
theorem ok_pitch {f : Addr} {fd : FuncData} (F : Fun K "_law_pitch" "_law_pitch" s__law_pitch f fd) (c__law_take : C8.Cal P w K mg base 2 "_law_take" spTake []) : FnOk P w K mg base CX0 3 f fd ["_law_bag_here"] spPitch := by
  refine F.ok sc__law_pitch (fun vs H Q E h => ?_) (fun cdv A outer s H vs Q E hr h => ?_)
  · obtain ⟨b, c, rfl, _⟩ := h
    rfl
  · obtain ⟨b, c, rfl, hb, k⟩ := h
    refine ⟨_, (pss_cons (ps_set (i := 1) sc__law_pitch.nd rfl (by first | exact Or.inl rfl | exact Or.inr rfl) (C8.pe_c c__law_take hr (by decide) rfl (pa_cons (pv 0) (pa_cons pe_int pa_nil))))
      (pss_cons (ps_if (pt_cmpR op_eq (pv 1) pe_int (nomark _)) (pss_one (ps_ret (pe_op op_sub (C8.pe_c c__law_take hr (by decide) rfl (pa_cons (pv 0) (pa_cons (pe_op op_add (pe_op op_mul pe_int (pe_op op_pow pe_int pe_int)) pe_int) pa_nil))) (pe_op op_pow pe_int pe_int)))) pss_nil)
      (pss_cons (ps_if (pt_cmpR op_eq (pv 1) pe_int (nomark _)) (pss_one (ps_ret (pe_ix ix_list (pe_lst (pa_cons pe_int (pa_cons pe_int (pa_cons (pe_un un_neg pe_int) pa_nil)))) (C8.pe_c c__law_take hr (by decide) rfl (pa_cons (pv 0) (pa_cons pe_int pa_nil))) (fun _ _ => rfl)))) pss_nil)
      (pss_one (ps_ret (pe_op op_sub (C8.pe_c c__law_take hr (by decide) rfl (pa_cons (pv 0) (pa_cons pe_int pa_nil))) pe_int)))))), ?_⟩
    walk_at "rd"
    refine ⟨b, c, _, rfl, hb, by decide, fun r H1 hb1 hk1 h0 h1 => ?_⟩
    walk_at "rd"
    refine ite2 (fun q => ?_) (fun q => ?_)
    · walk_at "rd"
      refine ⟨b, c, _, rfl, hb1, by decide, fun r2 H2 hb2 hk2 g0 g1 => ?_⟩
      have g2 : r2 < 2 * 10 ^ 30 + 1 := by
        have e : max (1 : Int) (2 * 10 ^ Int.toNat 30 + 1) = 2 * 10 ^ 30 + 1 := by decide
        rw [e] at g1
        exact g1
      walk_at "rd"
      refine k _ _ hb2 (hk1.trans hk2) ?_ ?_
      · show -(10 ^ 30) ≤ r2 - 10 ^ 30
        omega
      · show r2 - 10 ^ 30 ≤ 10 ^ 30
        omega
    · walk_at "rd"
      refine ite2 (fun q => ?_) (fun q => ?_)
      · walk_at "rd"
        refine ⟨by show 3 ≤ sizeLine; decide, fun p np => ?_⟩
        walk_at "rd"
        have hpb : b ≠ p := (hb1.off np).1
        refine ⟨b, c, _, rfl, Bag.same hb1 (Same.new (Same.refl H1) np), by decide, fun r2 H2 hb2 hk2 g0 g1 => ?_⟩
        walk_at "rd"
        have hp2 : H2 p = some (.lst [.int 0, .int 1, .int (-1)]) := hk2 _ _ upd_same hpb.symm
        have : r2 = 0 ∨ r2 = 1 ∨ r2 = 2 := by
          have e : max (1 : Int) 3 = 3 := by decide
          rw [e] at g1
          omega
        rcases this with rfl | rfl | rfl
        · refine ⟨_, _, _, _, rfl, rfl, SqL.of hp2, rfl, ?_⟩
          exact k _ _ hb2 ((hk1.new np).trans hk2) (by decide) (by decide)
        · refine ⟨_, _, _, _, rfl, rfl, SqL.of hp2, rfl, ?_⟩
          exact k _ _ hb2 ((hk1.new np).trans hk2) (by decide) (by decide)
        · refine ⟨_, _, _, _, rfl, rfl, SqL.of hp2, rfl, ?_⟩
          exact k _ _ hb2 ((hk1.new np).trans hk2) (by decide) (by decide)
      · walk_at "rd"
        refine ⟨b, c, _, rfl, hb1, by decide, fun r2 H2 hb2 hk2 g0 g1 => ?_⟩
        have g2 : r2 < 41 := by
          have e : max (1 : Int) 41 = 41 := by decide
          rw [e] at g1
          exact g1
        walk_at "rd"
        exact k _ _ hb2 (hk1.trans hk2) (by omega) (by omega)
/-! ### what a thing is -/
/-- data without parts -/
def Flat1 : V → Prop
  | .int _ => True
  | .str z => PyData.strOk z = true
  | .bl _ => True
  | _ => False
def pdv : V → PyData
  | .str z => .str z
  | .int i => .int i
  | .bl b => .bool b
  | _ => .none
theorem flat_ints (ns : List Int) : ∀ v ∈ ns.map V.int, Flat1 v := fun v hv => by
  obtain ⟨n, _, rfl⟩ := List.mem_map.mp hv
  trivial
theorem flat_strs {ws : List Str} (h : ∀ z ∈ ws, PyData.strOk z = true) : ∀ v ∈ ws.map V.str, Flat1 v := fun v hv => by
  obtain ⟨z, hz, rfl⟩ := List.mem_map.mp hv
  exact h z hz
theorem flat_dp {K : PySem.W.Frag} {H : Hp} : ∀ {l : List V}, (∀ v ∈ l, Flat1 v) → DpAll K H l (l.map pdv)
  | [], _ => .nil
  | v :: l, h => by
    refine .cons ?_ (flat_dp fun u hu => h u (List.mem_cons_of_mem _ hu))
    have f := h v List.mem_cons_self
    cases v with
    | str z => exact .str _
    | int i => exact .int _
    | bl b => exact .bl _
    | _ => exact f.elim
theorem flat_ok {l : List V} (h : ∀ v ∈ l, Flat1 v) : (SeqAt.shaped (.list (l.map pdv)) = true ∧ PyData.eqv (.list (l.map pdv)) (.list (l.map pdv)) = true) ∧ SeqAt.shaped (.tuple (l.map pdv)) = true ∧ PyData.eqv (.tuple (l.map pdv)) (.tuple (l.map pdv)) = true := by
  have each : ∀ v ∈ l, PyData.canLay0 (pdv v) = true ∧ PyData.eqv (pdv v) (pdv v) = true ∧ PyData.depth (pdv v) = 0 := by
    intro v hv
    have f := h v hv
    cases v with
    | str z => exact ⟨f, by simp [pdv, PyData.eqv], by simp [pdv, PyData.depth]⟩
    | int i => exact ⟨rfl, by simp [pdv, PyData.eqv], by simp [pdv, PyData.depth]⟩
    | bl b => exact ⟨rfl, by simp [pdv, PyData.eqv], by simp [pdv, PyData.depth]⟩
    | _ => exact f.elim
  have many : ∀ m : List V, (∀ v ∈ m, PyData.canLay0 (pdv v) = true ∧ PyData.eqv (pdv v) (pdv v) = true ∧ PyData.depth (pdv v) = 0) → PyData.canLayAll0 (m.map pdv) = true ∧ PyData.eqvAll (m.map pdv) (m.map pdv) = true ∧ PyData.depthAll (m.map pdv) = 0 := by
    intro m
    induction m with
    | nil => exact fun _ => ⟨rfl, rfl, rfl⟩
    | cons v m ih =>
      intro hm
      obtain ⟨a, b, c⟩ := hm v List.mem_cons_self
      obtain ⟨x, y, w⟩ := ih fun u hu => hm u (List.mem_cons_of_mem _ hu)
      exact ⟨by simp [PyData.canLayAll0, a, x], by simp [PyData.eqvAll, b, y], by simp [PyData.depthAll, c, w]⟩
  obtain ⟨x, y, w⟩ := many l each
  exact ⟨⟨by simp [SeqAt.shaped, PyData.canLay0, PyData.depth, x, w], by simp [PyData.eqv, y]⟩, by simp [SeqAt.shaped, PyData.canLay0, PyData.depth, x, w], by simp [PyData.eqv, y]⟩
abbrev s__law_is_int : Stmt := top 24
theorem sc__law_is_int : FnScope ["_law_thing"] ["_law_thing"] (defScope s__law_is_int) := ⟨rfl, rfl, rfl, by decide +kernel, rfl, by decide +kernel, by decide +kernel⟩
def spIsInt : Sp := fun vs H Q _ => ∃ n : Int, vs = [.int n] ∧ Q (.bl true) H
theorem ok_is_int {f : Addr} {fd : FuncData} (F : Fun K "_law_is_int" "_law_is_int" s__law_is_int f fd) (T : Bm mg) : FnOk P w K mg base CX0 1 f fd ["_law_thing"] spIsInt := by
  refine F.ok sc__law_is_int (fun vs H Q E h => ?_) (fun cdv A outer s H vs Q E hr h => ?_)
  · obtain ⟨n, rfl, _⟩ := h
    rfl
  · obtain ⟨n, rfl, k⟩ := h
    refine ⟨_, (pss_one (ps_ret (pe_and (pe_callB call_isi (by rfl) T.b_isinstance (by decide +kernel) (pa_cons (pv 0) (pa_cons (pe_bltn (v := .ty "int") (by rfl) T.b_int (by decide +kernel) rfl) pa_nil))) (pe_one (pe_not (pe_callB call_isi (by rfl) T.b_isinstance (by decide +kernel) (pa_cons (pv 0) (pa_cons (pe_bltn (v := .ty "bool") (by rfl) T.b_bool (by decide +kernel) rfl) pa_nil)))))))), ?_⟩
    walk_at "rd"
    refine ⟨_, _, _, _, true, rfl, .ty _, .base (.int _), kit_ty (by decide +kernel), ?_⟩
    walk_at "rd"
    refine ⟨_, _, _, _, false, rfl, .ty _, .base (.int _), kit_ty (by decide +kernel), ?_⟩
    walk_at "rd"
    exact k
abbrev s__law_row : Stmt := top 25
theorem sc__law_row : FnScope ["_law_thing", "_law_due", "_law_one"] ["_law_thing", "_law_due"] (defScope s__law_row) := ⟨rfl, rfl, rfl, by decide +kernel, rfl, by decide +kernel, by decide +kernel⟩
def spRow : Sp := fun vs H Q _ => ∃ (a b : Addr) (ns : List Int), vs = [.ref a, .ref b] ∧ H a = some (.tup (ns.map V.int)) ∧ H b = some (.tup (ns.map V.int)) ∧ ns.length ≤ 100 ∧ ∀ H', Same H H' → Q (.bl true) H'
theorem ok_row {f : Addr} {fd : FuncData} (F : Fun K "_law_row" "_law_row" s__law_row f fd) (T : Bm mg) (c__law_is_int : C8.Cal P w K mg base 1 "_law_is_int" spIsInt []) : FnOk P w K mg base CX0 2 f fd ["_law_thing", "_law_due"] spRow := by
  refine F.ok sc__law_row (fun vs H Q E h => ?_) (fun cdv A outer s H vs Q E hr h => ?_)
  · obtain ⟨a, b, ns, rfl, _⟩ := h
    rfl
  · obtain ⟨a, b, ns, rfl, ha, hb, hl, k⟩ := h
    refine ⟨_, (pss_cons (ps_if (PW.pt (pw_or (pt_not (pt_val (pe_callB call_isi (by rfl) T.b_isinstance (by decide +kernel) (pa_cons (pv 0) (pa_cons (pe_bltn (v := .ty "tuple") (by rfl) T.b_tuple (by decide +kernel) rfl) pa_nil))))) (pw_or1 (pt_cmpR op_ne (pe_callB call_len (by rfl) T.b_len PySem.boot_len (pa_cons (pv 0) pa_nil)) (pe_callB call_len (by rfl) T.b_len PySem.boot_len (pa_cons (pv 1) pa_nil)) (nomark _))))) (pss_one (ps_ret pe_bl)) pss_nil)
      (pss_one (ps_ret (pe_and (pe_callB (cr_all rfl) (by rfl) T.b_all (by decide +kernel) (pa_cons (pe_lc (own := [("_law_one", 2)]) (g := gName 2) (tt := tYes) rfl sc__law_row.nd (pi_tup (pv 0)) (blkOk_by (own := [("_law_one", 2)]) (N := ["_law_thing", "_law_due", "_law_one"]) (sc := defScope s__law_row) (by decide +kernel)) (fun _ _ _ _ _ => pg_name (i := 2) sc__law_row.nd rfl (by first | exact Or.inl rfl | exact Or.inr rfl)) (fun _ _ _ _ _ => pts_nil) (fun _ _ _ _ _ => (C8.pe_c c__law_is_int hr (by decide) rfl (pa_cons (pv 2) pa_nil)))) pa_nil)) (pe_one (pe_cmpR (op_eqD hr.units) (pv 0) (pv 1) (nomark _))))))), ?_⟩
    walk_at "rd"
    refine ⟨_, _, _, _, true, rfl, .ty _, .base (.tup ha), kit_ty (by decide +kernel), ?_⟩
    walk_at "rd"
    refine ⟨_, ns.length, rfl, .inr ⟨_, SqT.of ha, (List.length_map ..).symm⟩, ?_⟩
    walk_at "rd"
    refine ⟨_, ns.length, rfl, .inr ⟨_, SqT.of hb, (List.length_map ..).symm⟩, ?_⟩
    walk_at "rd"
    refine ite2 (fun c => absurd c (by simp)) (fun _ => ?_)
    walk_at "rd"
    refine ⟨⟨_, SqT.of ha⟩, fun D nD => ?_⟩
    refine lc_tup (K := K) (a := a) (xs := ns.map V.int) (fun i H' => H' D = some (.lst ((List.replicate i true).map V.bl)) ∧ Same H H') ⟨upd_same, Same.new (Same.refl H) nD⟩ (fun i H' _ hp => SqT.of (hp.2 _ _ ha)) (fun i x H' hi hp => ?_) (fun H' hp => ?_)
    · obtain ⟨hD, hs⟩ := hp
      rw [List.getElem?_map] at hi
      have i100 : i < 100 := by
        have := (List.getElem?_eq_some_iff.mp ((List.getElem?_map ..).trans hi)).1
        rw [List.length_map] at this
        omega
      cases e : ns[i]? with
      | none =>
        rw [e] at hi
        cases hi
      | some n =>
        rw [e] at hi
        cases hi
        refine ⟨rfl, ?_⟩
        walk_at "rd"

        refine ⟨_, hD, ?_, ?_, Same.set hs nD⟩
        · rw [List.length_map, List.length_replicate]
          exact small1000 (by omega)
        · rw [upd_same, List.replicate_succ', List.map_append]
          rfl
    · obtain ⟨hD, hs⟩ := hp
      rw [List.length_map] at hD
      refine ⟨D, _, rfl, SqL.of hD, ?_⟩
      walk_at "rd"
      refine ite2 (fun _ => ?_) (fun c => absurd (by simp) c)
      walk_at "rd"
      have fl : ∀ v ∈ ns.map V.int, Flat1 v := flat_ints ns
      refine ⟨.tuple ((ns.map V.int).map pdv), .tuple ((ns.map V.int).map pdv), .tup (SqT.of (hs _ _ ha)) (flat_dp fl), .tup (SqT.of (hs _ _ hb)) (flat_dp fl), (flat_ok fl).2.1, (flat_ok fl).2.1, ?_⟩
      rw [(flat_ok fl).2.2]
      exact k H' hs
abbrev s__law_texts : Stmt := top 26
theorem sc__law_texts : FnScope ["_law_thing", "_law_due", "_law_one"] ["_law_thing", "_law_due"] (defScope s__law_texts) := ⟨rfl, rfl, rfl, by decide +kernel, rfl, by decide +kernel, by decide +kernel⟩
def spTexts : Sp := fun vs H Q _ => ∃ (a b : Addr) (ws : List Str), vs = [.ref a, .ref b] ∧ H a = some (.lst (ws.map V.str)) ∧ H b = some (.lst (ws.map V.str)) ∧ ws.length ≤ 100 ∧ (∀ z ∈ ws, PyData.strOk z = true) ∧ ∀ H', Same H H' → Q (.bl true) H'
theorem ok_texts {f : Addr} {fd : FuncData} (F : Fun K "_law_texts" "_law_texts" s__law_texts f fd) (T : Bm mg) : FnOk P w K mg base CX0 2 f fd ["_law_thing", "_law_due"] spTexts := by
  refine F.ok sc__law_texts (fun vs H Q E h => ?_) (fun cdv A outer s H vs Q E hr h => ?_)
  · obtain ⟨a, b, ns, rfl, _⟩ := h
    rfl
  · obtain ⟨a, b, ws, rfl, ha, hb, hl, hok, k⟩ := h
    refine ⟨_, (pss_cons (ps_if (PW.pt (pw_or (pt_not (pt_val (pe_callB call_isi (by rfl) T.b_isinstance (by decide +kernel) (pa_cons (pv 0) (pa_cons (pe_bltn (v := .ty "list") (by rfl) T.b_list (by decide +kernel) rfl) pa_nil))))) (pw_or1 (pt_cmpR op_ne (pe_callB call_len (by rfl) T.b_len PySem.boot_len (pa_cons (pv 0) pa_nil)) (pe_callB call_len (by rfl) T.b_len PySem.boot_len (pa_cons (pv 1) pa_nil)) (nomark _))))) (pss_one (ps_ret pe_bl)) pss_nil)
      (pss_one (ps_ret (pe_and (pe_callB (cr_all rfl) (by rfl) T.b_all (by decide +kernel) (pa_cons (pe_lc (own := [("_law_one", 2)]) (g := gName 2) (tt := tYes) rfl sc__law_texts.nd (pi_list (pv 0)) (blkOk_by (own := [("_law_one", 2)]) (N := ["_law_thing", "_law_due", "_law_one"]) (sc := defScope s__law_texts) (by decide +kernel)) (fun _ _ _ _ _ => pg_name (i := 2) sc__law_texts.nd rfl (by first | exact Or.inl rfl | exact Or.inr rfl)) (fun _ _ _ _ _ => pts_nil) (fun _ _ _ _ _ => (pe_callB (show CallR _ (.builtin "isinstance") (rIsi K) from call_isi) (by rfl) T.b_isinstance (by decide +kernel) (pa_cons (pv 2) (pa_cons (pe_bltn (v := .ty "str") (by rfl) T.b_str (by decide +kernel) rfl) pa_nil))))) pa_nil)) (pe_one (pe_cmpR (op_eqD hr.units) (pv 0) (pv 1) (nomark _))))))), ?_⟩
    walk_at "rd"
    refine ⟨_, _, _, _, true, rfl, .ty _, .base (.lst ha), kit_ty (by decide +kernel), ?_⟩
    walk_at "rd"
    refine ⟨_, ws.length, rfl, .inl ⟨_, SqL.of ha, (List.length_map ..).symm⟩, ?_⟩
    walk_at "rd"
    refine ⟨_, ws.length, rfl, .inl ⟨_, SqL.of hb, (List.length_map ..).symm⟩, ?_⟩
    walk_at "rd"
    refine ite2 (fun c => absurd c (by simp)) (fun _ => ?_)
    walk_at "rd"
    refine ⟨⟨_, SqL.of ha⟩, fun D nD => ?_⟩
    refine lc_list (K := K) (a := a) (xs := ws.map V.str) (fun i H' => H' D = some (.lst ((List.replicate i true).map V.bl)) ∧ Same H H') ⟨upd_same, Same.new (Same.refl H) nD⟩ (fun i H' _ hp => SqL.of (hp.2 _ _ ha)) (fun i x H' hi hp => ?_) (fun H' hp => ?_)
    · obtain ⟨hD, hs⟩ := hp
      rw [List.getElem?_map] at hi
      have i100 : i < 100 := by
        have := (List.getElem?_eq_some_iff.mp ((List.getElem?_map ..).trans hi)).1
        rw [List.length_map] at this
        omega
      cases e : ws[i]? with
      | none =>
        rw [e] at hi
        cases hi
      | some n =>
        rw [e] at hi
        cases hi
        refine ⟨rfl, ?_⟩
        walk_at "rd"
        refine ⟨_, _, _, _, true, rfl, .ty _, .base (.str _), kit_ty (by decide +kernel), ?_⟩
        refine ⟨_, hD, ?_, ?_, Same.set hs nD⟩
        · rw [List.length_map, List.length_replicate]
          exact small1000 (by omega)
        · rw [upd_same, List.replicate_succ', List.map_append]
          rfl
    · obtain ⟨hD, hs⟩ := hp
      rw [List.length_map] at hD
      refine ⟨D, _, rfl, SqL.of hD, ?_⟩
      walk_at "rd"
      refine ite2 (fun _ => ?_) (fun c => absurd (by simp) c)
      walk_at "rd"
      have fl : ∀ v ∈ ws.map V.str, Flat1 v := flat_strs hok
      refine ⟨.list ((ws.map V.str).map pdv), .list ((ws.map V.str).map pdv), .lst (SqL.of (hs _ _ ha)) (flat_dp fl), .lst (SqL.of (hs _ _ hb)) (flat_dp fl), (flat_ok fl).1.1, (flat_ok fl).1.1, ?_⟩
      rw [(flat_ok fl).1.2]
      exact k H' hs
abbrev s__law_is_tuning : Stmt := top 28
theorem sc__law_is_tuning : FnScope ["_law_thing", "_law_names_here", "_law_pitches"] ["_law_thing", "_law_names_here", "_law_pitches"] (defScope s__law_is_tuning) := ⟨rfl, rfl, rfl, by decide +kernel, rfl, by decide +kernel, by decide +kernel⟩
def spIsTuning (C : Addr) : Sp := fun vs H Q _ => ∃ (p a b : Addr) (ws : List Str) (ns : List Int), vs = [.ref p, .ref a, .ref b] ∧ Tun C H p ws (ns.map V.int) ∧ H a = some (.lst (ws.map V.str)) ∧ H b = some (.lst (ns.map V.int)) ∧ ws.length = ns.length ∧ ws.length ≤ 100 ∧ (∀ z ∈ ws, PyData.strOk z = true) ∧ ∀ H', Same H H' → Q (.bl true) H'
theorem ok_is_tuning {f C : Addr} {fd : FuncData} (F : Fun K "_law_is_tuning" "_law_is_tuning" s__law_is_tuning f fd) (T : Ti K mg C) (c__law_texts : C8.Cal P w K mg base 2 "_law_texts" spTexts []) (c__law_row : C8.Cal P w K mg base 2 "_law_row" spRow [])
    (q_names : Fx.MethC P w K mg base 1 C "names" (spNamesM C)) (q_pitches : Fx.MethC P w K mg base 1 C "pitches" (spPitches C)) : FnOk P w K mg base CX0 3 f fd ["_law_thing", "_law_names_here", "_law_pitches"] (spIsTuning C) := by
  refine F.ok sc__law_is_tuning (fun vs H Q E h => ?_) (fun cdv A outer s H vs Q E hr h => ?_)
  · obtain ⟨p, a, b, ws, ns, rfl, _⟩ := h
    rfl
  · obtain ⟨p, a, b, ws, ns, rfl, hT, ha, hb, hlen, hl, hok, k⟩ := h
    refine ⟨_, (pss_cons (ps_if (pt_not (pt_val (pe_callB call_isi (by rfl) T.b_isinstance (by decide +kernel) (pa_cons (pv 0) (pa_cons (pe_glob (v := .ref _) rfl T.g_Tuning rfl) pa_nil))))) (pss_one (ps_ret pe_bl)) pss_nil)
      (pss_one (ps_ret (pe_and (C8.pe_c c__law_texts hr (by decide) rfl (pa_cons (Fx.pe_mc0 q_names T.cls hr (by decide) (pv 0)) (pa_cons (pv 1) pa_nil))) (pe_one (C8.pe_c c__law_row hr (by decide) rfl (pa_cons (Fx.pe_mc0 q_pitches T.cls hr (by decide) (pv 0)) (pa_cons (pe_callTy call_tuple_of (by rfl) T.b_tuple (by decide +kernel) (pa_cons (pv 2) pa_nil)) pa_nil)))))))), ?_⟩
    obtain ⟨dx, t, n, h1, h2, h3⟩ := id hT
    walk_at "rd"
    refine ⟨_, _, _, _, true, rfl, .own C, T.ty h1, T.kit, ?_⟩
    walk_at "rd"
    refine ⟨p, dx, _, rfl, h1, rfl, ?_⟩
    refine ⟨p, ws, _, rfl, hT, fun q H1 s1 nq hq => ?_⟩
    walk_at "rd"
    refine ⟨q, a, ws, rfl, hq, s1 _ _ ha, hl, hok, fun H2 s2 => ?_⟩
    walk_at "rd"
    have s12 : Same H H2 := fun x o e => s2 x o (s1 x o e)
    refine ⟨p, dx, _, rfl, s12 _ _ h1, rfl, ?_⟩
    refine ⟨p, ws, _, rfl, ⟨dx, t, n, s12 _ _ h1, s12 _ _ h2, s12 _ _ h3⟩, by rw [List.length_map]; exact hlen, fun q3 H3 s3 nq3 hq3 => ?_⟩
    walk_at "rd"
    refine ⟨b, _, rfl, .inl ⟨SqL.of (s3 _ _ (s12 _ _ hb)), fun q4 nq4 => ?_⟩⟩
    refine ⟨q3, q4, ns, rfl, (upd_ne (ne_of_none hq3 nq4)).trans hq3, upd_same, by omega, fun H5 s5 => ?_⟩
    exact k H5 fun x o e => s5 x o (Same.new (fun x o e => s3 x o (s12 x o e)) nq4 x o e)
/-! ### short texts of plain signs -/
def Asc (z : Str) : Prop := z.length ≤ 40 ∧ ∀ c ∈ z.cps.toList, c < 128
theorem asc_S {l : List Nat} (h : l.length ≤ 40) (hc : ∀ c ∈ l, c < 128) : Asc (S l) := ⟨by rw [S_len]; exact h, fun c q => hc c (by simpa using q)⟩
theorem low_asc {z : Str} (h : Low z) : Asc z := by
  obtain ⟨l, rfl, h1, h2, h3⟩ := h
  exact asc_S (by omega) fun c hc => by have := h3 c hc; omega
theorem upper_one : ∀ c < 123, 97 ≤ c → Unicode.upperOf c = [c - 32] := by decide +kernel
theorem upper_asc {z : Str} (h : Low z) : Asc (Txt.upper z) := by
  obtain ⟨l, rfl, h1, h2, h3⟩ := h
  refine ⟨Nat.le_trans (PyProof.Rows.len_upper _) (by rw [S_len]; omega), fun c hc => ?_⟩
  have hc' : c ∈ (placed (S l) fun _ c => Unicode.upperOf c) := Array.mem_def.mpr hc
  unfold placed at hc'
  obtain ⟨a, ha, hca⟩ := Array.mem_flatten.mp hc'
  obtain ⟨i, hi, rfl⟩ := Array.mem_mapIdx.mp ha
  have hm : (S l).cps[i] ∈ l := by
    have := Array.getElem_mem (xs := (S l).cps) hi
    simpa using this
  have q := h3 _ hm
  have hca : c ∈ (Unicode.upperOf (S l).cps[i]).toArray := hca
  rw [upper_one _ (by omega) q.1] at hca
  have e : c = (S l).cps[i] - 32 := by simpa using hca
  omega
theorem Asc.long {z : Str} (h : Asc z) : z.length ≤ 1000 := Nat.le_trans h.1 (by decide)
theorem Asc.fm {z : Str} (h : Asc z) : FmX 114 (.str z) := by
  refine .inl ⟨rfl, ?_⟩
  have q := StrLaws.reprText_len z fun c hc => Nat.lt_trans (h.2 c hc) (by decide)
  have := h.1
  omega
theorem Asc.ok {z : Str} (h : Asc z) : PyData.strOk z = true := by
  show z.cps.all (· < 0x110000) = true
  rw [Array.all_eq_true_iff_forall_mem]
  intro c hc
  have := h.2 c (Array.mem_def.mp hc)
  exact decide_eq_true (by omega)
theorem Asc.ascii {z : Str} (h : Asc z) : Txt.isascii z = true := by
  show z.cps.all (· < 128) = true
  rw [Array.all_eq_true_iff_forall_mem]
  intro c hc
  exact decide_eq_true (h.2 c (Array.mem_def.mp hc))
end
end Fk

/-! operators that a class of the program says by its own methods -/
namespace Fx
open PySem PySem.Spec PyProof.Rows L2
/-- an instance of the class at C stands at p -/
def At (C : Addr) (H : Hp) (p : Addr) : Prop := ∃ dx fs, H p = some (.ins C dx fs)
theorem inst {X : Cx} {pins : List (Addr × Obj)} {σ : L2.St} {H : Hp} {s : Shared} {C p : Addr} (I : Inv X pins σ H s) (h : At C H p) : ∃ o od, PySem.W.InstAt s.heap p o C od := by
  obtain ⟨dx, fs, e⟩ := h
  obtain ⟨mA, O, _⟩ := ins_get I.hok e
  obtain ⟨od, J, _⟩ := O.look
  exact ⟨_, _, J⟩
/-- a method m of the class at C, said for an operator; CX tells what it may let out -/
structure Op (CX : CXT) (P : Program) (w : World) (K : PySem.W.Frag) (mg : Str → Option Value) (base : Heap) (k : Nat) (C : Addr) (m : Str) (sp : Sp) : Prop where
  ex : ∃ (f : Addr) (fd : FuncData) (ps : List Str), PySem.W.findIn K (.ref C) m = some (some (.ref f)) ∧ PySem.W.isFn K (.ref f) = true ∧ PySem.W.fnIn K f = true ∧ FnOk P w K mg base CX k f fd ps sp ∧ Binds K fd ps []
section
variable {X : Cx} {j k : Nat} {C : Addr} {sp : Sp}
theorem at0 {E : XK} {σ : L2.St} : PassesAt CX0 X σ E := fun _ _ _ _ _ _ h => h.elim
/-- a method of the class, called one level deeper -/
theorem run_in1 {CX : CXT} {f : Addr} {fd : FuncData} {ps : List Str} {E : XK} {pins : List (Addr × Obj)} {σ : L2.St} {H : Hp} {s : Shared} {Q : VK} {us : List Value} {vs : List V} (F : FnOk X.prog X.w X.K X.mg X.base CX k f fd ps sp) (hr : Room j X.A) (hk : k + 1 ≤ j) (bd : Binds X.K fd ps [])
    (hx : PassesAt CX X σ E) (I : Inv X pins σ H s) (r : Vals vs us) (h : sp vs H Q E) : wpAny (model X.prog X.w) X.A.in1 (call (.ref f) us) (EP X pins σ Q) X.xe s := by
  have len : us.length = ps.length := by rw [← r.length]; exact F.len _ _ _ _ h
  have bound := bd s us I.kIn (by rw [List.append_nil]; exact len)
  rw [List.append_nil] at bound
  refine wpAny_call (codeAny_mono (F.run X.A.in1 X.stack s H ⟨us, []⟩ us vs Q E (hr.mono hk).in1 I.env0.in1 bound r h) fun r s1 got => ?_)
  match r with
  | .error e => exact hx pins H s e s1 I got
  | .ok (.ret u) => exact I.after got
  | .ok .next | .ok .brk | .ok .cont => exact got.elim
/-- a[b]: __getitem__ may raise -/
def tGetX (C : Addr) (sp : Sp) (W : WX) (ta tb : TE) : TE := fun σ H Q => ta σ H fun x H1 => tb σ H1 fun y H2 => ∃ p, x = .ref p ∧ At C H2 p ∧ sp [.ref p, y] H2 Q (WE W σ)
theorem pe_getX {W : WX} {a b : Expr} {ta tb : TE} {pos : Pos} (c : Op (L2N.CX X.prog X.w) X.prog X.w X.K X.mg X.base k C "__getitem__" sp) (hr : Room j X.A) (hk : k + 1 ≤ j) (tk : L2N.Takes X W) (ha : PE X a ta) (hb : PE X b tb)
    (hs : ∀ o i, subscripted b true o i = runValue (.builtin "lifetime.subscript" ⟨[o, i], []⟩) := by intro _ _; rfl) : PE X (.Subscript a b pos) (tGetX C sp W ta tb) := by
  obtain ⟨f, fd, ps, hf, hfn, kp, F, bd⟩ := c.ex
  refine ⟨fun pins s σ H Q I h => ?_⟩
  refine Subscript_ (binT ha hb I h fun v u s2 x y H2 I2 rx ry q => ?_)
  obtain ⟨p, rfl, hp, q⟩ := q
  obtain rfl : v = Value.ref p := rx
  obtain ⟨o, od, J⟩ := inst I2 hp
  obtain ⟨m, Fr0⟩ := I2.fr
  exact PySem.W.sub_K Fr0 I2.ok.mod.kin J hf kp hfn (run_in1 F hr hk bd (L2N.passAt tk σ) I2 (us := [.ref p, u]) (vs := [.ref p, y]) (.cons rfl (.cons ry .nil)) q) (hs _ _)
/-- b in a, b not in a: __contains__ -/
def rInOwn (C : Addr) (sp : Sp) (neg : Bool) : R2 := fun y x H Q => ∃ p, x = .ref p ∧ At C H p ∧ sp [.ref p, y] H (fun v H' => ∃ b, v = .bl b ∧ Q (.bl (if neg then !b else b)) H') C8.E0
theorem op_inOwn (c : Op CX0 X.prog X.w X.K X.mg X.base k C "__contains__" sp) (hr : Room j X.A) (hk : k ≤ j) : OpR X (compareOp .In) (rInOwn C sp false) := by
  obtain ⟨f, fd, ps, hf, hfn, kp, F, bd⟩ := c.ex
  intro pins s σ H y x u v Q I ry rx h
  obtain ⟨p, rfl, hp, q⟩ := h
  obtain rfl : v = Value.ref p := rx
  obtain ⟨o, od, J⟩ := inst I hp
  obtain ⟨m, Fr0⟩ := I.fr
  refine PySem.W.in_K Fr0 I.ok.mod.kin J hf hfn (thn (run_fnS F (hr.mono hk) bd at0 I (us := [.ref p, u]) (vs := [.ref p, y]) (E := fun _ => C8.E0) (.cons rfl (.cons ry .nil)) q) fun r s1 hr1 => ?_)
  obtain ⟨z, H1, I1, rz, b, rfl, q1⟩ := hr1
  cases rz
  exact wpAny_truthy_bool ⟨.bl b, H1, I1, rfl, q1⟩
theorem op_notInOwn (c : Op CX0 X.prog X.w X.K X.mg X.base k C "__contains__" sp) (hr : Room j X.A) (hk : k ≤ j) : OpR X (compareOp .NotIn) (rInOwn C sp true) := by
  obtain ⟨f, fd, ps, hf, hfn, kp, F, bd⟩ := c.ex
  intro pins s σ H y x u v Q I ry rx h
  obtain ⟨p, rfl, hp, q⟩ := h
  obtain rfl : v = Value.ref p := rx
  obtain ⟨o, od, J⟩ := inst I hp
  obtain ⟨m, Fr0⟩ := I.fr
  refine PySem.W.notIn_K Fr0 I.ok.mod.kin J hf hfn (thn (run_fnS F (hr.mono hk) bd at0 I (us := [.ref p, u]) (vs := [.ref p, y]) (E := fun _ => C8.E0) (.cons rfl (.cons ry .nil)) q) fun r s1 hr1 => ?_)
  obtain ⟨z, H1, I1, rz, b, rfl, q1⟩ := hr1
  cases rz
  exact wpAny_truthy_bool ⟨.bl (!b), H1, I1, rfl, q1⟩
/-- len(a): __len__ -/
def rLenOwn (C : Addr) (sp : Sp) : List V → Hp → VK → Prop := fun xs H Q => ∃ p, xs = [.ref p] ∧ At C H p ∧ sp [.ref p] H (fun v H' => ∃ n : Int, v = .int n ∧ 0 ≤ n ∧ n < 2 ^ 63 ∧ Q (.int n) H') C8.E0
theorem call_lenOwn (c : Op CX0 X.prog X.w X.K X.mg X.base k C "__len__" sp) (hr : Room j X.A) (hk : k + 1 ≤ j) : CallR X (.builtin "len") (rLenOwn C sp) := by
  obtain ⟨f, fd, ps, hf, hfn, kp, F, bd⟩ := c.ex
  intro pins s σ H xs us Q I r h
  obtain ⟨p, rfl, hp, q⟩ := h
  obtain ⟨u, rfl, r1⟩ := vals1 r
  · obtain rfl : u = Value.ref p := r1
    obtain ⟨o, od, J⟩ := inst I hp
    obtain ⟨m, Fr0⟩ := I.fr
    refine PySem.W.len_K Fr0 I.ok.mod.kin J hf hfn (thn (run_in1 F hr hk bd at0 I (us := [.ref p]) (vs := [.ref p]) (E := C8.E0) (.cons rfl .nil) q) fun v s1 hv => ?_)
    obtain ⟨z, H1, I1, rz, n, rfl, n0, n1, q1⟩ := hv
    obtain ⟨t, rfl⟩ := (show ∃ t, v = Value.int n t from rz)
    exact ⟨⟨n0, n1⟩, ⟨.int n, H1, I1.tok _, ⟨_, rfl⟩, q1⟩⟩
/-- len of a text, a list or a tuple, the written part said -/
def rLenK (K : PySem.W.Frag) : List V → Hp → VK → Prop := fun xs H Q => ∃ x n, xs = [x] ∧ LenV K x H n ∧ Q (.int n) H
theorem call_lenK : CallR X (.builtin "len") (rLenK X.K) := call_len
/-- a method that may raise -/
structure MethX (P : Program) (w : World) (K : PySem.W.Frag) (mg : Str → Option Value) (base : Heap) (k : Nat) (C : Addr) (m : Str) (sp : Sp) : Prop where
  ex : ∃ (f : Addr) (fd : FuncData) (ps : List Str), Meth K C m f ∧ FnOk P w K mg base (L2N.CX P w) k f fd ps sp ∧ Binds K fd ps []
def tMethX (C : Addr) (m : Str) (sp : Sp) (W : WX) (ta : TE) (t : TA) : TE := fun σ H Q => ta σ H fun x H1 => ∃ a dx fs, x = .ref a ∧ H1 a = some (.ins C dx fs) ∧ fs.lookup m = none ∧ t σ H1 fun vs H2 => sp (x :: vs) H2 Q (WE W σ)
theorem pe_mx {m : Str} {W : WX} {o e : Expr} {es : List Expr} {to : TE} {t : TA} {apos pos : Pos} {pl : Sem Bool} (c : MethX X.prog X.w X.K X.mg X.base k C m sp) (cl : Cls X.K C) (hr : Room j X.A) (hk : k ≤ j) (tk : L2N.Takes X W) (ho : PE X o to) (ha : PA X (e :: es) t)
    (hst : starEach (e :: es) X.env = (false, eval e X.env) :: starEach es X.env := by rfl) (hpl : (backTo pos (starEach es X.env)).any (·.1) = false := by rfl)
    (ht : eval (.Call (.Attribute o m apos) (e :: es) [] pos) X.env = (do
      let v ← eval o X.env
      standAt apos.atName
      let (g, self) ← holding [v] (getMethod v m pl)
      callWith pos g self (backTo pos (starEach (e :: es) X.env)) (backToKw pos (keywordEach [] X.env))) := by rfl) : PE X (.Call (.Attribute o m apos) (e :: es) [] pos) (tMethX C m sp W to t) := by
  obtain ⟨f, fd, ps, M, F, bd⟩ := c.ex
  refine ⟨fun pins s σ H Q I h => ?_⟩
  refine PySem.W.methodCall_KW (pl := pl) (thn (ho.run pins s σ H _ I h) fun u s1 ⟨x, H1, I1, rx, a, dx, fs, ex, ea, l, q⟩ => ?_) ht
  subst ex
  obtain rfl : u = Value.ref a := rx
  refine getmeth_ok I1 ea cl M l ?_
  refine PySem.W.callWith_K (first := [.ref a]) (h₀ := X.base) I.ok.mod.kin M.kp (thn (ha.run pos pins s1 σ H1 _ I1 q) fun us s2 ⟨vs, H2, I2, r, q2⟩ => ⟨I2.kIn, ?_⟩) hst hpl
  exact run_fnS F (hr.mono hk) bd (L2N.passAt tk σ) I2 (us := .ref a :: us) (vs := .ref a :: vs) (.cons rfl r) q2
end
end Fx

/-! operators of two places, the minus sign, abs and == that a class of the program says by its own methods -/
namespace PySem.OwnB
open PySem PySem.W PySem.Calls PyProof.Rows Builtin
section
variable {prog : Program} {w : World} {A : Around} {E : Value → Shared → Prop} {s : Shared} {K : Frag} {x C L f g : Addr} {h₀ : Heap} {m : Str → Option Value} {dx : Addr} {od : Option Obj}
theorem abs_own {Q : Value → Shared → Prop} (F : Fr h₀ L s.heap m) (X₀ : K.In h₀) (I : InstAt s.heap x (instObj C dx) C od) (hs : findIn K (.ref C) "__abs__" = some (some (.ref f))) (hf : isFn K (.ref f) = true)
    (h : wpAny (model prog w) A.in1 (call (.ref f) [.ref x]) Q E s) : wpAny (model prog w) A (call (.builtin "abs") [.ref x]) Q E s := by
  refine Calls.call_function_entry kind_abs plain_abs entry_abs (args_abs _) ?_
  unfold Builtin.«abs»
  refine wpAny_bind (m := oneArg "abs" _) (wpAny_pure ?_)
  refine wpAny_bind (m := callSpecial? (.ref x) (Str.ofString "__abs__")) (special_fn (X₀.keeps F.keep) I hs (beq_iff_eq.mp hf) (wpAny_mono h (fun r s' hr => ?_) fun _ _ y => y))
  exact wpAny_pure ⟨_, rfl, hr⟩
theorem int_add_ref {M : Model} {n : Int} {t : Tok} {Q : Fin → Shared → Prop} (I : InstAt s.heap x (instObj C dx) C od) (h : Q (.done (.ret .notImplemented)) s) : wpAny M A (Builtin.«int.__add__» ⟨[.int n t, .ref x], []⟩) Q E s := by
  show wpAny M A (asInt? (.ref x) >>= _) Q E s
  refine wpAny_bind ?_
  show wpAny M A (load x >>= _) _ E s
  refine wpAny_bind (wpAny_load I.at_ ?_)
  refine wpAny_pure ?_
  exact wpAny_bind (wpAny_rule (wpAny_pure h))
theorem radd_int {n : Int} {t : Tok} {fo ro : Option Value} {Q : Value → Shared → Prop} (F : Fr h₀ L s.heap m) (X₀ : K.In h₀) (I : InstAt s.heap x (instObj C dx) C od) (hc : selfFirst K C = true)
    (ha : findIn K (.ref C) "__add__" = some (some (.ref g))) (hs : findIn K (.ref C) "__radd__" = some (some (.ref f))) (hf : isFn K (.ref f) = true)
    (h1 : findIn K (.type "int") "__add__" = some fo) (h2 : findIn K (.type "int") "__radd__" = some ro) (hsub : subIn K (.ref C) (.type "int") = some false)
    (h : wpAny (model prog w) A (call (.ref f) [.ref x, .int n t]) (PySem.W.CmpBack Q) E s) : wpAny (model prog w) A (binaryOp .Add (.int n t) (.ref x)) Q E s := by
  have X := X₀.keeps F.keep
  obtain ⟨cd, rest, hcd, hm⟩ := ksp_first hc
  have two : wpAny (model prog w) A (tryMethod (.ref x) "__radd__" (.int n t)) (fun r s' => ∃ v, r = some v ∧ Q v s') E s := ksp_try X I hs hf h
  have one : wpAny (model prog w) A (tryMethod (.int n t) "__add__" (.ref x)) (fun r s' => r = none ∧ s' = s) E s := by
    unfold tryMethod
    refine wpAny_bind (m := callSpecial? (.int n t) (Str.ofString "__add__") _) (wpAny_callSpecial?_slot (name := Str.ofString "__add__") (typeIs_int s n t) PySem.F.slot_int_add
      (wpAny_call_entry PySem.F.slot_int_add (typeIs_int s n t) PySem.F.entry_int_add (int_add_ref I ⟨_, rfl, ?_⟩) (PySem.F.args_int_add_2 _ _)))
    exact wpAny_pure ⟨rfl, rfl⟩
  obtain ⟨hh, gg, d, tt, os⟩ := s
  have L1 : Looks (model prog w) hh (typeOf (.ref x)) (.ref C) := I.type
  have L2 : Looks (model prog w) hh (typeOf (.int n t)) (.type "int") := Looks.of_pure rfl
  have L3 : Looks (model prog w) hh (fillsNumberSlot (.ref C) "add") true := fills_K X hcd hm ha
  have L4 : Looks (model prog w) hh (fillsNumberSlot (.type "int") "add") ((fo.isSome && !isSeqSlot fo) || (ro.isSome && !isSeqSlot ro)) := ksp_fillsT X h1 h2
  have L5 : Looks (model prog w) hh (isSubtype (.ref C) (.type "int")) false := looks_subIn X hsub
  have L7 : Looks (model prog w) hh (numberSlotInPython (.type "int") "add") false := Looks.of_pure rfl
  generalize ((fo.isSome && !isSeqSlot fo) || (ro.isSome && !isSeqSlot ro)) = left at L4
  have hne : (Value.type "int" == Value.ref C) = false := Bool.eq_false_iff.mpr fun q => by cases beq_iff_eq.mp q
  show wpAny (model prog w) A (holding _ _) Q E _
  refine wpAny_holding (wpAny_bind ?_)
  unfold binaryOp1
  refine wpAny_bind (L2.at (wpAny_bind (L1.at (wpAny_bind (L4.at ?_)))))
  simp only [hne, Bool.false_eq_true, if_false]
  cases left with
  | false =>
    ksp_lk
    refine wpAny_mono two (fun r s' hr' => ?_) fun _ _ e => e
    obtain ⟨v, rfl, hq⟩ := hr'
    ksp_lk
    exact hq
  | true =>
    ksp_lk
    refine wpAny_mono one (fun r s' hr' => ?_) fun _ _ e => e
    obtain ⟨rfl, rfl⟩ := hr'
    ksp_lk
    refine wpAny_mono two (fun r s' hr' => ?_) fun _ _ e => e
    obtain ⟨v, rfl, hq⟩ := hr'
    ksp_lk
    exact hq
end
end PySem.OwnB

namespace Fx
open PySem PySem.Spec PyProof.Rows L2
/-- an operator said by the method m of the class at C, met by another of the class, or by a whole number on its right (rc: what stands under the reflected name) -/
structure BinT (K : PySem.W.Frag) (C : Addr) (nm rnm : Str) : Prop where
  first : PySem.W.selfFirst K C = true
  r : ∃ rc, PySem.W.findIn K (.ref C) rnm = some rc ∧ (rc = none ∨ ∃ g : Addr, rc = some (.ref g))
  i1 : ∃ fo, PySem.W.findIn K (.type "int") nm = some fo
  i2 : ∃ ro, PySem.W.findIn K (.type "int") rnm = some ro
  sub : PySem.W.subIn K (.type "int") (.ref C) = some false
section
variable {X : Cx} {j k : Nat} {C : Addr} {sp : Sp}
theorem inst2 {X : Cx} {pins : List (Addr × Obj)} {σ : L2.St} {H : Hp} {s : Shared} {C p : Addr} (I : Inv X pins σ H s) (h : At C H p) : ∃ dx od, PySem.W.InstAt s.heap p (PySem.W.instObj C dx) C od := by
  obtain ⟨dx, fs, e⟩ := h
  obtain ⟨mA, O, _⟩ := ins_get I.hok e
  obtain ⟨od, J, _⟩ := O.look
  exact ⟨_, _, J⟩
/-- what comes back is a thing, or True or False -/
def ThingB (Q : VK) : VK := fun v H => ((∃ q, v = .ref q) ∨ ∃ b, v = .bl b) ∧ Q v H
theorem back_of {X : Cx} {pins : List (Addr × Obj)} {σ : L2.St} {Q : VK} {v : Value} {s : Shared} (h : EP X pins σ (ThingB Q) v s) : PySem.W.CmpBack (EP X pins σ Q) v s := by
  obtain ⟨z, H1, I1, rz, hz, q⟩ := h
  rcases hz with ⟨a, rfl⟩ | ⟨b, rfl⟩
  · obtain rfl : v = Value.ref a := rz
    exact ⟨.ref a, H1, I1, rfl, q⟩
  · obtain rfl : v = Value.bool b := rz
    exact ⟨.bl b, H1, I1, rfl, q⟩
/-- a op n, n a whole number -/
def rBinI (C : Addr) (sp : Sp) : R2 := fun x y H Q => ∃ (p : Addr) (n : Int), x = .ref p ∧ y = .int n ∧ At C H p ∧ sp [.ref p, .int n] H (ThingB Q) C8.E0
theorem op_binI {op : Operator} {m : Str} (c : Op CX0 X.prog X.w X.K X.mg X.base k C m sp) (b : BinT X.K C m (dunderR op.info.2)) (e : PySem.dunder op.info.2 = m) (hr : Room j X.A) (hk : k ≤ j) : OpR X (binaryOp op) (rBinI C sp) := by
  obtain ⟨f, fd, ps, hf, hfn, kp, F, bd⟩ := c.ex
  obtain ⟨h0, ⟨rc, h1, h2⟩, ⟨fo, h3⟩, ⟨ro, h4⟩, h5⟩ := b
  intro pins s σ H x y v u Q I rx ry h
  obtain ⟨p, n, rfl, rfl, hp, q⟩ := h
  obtain rfl : v = Value.ref p := rx
  obtain ⟨t, rfl⟩ := (show ∃ t, u = Value.int n t from ry)
  obtain ⟨dx, od, J⟩ := inst2 I hp
  obtain ⟨m, Fr0⟩ := I.fr
  subst e
  refine PySem.W.ksp_binT Fr0 I.ok.mod.kin J (b := .int n t) (T := "int") rfl h0 hf hfn h1 h2 h3 h4 h5 (thn (run_fnS F (hr.mono hk) bd at0 I (us := [.ref p, .int n t]) (vs := [.ref p, .int n]) (E := fun _ => C8.E0) (.cons rfl (.cons ⟨t, rfl⟩ .nil)) q) fun r s1 hr1 => back_of hr1)
/-- n + a -/
def rRaddI (C : Addr) (sp : Sp) : R2 := fun x y H Q => ∃ (p : Addr) (n : Int), x = .int n ∧ y = .ref p ∧ At C H p ∧ sp [.ref p, .int n] H (ThingB Q) C8.E0
theorem op_raddI {k2 : Nat} {CX : CXT} {sp2 : Sp} (c : Op CX0 X.prog X.w X.K X.mg X.base k C "__radd__" sp) (c2 : Op CX X.prog X.w X.K X.mg X.base k2 C "__add__" sp2) (h0 : PySem.W.selfFirst X.K C = true) (h3 : ∃ fo, PySem.W.findIn X.K (.type "int") "__add__" = some fo) (h4 : ∃ ro, PySem.W.findIn X.K (.type "int") "__radd__" = some ro)
    (h5 : PySem.W.subIn X.K (.ref C) (.type "int") = some false) (hr : Room j X.A) (hk : k ≤ j) : OpR X (binaryOp .Add) (rRaddI C sp) := by
  obtain ⟨f, fd, ps, hf, hfn, kp, F, bd⟩ := c.ex
  obtain ⟨g, _, _, hg, _⟩ := c2.ex
  obtain ⟨fo, h3⟩ := h3
  obtain ⟨ro, h4⟩ := h4
  intro pins s σ H x y v u Q I rx ry h
  obtain ⟨p, n, rfl, rfl, hp, q⟩ := h
  obtain rfl : u = Value.ref p := ry
  obtain ⟨t, rfl⟩ := (show ∃ t, v = Value.int n t from rx)
  obtain ⟨dx, od, J⟩ := inst2 I hp
  obtain ⟨m, Fr0⟩ := I.fr
  exact PySem.OwnB.radd_int Fr0 I.ok.mod.kin J h0 hg hf hfn h3 h4 h5 (thn (run_fnS F (hr.mono hk) bd at0 I (us := [.ref p, .int n t]) (vs := [.ref p, .int n]) (E := fun _ => C8.E0) (.cons rfl (.cons ⟨t, rfl⟩ .nil)) q) fun r s1 hr1 => back_of hr1)
/-- both of the class -/
def rBinO (C : Addr) (sp : Sp) : R2 := fun x y H Q => ∃ (p q : Addr), x = .ref p ∧ y = .ref q ∧ At C H p ∧ At C H q ∧ sp [.ref p, .ref q] H (ThingB Q) C8.E0
theorem op_binO {op : Operator} {m : Str} (c : Op CX0 X.prog X.w X.K X.mg X.base k C m sp) (h0 : PySem.W.selfFirst X.K C = true) (e : PySem.dunder op.info.2 = m) (hr : Room j X.A) (hk : k ≤ j) : OpR X (binaryOp op) (rBinO C sp) := by
  obtain ⟨f, fd, ps, hf, hfn, kp, F, bd⟩ := c.ex
  intro pins s σ H x y v u Q I rx ry h
  obtain ⟨p, q, rfl, rfl, hp, hq, k⟩ := h
  obtain rfl : v = Value.ref p := rx
  obtain rfl : u = Value.ref q := ry
  obtain ⟨dx, od, J⟩ := inst2 I hp
  obtain ⟨dx2, od2, J2⟩ := inst2 I hq
  obtain ⟨m, Fr0⟩ := I.fr
  subst e
  exact PySem.W.binop_K Fr0 I.ok.mod.kin J J2.type h0 hf hfn (thn (run_fnS F (hr.mono hk) bd at0 I (us := [.ref p, .ref q]) (vs := [.ref p, .ref q]) (E := fun _ => C8.E0) (.cons rfl (.cons rfl .nil)) k) fun r s1 hr1 => back_of hr1)
/-- a == b, both of the class -/
theorem op_eqO (c : Op CX0 X.prog X.w X.K X.mg X.base k C "__eq__" sp) (hr : Room j X.A) (hk : k ≤ j) : OpR X (compareOp .Eq) (rBinO C sp) := by
  obtain ⟨f, fd, ps, hf, hfn, kp, F, bd⟩ := c.ex
  intro pins s σ H x y v u Q I rx ry h
  obtain ⟨p, q, rfl, rfl, hp, hq, k⟩ := h
  obtain rfl : v = Value.ref p := rx
  obtain rfl : u = Value.ref q := ry
  obtain ⟨dx, od, J⟩ := inst2 I hp
  obtain ⟨dx2, od2, J2⟩ := inst2 I hq
  obtain ⟨m, Fr0⟩ := I.fr
  exact PySem.W.cmp_K (op := .Eq) (Nat.lt_of_succ_lt (hu_of hr)) Fr0 I.ok.mod.kin J J2.type (by simp [PySem.W.notFirst]) hf hfn (thn (run_fnS F (hr.mono hk) bd at0 I (us := [.ref p, .ref q]) (vs := [.ref p, .ref q]) (E := fun _ => C8.E0) (.cons rfl (.cons rfl .nil)) k) fun r s1 hr1 => back_of hr1)
/-- the minus sign -/
def rNegO (C : Addr) (sp : Sp) : V → Hp → VK → Prop := fun x H Q => ∃ p, x = .ref p ∧ At C H p ∧ sp [.ref p] H Q C8.E0
theorem un_negO (c : Op CX0 X.prog X.w X.K X.mg X.base k C "__neg__" sp) (hr : Room j X.A) (hk : k ≤ j) : UnR X (unaryOp .USub) (rNegO C sp) := by
  obtain ⟨f, fd, ps, hf, hfn, kp, F, bd⟩ := c.ex
  intro pins s σ H x v Q I rx h
  obtain ⟨p, rfl, hp, q⟩ := h
  obtain rfl : v = Value.ref p := rx
  obtain ⟨dx, od, J⟩ := inst2 I hp
  obtain ⟨m, Fr0⟩ := I.fr
  exact PySem.W.ksp_neg Fr0 I.ok.mod.kin J hf hfn (run_fnS F (hr.mono hk) bd at0 I (us := [.ref p]) (vs := [.ref p]) (E := fun _ => C8.E0) (.cons rfl .nil) q)
/-- abs(a) -/
def rAbsO (C : Addr) (sp : Sp) : List V → Hp → VK → Prop := fun xs H Q => ∃ p, xs = [.ref p] ∧ At C H p ∧ sp [.ref p] H Q C8.E0
theorem call_absO (c : Op CX0 X.prog X.w X.K X.mg X.base k C "__abs__" sp) (hr : Room j X.A) (hk : k + 1 ≤ j) : CallR X (.builtin "abs") (rAbsO C sp) := by
  obtain ⟨f, fd, ps, hf, hfn, kp, F, bd⟩ := c.ex
  intro pins s σ H xs us Q I r h
  obtain ⟨p, rfl, hp, q⟩ := h
  obtain ⟨u, rfl, r1⟩ := vals1 r
  obtain rfl : u = Value.ref p := r1
  obtain ⟨dx, od, J⟩ := inst2 I hp
  obtain ⟨m, Fr0⟩ := I.fr
  exact PySem.OwnB.abs_own Fr0 I.ok.mod.kin J hf hfn (run_in1 F hr hk bd at0 I (us := [.ref p]) (vs := [.ref p]) (E := C8.E0) (.cons rfl .nil) q)
/-! ### dicts of whole numbers with the same keys compared -/
def rEqDI : R2 := fun x y H Q => ∃ (a b : Addr) (ks ls : List (Key × V)) (r : Bool), x = .ref a ∧ y = .ref b ∧ H a = some (.dK ks) ∧ H b = some (.dK ls) ∧ ks.length = ls.length ∧
  (∀ p ∈ ks, ∃ i n : Int, p.2 = .int i ∧ valV ls p.1 = some (.int n)) ∧ (r = true ↔ ∀ p ∈ ks, valV ls p.1 = some p.2) ∧ Q (.bl r) H
theorem hits_ints {A : Around} {s : Shared} {ls : List (Key × V)} {vb : List (Key × Value)} (rb : KV ls vb) {ks : List (Key × V)} {va : List (Key × Value)} (ra : KV ks va) :
    (∀ p ∈ ks, ∃ i n : Int, p.2 = .int i ∧ valV ls p.1 = some (.int n)) → ∃ r, PySem.W.KeqHits A s vb va r ∧ (r = true ↔ ∀ p ∈ ks, valV ls p.1 = some p.2) := by
  unfold KV at ra
  induction ra with
  | nil => exact fun _ => ⟨true, .nil, by simp⟩
  | @cons p q ps qs h t ih =>
    intro hp
    obtain ⟨h1, h2⟩ := h
    obtain ⟨i, n, e1, e2⟩ := hp p List.mem_cons_self
    obtain ⟨r, hr, hi⟩ := ih fun p' hm => hp p' (List.mem_cons_of_mem _ hm)
    have rr : RelO (some (.int n)) (valueAt vb p.1) := by rw [← e2]; exact rb.val p.1
    obtain ⟨y, hy, ry⟩ := rr.some_of
    obtain ⟨k, v⟩ := q
    have h1' : p.1 = k := h1
    rw [h1'] at hy
    obtain ⟨t1, rfl⟩ := (show ∃ t, y = Value.int n t from ry)
    rw [e1] at h2
    obtain ⟨t2, rfl⟩ := (show ∃ t, v = Value.int i t from h2)
    refine ⟨(i == n) && r, .hit hy (SeqAt.EqAt.int_int (A := A) (s := s) i t2 n t1) hr, ?_⟩
    rw [Bool.and_eq_true, hi]
    constructor
    · rintro ⟨g1, g2⟩ p' hm
      rcases List.mem_cons.mp hm with rfl | hm
      · rw [e2, e1, beq_iff_eq.mp g1]
      · exact g2 p' hm
    · intro g
      refine ⟨?_, fun p' hm => g p' (List.mem_cons_of_mem _ hm)⟩
      have := g p List.mem_cons_self
      rw [e2, e1] at this
      cases this
      exact beq_self_eq_true _
theorem op_eqDI (hu : X.A.units < cLine) : OpR X (compareOp .Eq) rEqDI := by
  intro pins s σ H x y v u Q I rx ry h
  obtain ⟨a, b, ks, ls, r, rfl, rfl, ea, eb, hlen, hp, hr, q⟩ := h
  obtain rfl : v = Value.ref a := rx
  obtain rfl : u = Value.ref b := ry
  obtain ⟨_, ya, va, ra, da⟩ := (show ObjOk X.prog X.w H s.heap a (.dK ks) from I.hok a _ ea)
  obtain ⟨_, yb, vb, rb, db⟩ := (show ObjOk X.prog X.w H s.heap b (.dK ls) from I.hok b _ eb)
  have hl : va.length = vb.length := by rw [← ra.length, ← rb.length]; exact hlen
  obtain ⟨r2, h2, h3⟩ := hits_ints (A := X.A.in1) (s := s) rb ra hp
  have e : r2 = r := Bool.eq_iff_iff.mpr (h3.trans hr.symm)
  subst e
  exact PySem.W.keq_eq (knd := mixKind X.prog X.w) ya yb da db hu (fun _ => h2) (fin_bl I q (by simp [hl]))
/-! ### max and min of a tuple -/
end
end Fx

/-! the greatest and the least of a tuple of whole numbers -/
namespace Fx
open PySem PySem.Spec PyProof.Rows L2
theorem most_of : ∀ (xs : List Int) (x : Int), PySem.W.maxOf x xs ∈ x :: xs ∧ ∀ y ∈ x :: xs, y ≤ PySem.W.maxOf x xs
  | [], x => ⟨List.mem_cons_self, fun y h => by
      rw [List.mem_singleton.mp h]
      exact Int.le_refl _⟩
  | z :: xs, x => by
    have e : PySem.W.maxOf x (z :: xs) = PySem.W.maxOf (if PySem.W.DatumOrd.lt x z = true then z else x) xs := rfl
    have l : (PySem.W.DatumOrd.lt x z = true) = (x < z) := by
      show (decide (x < z) = true) = _
      rw [decide_eq_true_eq]
    rw [e]
    obtain ⟨h1, h2⟩ := most_of xs (if PySem.W.DatumOrd.lt x z = true then z else x)
    simp only [l] at h1 h2 ⊢
    generalize PySem.W.maxOf (if x < z then z else x) xs = m at h1 h2 ⊢
    have h3 := h2 _ List.mem_cons_self
    refine ⟨?_, fun y hy => ?_⟩
    · rcases List.mem_cons.mp h1 with rfl | h1
      · split
        · exact List.mem_cons_of_mem _ List.mem_cons_self
        · exact List.mem_cons_self
      · exact List.mem_cons_of_mem _ (List.mem_cons_of_mem _ h1)
    · rcases List.mem_cons.mp hy with rfl | hy
      · split at h3 <;> omega
      · rcases List.mem_cons.mp hy with rfl | hy
        · split at h3 <;> omega
        · exact h2 y (List.mem_cons_of_mem _ hy)
theorem least_of : ∀ (xs : List Int) (x : Int), PySem.W.minOf x xs ∈ x :: xs ∧ ∀ y ∈ x :: xs, PySem.W.minOf x xs ≤ y
  | [], x => ⟨List.mem_cons_self, fun y h => by
      rw [List.mem_singleton.mp h]
      exact Int.le_refl _⟩
  | z :: xs, x => by
    have e : PySem.W.minOf x (z :: xs) = PySem.W.minOf (if PySem.W.DatumOrd.lt z x = true then z else x) xs := rfl
    have l : (PySem.W.DatumOrd.lt z x = true) = (z < x) := by
      show (decide (z < x) = true) = _
      rw [decide_eq_true_eq]
    rw [e]
    obtain ⟨h1, h2⟩ := least_of xs (if PySem.W.DatumOrd.lt z x = true then z else x)
    simp only [l] at h1 h2 ⊢
    generalize PySem.W.minOf (if z < x then z else x) xs = m at h1 h2 ⊢
    have h3 := h2 _ List.mem_cons_self
    refine ⟨?_, fun y hy => ?_⟩
    · rcases List.mem_cons.mp h1 with rfl | h1
      · split
        · exact List.mem_cons_of_mem _ List.mem_cons_self
        · exact List.mem_cons_self
      · exact List.mem_cons_of_mem _ (List.mem_cons_of_mem _ h1)
    · rcases List.mem_cons.mp hy with rfl | hy
      · split at h3 <;> omega
      · rcases List.mem_cons.mp hy with rfl | hy
        · split at h3 <;> omega
        · exact h2 y (List.mem_cons_of_mem _ hy)
theorem held_int {h : Heap} {v : Value} {m : Int} (H : PySem.W.Holds h v m) : ∃ t, v = .int m t := by
  have q := PySem.W.HoldAll.toInts (PySem.W.HoldAll.cons H PySem.W.HoldAll.nil)
  cases q with
  | cons n t _ => exact ⟨_, rfl⟩
section
variable {X : Cx}
/-- max(t), min(t) of a tuple of whole numbers -/
def rMaxT (K : PySem.W.Frag) : List V → Hp → VK → Prop := fun vs H Q => ∃ (a : Addr) (ns : List Int), vs = [V.ref a] ∧ SqT K H a (ns.map V.int) ∧ 0 < ns.length ∧ ∀ m, m ∈ ns → (∀ y, y ∈ ns → y ≤ m) → Q (.int m) H
def rMinT (K : PySem.W.Frag) : List V → Hp → VK → Prop := fun vs H Q => ∃ (a : Addr) (ns : List Int), vs = [V.ref a] ∧ SqT K H a (ns.map V.int) ∧ 0 < ns.length ∧ ∀ m, m ∈ ns → (∀ y, y ∈ ns → m ≤ y) → Q (.int m) H
theorem cr_maxT (hu : X.A.units + 64 < cLine) (hc : X.calm = true) : CallR X (.builtin "max") (rMaxT X.K) := by
  intro pins s σ H vs us Q I r h
  obtain ⟨a, ns, rfl, hs, hne, q⟩ := h
  obtain ⟨its, rv, ht, hz⟩ := I.tuple hs
  rw [Vals.ref1 r]
  cases ns with
  | nil => simp at hne
  | cons n ns =>
    obtain ⟨h1, h2⟩ := most_of ns n
    refine PySem.W.max_tuple_datum (α := Int) (x := n) (xs := ns) (I.ok.hd hc) (show s.heap.IsTuple a its.toArray from ht) (PySem.W.HoldAll.of_ints rv.ints) (by show X.A.units + 1 + 0 < cLine; omega) fun i v h' tk hi hv hk => ?_
    obtain ⟨t, rfl⟩ := held_int hv
    exact ⟨.int _, H, I.kept hk, ⟨_, rfl⟩, q _ h1 h2⟩
theorem cr_minT (hu : X.A.units + 64 < cLine) (hc : X.calm = true) : CallR X (.builtin "min") (rMinT X.K) := by
  intro pins s σ H vs us Q I r h
  obtain ⟨a, ns, rfl, hs, hne, q⟩ := h
  obtain ⟨its, rv, ht, hz⟩ := I.tuple hs
  rw [Vals.ref1 r]
  cases ns with
  | nil => simp at hne
  | cons n ns =>
    obtain ⟨h1, h2⟩ := least_of ns n
    refine PySem.W.min_tuple_datum (α := Int) (x := n) (xs := ns) (I.ok.hd hc) (show s.heap.IsTuple a its.toArray from ht) (PySem.W.HoldAll.of_ints rv.ints) (by show X.A.units + 1 + 0 < cLine; omega) fun i v h' tk hi hv hk => ?_
    obtain ⟨t, rfl⟩ := held_int hv
    exact ⟨.int _, H, I.kept hk, ⟨_, rfl⟩, q _ h1 h2⟩
end
end Fx

namespace Fk
open PySem L2
local macro_rules | `(tactic| walk_at "rdc") => `(tactic| (first | exact Or.inl ⟨by decide, by decide⟩ | exact Or.inr ⟨by decide, by decide⟩ | exact ⟨by decide, by decide⟩ | exact Or.inl ⟨by omega, by omega⟩ | exact Or.inr ⟨by omega, by omega⟩ | ((show (0 : Int) < _); (first | decide | omega)) | exact ⟨by decide, by decide, by decide⟩ | exact ⟨by omega, by assumption⟩))
local macro_rules | `(tactic| walk_at "hp") => `(tactic| (first | exact upd_same | assumption | ((rw [upd_ne (by assumption)]); (first | exact upd_same | assumption | ((rw [upd_ne (by assumption)]); (first | exact upd_same | assumption | ((rw [upd_ne (by assumption)]); (first | exact upd_same | assumption))))))))
local macro_rules | `(tactic| walk_at "r1") => `(tactic| (first | refine ⟨_, rfl, ?_⟩ | refine ⟨_, _, rfl, rfl, ?_⟩ | refine ⟨_, _, rfl, ?_⟩ | refine Or.inl ⟨_, rfl, ?_⟩ | refine ⟨rfl, ?_⟩ | refine ⟨(by walk_at "rdc"), ?_⟩ | refine ⟨_, _, _, _, rfl, rfl, SqL.of (by walk_at "hp"), rfl, ?_⟩ | refine ⟨_, _, _, _, rfl, rfl, (by walk_at "hp"), rfl, ?_⟩ | refine ⟨_, _, _, _, rfl, rfl, SqL.of (by walk_at "hp"), by assumption, ?_⟩))
local macro_rules | `(tactic| walk_at "rd") => `(tactic| (repeat walk_at "r1"))
--#make Tuning
--#meth pitches
--#ret pitches t
--#ty * ._names=l ._table=d
--#ty Tuning.__neg__ self=o pitch=i
--#ty Tuning.__add__ self=o other=i pitch=i
--#ty Tuning.__sub__ self=o other=i pitch=i
--#ty Tuning.__radd__ self=o other=i
--#ty Tuning.__abs__ self=o
--#ty Tuning.__eq__ self=o other=o
section
variable {P : Program} {w : World} {K : PySem.W.Frag} {mg : Str → Option Value} {base : Heap}
/-- names that a tuning takes -/
structure Gw (ws : List Str) : Prop where
  len : ws.length ≤ 100
  each : ∀ z ∈ ws, z.length ≤ 1000 ∧ FmX 114 (.str z)
  vd : vd ws ws.length = none
/-- a new tuning, read -/
theorem made {C CB CR l0 l1 : Addr} {H : Hp} {ws : List Str} {ps : List V} {Q : VK} {E : XK} (h0 : H l0 = some (.lst (ws.map V.str))) (h1 : H l1 = some (.lst ps)) (hl : ws.length = ps.length) (g : Gw ws)
    (q : ∀ y H', Same H H' → H y = none → Tun C H' y ws ps → Q (.ref y) H') :
    ∀ y dy, H y = none → H dy = none → dy ≠ y → spInit C CB CR (.ref y :: [.ref l0, .ref l1]) (upd (upd H dy (.own y)) y (.ins C dy [])) (fun v H2 => v = .non ∧ Q (.ref y) H2) E := by
  intro y dy ny ndy ne
  have sH : Same H (upd (upd H dy (.own y)) y (.ins C dy [])) := Same.new (Same.new (Same.refl H) ndy) ((upd_ne ne.symm).trans ny)
  refine ⟨y, l0, l1, ws, ps, dy, rfl, upd_same, sH _ _ h0, sH _ _ h1, hl, g.len, g.each, ?_⟩
  rw [g.vd]
  intro G t n kp nt nn tun
  refine ⟨rfl, q y G (fun x o e => kp x o (sH x o e) (ne_of_none e ny)) ny tun.tun⟩
/-- what the operators ask of the module -/
structure To (K : PySem.W.Frag) (mg : Str → Option Value) (C : Addr) : Prop where
  cls : Cls K C
  nT : NoAttr K C "_table"
  nN : NoAttr K C "_names"
  g_Tuning : mg "Tuning" = some (.ref C)
  b_isinstance : mg "isinstance" = none
  b_max : mg "max" = none
  b_min : mg "min" = none
  ty : ∀ {H : Hp} {a dx : Addr} {fs : List (Str × V)}, H a = some (.ins C dx fs) → TyX K H (.ref a) (.ref C)
  kit : PySem.W.kitOne K (.ref C) (.ref C) = some true
  first : PySem.W.selfFirst K C = true
  bt_add : Fx.BinT K C "__add__" "__radd__"
abbrev s_Tuning___neg__ : Stmt := inClass (top 17) 13
theorem sc_Tuning___neg__ : FnScope ["self", "pitch"] ["self"] (defScope s_Tuning___neg__) := ⟨rfl, rfl, rfl, by decide +kernel, rfl, by decide +kernel, by decide +kernel⟩
def spNeg (C : Addr) : Sp := fun vs H Q _ => ∃ (p : Addr) (ws : List Str) (ns : List Int), vs = [.ref p] ∧ Tun C H p ws (ns.map V.int) ∧ ws.length = ns.length ∧ Gw ws ∧
  ∀ y H', Same H H' → H y = none → Tun C H' y ws ((ns.map fun n => -n).map V.int) → Q (.ref y) H'
theorem ok_neg {f C CB CR : Addr} {fd : FuncData} (F : Fun K "__neg__" "Tuning.__neg__" s_Tuning___neg__ f fd) (T : To K mg C) (k_Tuning : Fx.MkX P w K mg base 5 "Tuning" C (spInit C CB CR)) (q_pitches : Fx.MethC P w K mg base 1 C "pitches" (spPitches C)) :
    FnOk P w K mg base CX0 7 f fd ["self"] (spNeg C) := by
  refine F.ok sc_Tuning___neg__ (fun vs H Q E h => ?_) (fun cdv A outer s H vs Q E hr h => ?_)
  · obtain ⟨p, ws, ns, rfl, _⟩ := h
    rfl
  · obtain ⟨p, ws, ns, rfl, hT, hl, g, k⟩ := h
    have hll : ws.length = (ns.map V.int).length := by rw [List.length_map]; exact hl
    refine ⟨_, (pss_one (ps_ret (Fx.pe_mkX k_Tuning hr (by decide) rfl Fx.none0 (pa_cons (pe_fld (pv 0) rfl) (pa_cons (pe_lc (own := [("pitch", 1)]) (g := gName 1) (tt := tYes) rfl sc_Tuning___neg__.nd (pi_tup (Fx.pe_mc0 q_pitches T.cls hr (by decide) (pv 0))) (blkOk_by (own := [("pitch", 1)]) (N := ["self", "pitch"]) (sc := defScope s_Tuning___neg__) (by decide +kernel)) (fun _ _ _ _ _ => pg_name (i := 1) sc_Tuning___neg__.nd rfl (by first | exact Or.inl rfl | exact Or.inr rfl)) (fun _ _ _ _ _ => pts_nil) (fun _ _ _ _ _ => (pe_un un_neg (pv 1)))) pa_nil))))), ?_⟩
    obtain ⟨dx, t, n, h1, h2, h3⟩ := id hT
    walk_at "rd"
    refine ⟨p, C, dx, _, _, rfl, h1, T.cls, T.nN, rfl, ?_⟩
    walk_at "rd"
    refine ⟨p, dx, _, rfl, h1, rfl, ?_⟩
    refine ⟨p, ws, _, rfl, hT, hll, fun q H1 s1 nq hq => ?_⟩
    walk_at "rd"
    refine ⟨⟨_, SqT.of hq⟩, fun D nD => ?_⟩
    refine lc_tup (K := K) (a := q) (xs := ns.map V.int) (fun i H' => H' D = some (.lst (((ns.take i).map fun n => -n).map V.int)) ∧ Same H1 H') ⟨upd_same, Same.new (Same.refl H1) nD⟩ (fun i H' _ hp => SqT.of (hp.2 _ _ hq)) (fun i x H' hi hp => ?_) (fun H' hp => ?_)
    · obtain ⟨hD, hs⟩ := hp
      rw [List.getElem?_map] at hi
      cases e : ns[i]? with
      | none =>
        rw [e] at hi
        cases hi
      | some m =>
        rw [e] at hi
        cases hi
        have i100 : i < 100 := by
          have := (List.getElem?_eq_some_iff.mp e).1
          have := g.len
          omega
        refine ⟨rfl, ?_⟩
        walk_at "rd"
        refine ⟨_, hD, ?_, ?_, Same.set hs nD⟩
        · rw [List.length_map, List.length_map, List.length_take]
          exact small1000 (by omega)
        · rw [upd_same, take_next e, List.map_append, List.map_append]
          rfl
    · obtain ⟨hD, hs⟩ := hp
      rw [List.length_map, List.take_length] at hD
      have hsH : Same H H' := fun x o e => hs x o (s1 x o e)
      exact made (hsH _ _ h3) hD (by rw [List.length_map, List.length_map]; exact hl) g fun y H2 s2 ny hy => k y H2 (fun x o e => s2 x o (hsH x o e)) (Same.free hsH ny) hy
abbrev s_Tuning___add__ : Stmt := inClass (top 17) 14
theorem sc_Tuning___add__ : FnScope ["self", "other", "pitch"] ["self", "other"] (defScope s_Tuning___add__) := ⟨rfl, rfl, rfl, by decide +kernel, rfl, by decide +kernel, by decide +kernel⟩
def spAdd (C : Addr) : Sp := fun vs H Q _ => ∃ (p : Addr) (ws : List Str) (ns : List Int) (v : Int), vs = [.ref p, .int v] ∧ Tun C H p ws (ns.map V.int) ∧ ws.length = ns.length ∧ Gw ws ∧
  ∀ y H', Same H H' → H y = none → Tun C H' y ws ((ns.map fun n => n + v).map V.int) → Q (.ref y) H'
theorem ok_add {f C CB CR : Addr} {fd : FuncData} (F : Fun K "__add__" "Tuning.__add__" s_Tuning___add__ f fd) (T : To K mg C) (k_Tuning : Fx.MkX P w K mg base 5 "Tuning" C (spInit C CB CR)) (q_pitches : Fx.MethC P w K mg base 1 C "pitches" (spPitches C)) :
    FnOk P w K mg base CX0 7 f fd ["self", "other"] (spAdd C) := by
  refine F.ok sc_Tuning___add__ (fun vs H Q E h => ?_) (fun cdv A outer s H vs Q E hr h => ?_)
  · obtain ⟨p, ws, ns, v, rfl, _⟩ := h
    rfl
  · obtain ⟨p, ws, ns, v, rfl, hT, hl, g, k⟩ := h
    have hll : ws.length = (ns.map V.int).length := by rw [List.length_map]; exact hl
    refine ⟨_, (pss_one (ps_ret (Fx.pe_mkX k_Tuning hr (by decide) rfl Fx.none0 (pa_cons (pe_fld (pv 0) rfl) (pa_cons (pe_lc (own := [("pitch", 2)]) (g := gName 2) (tt := tYes) rfl sc_Tuning___add__.nd (pi_tup (Fx.pe_mc0 q_pitches T.cls hr (by decide) (pv 0))) (blkOk_by (own := [("pitch", 2)]) (N := ["self", "other", "pitch"]) (sc := defScope s_Tuning___add__) (by decide +kernel)) (fun _ _ _ _ _ => pg_name (i := 2) sc_Tuning___add__.nd rfl (by first | exact Or.inl rfl | exact Or.inr rfl)) (fun _ _ _ _ _ => pts_nil) (fun _ _ _ _ _ => (pe_op op_add (pv 2) (pv 1)))) pa_nil))))), ?_⟩
    obtain ⟨dx, t, n, h1, h2, h3⟩ := id hT
    walk_at "rd"
    refine ⟨p, C, dx, _, _, rfl, h1, T.cls, T.nN, rfl, ?_⟩
    walk_at "rd"
    refine ⟨p, dx, _, rfl, h1, rfl, ?_⟩
    refine ⟨p, ws, _, rfl, hT, hll, fun q H1 s1 nq hq => ?_⟩
    walk_at "rd"
    refine ⟨⟨_, SqT.of hq⟩, fun D nD => ?_⟩
    refine lc_tup (K := K) (a := q) (xs := ns.map V.int) (fun i H' => H' D = some (.lst (((ns.take i).map fun n => n + v).map V.int)) ∧ Same H1 H') ⟨upd_same, Same.new (Same.refl H1) nD⟩ (fun i H' _ hp => SqT.of (hp.2 _ _ hq)) (fun i x H' hi hp => ?_) (fun H' hp => ?_)
    · obtain ⟨hD, hs⟩ := hp
      rw [List.getElem?_map] at hi
      cases e : ns[i]? with
      | none =>
        rw [e] at hi
        cases hi
      | some m =>
        rw [e] at hi
        cases hi
        have i100 : i < 100 := by
          have := (List.getElem?_eq_some_iff.mp e).1
          have := g.len
          omega
        refine ⟨rfl, ?_⟩
        walk_at "rd"
        refine ⟨_, hD, ?_, ?_, Same.set hs nD⟩
        · rw [List.length_map, List.length_map, List.length_take]
          exact small1000 (by omega)
        · rw [upd_same, take_next e, List.map_append, List.map_append]
          rfl
    · obtain ⟨hD, hs⟩ := hp
      rw [List.length_map, List.take_length] at hD
      have hsH : Same H H' := fun x o e => hs x o (s1 x o e)
      exact made (hsH _ _ h3) hD (by rw [List.length_map, List.length_map]; exact hl) g fun y H2 s2 ny hy => k y H2 (fun x o e => s2 x o (hsH x o e)) (Same.free hsH ny) hy
abbrev s_Tuning___sub__ : Stmt := inClass (top 17) 16
theorem sc_Tuning___sub__ : FnScope ["self", "other", "pitch"] ["self", "other"] (defScope s_Tuning___sub__) := ⟨rfl, rfl, rfl, by decide +kernel, rfl, by decide +kernel, by decide +kernel⟩
def spSub (C : Addr) : Sp := fun vs H Q _ => ∃ (p : Addr) (ws : List Str) (ns : List Int) (v : Int), vs = [.ref p, .int v] ∧ Tun C H p ws (ns.map V.int) ∧ ws.length = ns.length ∧ Gw ws ∧
  ∀ y H', Same H H' → H y = none → Tun C H' y ws ((ns.map fun n => n - v).map V.int) → Q (.ref y) H'
theorem ok_sub {f C CB CR : Addr} {fd : FuncData} (F : Fun K "__sub__" "Tuning.__sub__" s_Tuning___sub__ f fd) (T : To K mg C) (k_Tuning : Fx.MkX P w K mg base 5 "Tuning" C (spInit C CB CR)) (q_pitches : Fx.MethC P w K mg base 1 C "pitches" (spPitches C)) :
    FnOk P w K mg base CX0 7 f fd ["self", "other"] (spSub C) := by
  refine F.ok sc_Tuning___sub__ (fun vs H Q E h => ?_) (fun cdv A outer s H vs Q E hr h => ?_)
  · obtain ⟨p, ws, ns, v, rfl, _⟩ := h
    rfl
  · obtain ⟨p, ws, ns, v, rfl, hT, hl, g, k⟩ := h
    have hll : ws.length = (ns.map V.int).length := by rw [List.length_map]; exact hl
    refine ⟨_, (pss_one (ps_ret (Fx.pe_mkX k_Tuning hr (by decide) rfl Fx.none0 (pa_cons (pe_fld (pv 0) rfl) (pa_cons (pe_lc (own := [("pitch", 2)]) (g := gName 2) (tt := tYes) rfl sc_Tuning___sub__.nd (pi_tup (Fx.pe_mc0 q_pitches T.cls hr (by decide) (pv 0))) (blkOk_by (own := [("pitch", 2)]) (N := ["self", "other", "pitch"]) (sc := defScope s_Tuning___sub__) (by decide +kernel)) (fun _ _ _ _ _ => pg_name (i := 2) sc_Tuning___sub__.nd rfl (by first | exact Or.inl rfl | exact Or.inr rfl)) (fun _ _ _ _ _ => pts_nil) (fun _ _ _ _ _ => (pe_op op_sub (pv 2) (pv 1)))) pa_nil))))), ?_⟩
    obtain ⟨dx, t, n, h1, h2, h3⟩ := id hT
    walk_at "rd"
    refine ⟨p, C, dx, _, _, rfl, h1, T.cls, T.nN, rfl, ?_⟩
    walk_at "rd"
    refine ⟨p, dx, _, rfl, h1, rfl, ?_⟩
    refine ⟨p, ws, _, rfl, hT, hll, fun q H1 s1 nq hq => ?_⟩
    walk_at "rd"
    refine ⟨⟨_, SqT.of hq⟩, fun D nD => ?_⟩
    refine lc_tup (K := K) (a := q) (xs := ns.map V.int) (fun i H' => H' D = some (.lst (((ns.take i).map fun n => n - v).map V.int)) ∧ Same H1 H') ⟨upd_same, Same.new (Same.refl H1) nD⟩ (fun i H' _ hp => SqT.of (hp.2 _ _ hq)) (fun i x H' hi hp => ?_) (fun H' hp => ?_)
    · obtain ⟨hD, hs⟩ := hp
      rw [List.getElem?_map] at hi
      cases e : ns[i]? with
      | none =>
        rw [e] at hi
        cases hi
      | some m =>
        rw [e] at hi
        cases hi
        have i100 : i < 100 := by
          have := (List.getElem?_eq_some_iff.mp e).1
          have := g.len
          omega
        refine ⟨rfl, ?_⟩
        walk_at "rd"
        refine ⟨_, hD, ?_, ?_, Same.set hs nD⟩
        · rw [List.length_map, List.length_map, List.length_take]
          exact small1000 (by omega)
        · rw [upd_same, take_next e, List.map_append, List.map_append]
          rfl
    · obtain ⟨hD, hs⟩ := hp
      rw [List.length_map, List.take_length] at hD
      have hsH : Same H H' := fun x o e => hs x o (s1 x o e)
      exact made (hsH _ _ h3) hD (by rw [List.length_map, List.length_map]; exact hl) g fun y H2 s2 ny hy => k y H2 (fun x o e => s2 x o (hsH x o e)) (Same.free hsH ny) hy
abbrev s_Tuning___radd__ : Stmt := inClass (top 17) 15
theorem sc_Tuning___radd__ : FnScope ["self", "other"] ["self", "other"] (defScope s_Tuning___radd__) := ⟨rfl, rfl, rfl, by decide +kernel, rfl, by decide +kernel, by decide +kernel⟩
theorem ok_radd {f C : Addr} {fd : FuncData} (F : Fun K "__radd__" "Tuning.__radd__" s_Tuning___radd__ f fd) (T : To K mg C) (o_add : Fx.Op CX0 P w K mg base 7 C "__add__" (spAdd C)) :
    FnOk P w K mg base CX0 8 f fd ["self", "other"] (spAdd C) := by
  refine F.ok sc_Tuning___radd__ (fun vs H Q E h => ?_) (fun cdv A outer s H vs Q E hr h => ?_)
  · obtain ⟨p, ws, ns, v, rfl, _⟩ := h
    rfl
  · obtain ⟨p, ws, ns, v, rfl, hT, hl, g, k⟩ := h
    refine ⟨_, (pss_one (ps_ret (pe_op (Fx.op_binI o_add T.bt_add rfl hr (by decide)) (pv 0) (pv 1)))), ?_⟩
    have hp : Fx.At C H p := by
      obtain ⟨dx, t, n, h1, _⟩ := hT
      exact ⟨_, _, h1⟩
    walk_at "rd"
    refine ⟨hp, p, ws, ns, v, rfl, hT, hl, g, fun y H' s1 ny hy => ?_⟩
    exact ⟨.inl ⟨y, rfl⟩, k y H' s1 ny hy⟩
abbrev s_Tuning___abs__ : Stmt := inClass (top 17) 17
theorem sc_Tuning___abs__ : FnScope ["self"] ["self"] (defScope s_Tuning___abs__) := ⟨rfl, rfl, rfl, by decide +kernel, rfl, by decide +kernel, by decide +kernel⟩
/-- the greatest minus the least, or 0 -/
def Wide (ns : List Int) (m : Int) : Prop := (ns = [] ∧ m = 0) ∨ ∃ a b, a ∈ ns ∧ b ∈ ns ∧ (∀ x ∈ ns, x ≤ a) ∧ (∀ x ∈ ns, b ≤ x) ∧ m = a - b
theorem Wide.one {ns : List Int} {m k : Int} (h1 : Wide ns m) (h2 : Wide ns k) : m = k := by
  rcases h1 with ⟨rfl, rfl⟩ | ⟨a, b, ha, hb, h3, h4, rfl⟩
  · rcases h2 with ⟨_, rfl⟩ | ⟨a, _, ha, _⟩
    · rfl
    · cases ha
  · rcases h2 with ⟨rfl, rfl⟩ | ⟨c, d, hc, hd, h5, h6, rfl⟩
    · cases ha
    · have := h3 c hc
      have := h5 a ha
      have := h4 d hd
      have := h6 b hb
      omega
def spAbs (C : Addr) : Sp := fun vs H Q _ => ∃ (p : Addr) (ws : List Str) (ns : List Int), vs = [.ref p] ∧ Tun C H p ws (ns.map V.int) ∧ ws.length = ns.length ∧ ∀ m H', Same H H' → Wide ns m → Q (.int m) H'
theorem ok_abs {f C : Addr} {fd : FuncData} (F : Fun K "__abs__" "Tuning.__abs__" s_Tuning___abs__ f fd) (T : To K mg C) (q_pitches : Fx.MethC P w K mg base 1 C "pitches" (spPitches C)) :
    FnOk P w K mg base CX0 3 f fd ["self"] (spAbs C) := by
  refine F.ok sc_Tuning___abs__ (fun vs H Q E h => ?_) (fun cdv A outer s H vs Q E hr h => ?_)
  · obtain ⟨p, ws, ns, rfl, _⟩ := h
    rfl
  · obtain ⟨p, ws, ns, rfl, hT, hl, k⟩ := h
    have hll : ws.length = (ns.map V.int).length := by rw [List.length_map]; exact hl
    refine ⟨_, (pss_cons (ps_if (pt_not (pt_truth (pe_fld (pv 0) rfl) (by intro _; rfl))) (pss_one (ps_ret pe_int)) pss_nil)
      (pss_one (ps_ret (pe_op op_sub (pe_callB (Fx.cr_maxT hr.units rfl) (by rfl) T.b_max (by decide +kernel) (pa_cons (Fx.pe_mc0 q_pitches T.cls hr (by decide) (pv 0)) pa_nil)) (pe_callB (Fx.cr_minT hr.units rfl) (by rfl) T.b_min (by decide +kernel) (pa_cons (Fx.pe_mc0 q_pitches T.cls hr (by decide) (pv 0)) pa_nil)))))), ?_⟩
    obtain ⟨dx, t, n, h1, h2, h3⟩ := id hT
    walk_at "rd"
    refine ⟨p, C, dx, _, _, rfl, h1, T.cls, T.nN, rfl, ?_⟩
    walk_at "rd"
    refine ⟨_, .inl ⟨_, SqL.of h3, rfl⟩, ?_⟩
    by_cases hw : ws = []
    · subst hw
      have e : ns = [] := by
        cases ns with
        | nil => rfl
        | cons _ _ => simp at hl
      refine ite2 (fun _ => ?_) (fun c => absurd rfl c)
      walk_at "rd"
      exact k 0 H (Same.refl H) (.inl ⟨e, rfl⟩)
    · have hpos : 0 < ns.length := by
        rw [← hl]
        exact List.length_pos_iff.mpr hw
      refine ite2 (fun c => ?_) (fun _ => ?_)
      · exact absurd c (by simp [hw])
      walk_at "rd"
      refine ⟨p, dx, _, rfl, h1, rfl, ?_⟩
      refine ⟨p, ws, _, rfl, hT, hll, fun q1 H1 s1 nq1 hq1 => ?_⟩
      walk_at "rd"
      refine ⟨q1, ns, rfl, SqT.of hq1, hpos, fun a ha h4 => ?_⟩
      walk_at "rd"
      refine ⟨p, dx, _, rfl, s1 _ _ h1, rfl, ?_⟩
      refine ⟨p, ws, _, rfl, ⟨dx, t, n, s1 _ _ h1, s1 _ _ h2, s1 _ _ h3⟩, hll, fun q2 H2 s2 nq2 hq2 => ?_⟩
      walk_at "rd"
      refine ⟨q2, ns, rfl, SqT.of hq2, hpos, fun b hb h5 => ?_⟩
      walk_at "rd"
      exact k (a - b) H2 (fun x o e => s2 x o (s1 x o e)) (.inr ⟨a, b, ha, hb, h4, h5, rfl⟩)
theorem eqv_strs : ∀ a b : List Str, PyData.eqv (.list ((a.map V.str).map pdv)) (.list ((b.map V.str).map pdv)) = decide (a = b) := by
  intro a b
  rw [List.map_map, List.map_map]
  simp only [PyData.eqv]
  induction a generalizing b with
  | nil =>
    cases b with
    | nil => simp [PyData.eqvAll]
    | cons y b => simp [PyData.eqvAll]
  | cons x a ih =>
    cases b with
    | nil => simp [PyData.eqvAll]
    | cons y b =>
      rw [List.map_cons, List.map_cons, PyData.eqvAll, ih b]
      by_cases e : x = y
      · subst e
        simp [pdv, PyData.eqv]
      · simp [pdv, PyData.eqv, e]
theorem tab_same {ws : List Str} {ns ms : List Int} (hn : ws.Nodup) (h1 : ws.length = ns.length) (h2 : ws.length = ms.length) : (∀ p ∈ tab ws (ns.map V.int), ∃ i n : Int, p.2 = V.int i ∧ valV (tab ws (ms.map V.int)) p.1 = some (.int n)) ∧
    ((∀ p ∈ tab ws (ns.map V.int), valV (tab ws (ms.map V.int)) p.1 = some p.2) ↔ ns = ms) := by
  induction ws generalizing ns ms with
  | nil =>
    cases ns with
    | cons _ _ => simp at h1
    | nil =>
      cases ms with
      | cons _ _ => simp at h2
      | nil => exact ⟨fun p hp => (nomatch hp), fun _ => rfl, fun _ p hp => (nomatch hp)⟩
  | cons w ws ih =>
    cases ns with
    | nil => simp at h1
    | cons n ns =>
      cases ms with
      | nil => simp at h2
      | cons m ms =>
        obtain ⟨hw, hn'⟩ := List.nodup_cons.mp hn
        obtain ⟨i1, i2⟩ := ih hn' (ns := ns) (ms := ms) (by simpa using h1) (by simpa using h2)
        have e1 : tab (w :: ws) ((n :: ns).map V.int) = (Sum.inr w, V.int n) :: tab ws (ns.map V.int) := rfl
        have e2 : tab (w :: ws) ((m :: ms).map V.int) = (Sum.inr w, V.int m) :: tab ws (ms.map V.int) := rfl
        rw [e1, e2]
        have skip : ∀ p ∈ tab ws (ns.map V.int), valV ((Sum.inr w, V.int m) :: tab ws (ms.map V.int)) p.1 = valV (tab ws (ms.map V.int)) p.1 := by
          intro p hp
          refine valV_neg fun q => hw ?_
          obtain ⟨z, hz, e⟩ := List.mem_map.mp (List.of_mem_zip hp).1
          rw [← e] at q
          cases q
          exact hz
        have here : valV ((Sum.inr w, V.int m) :: tab ws (ms.map V.int)) (Sum.inr w : Key) = some (.int m) := valV_pos rfl
        refine ⟨fun p hp => ?_, fun h => ?_, fun h => ?_⟩
        · rcases List.mem_cons.mp hp with rfl | hp
          · exact ⟨n, m, rfl, here⟩
          · rw [skip p hp]
            exact i1 p hp
        · have a := h _ List.mem_cons_self
          rw [here] at a
          cases a
          rw [i2.mp fun p hp => by rw [← skip p hp]; exact h p (List.mem_cons_of_mem _ hp)]
        · cases h
          intro p hp
          rcases List.mem_cons.mp hp with rfl | hp
          · exact here
          · rw [skip p hp]
            exact i2.mpr rfl p hp
theorem tab_len {ws : List Str} {ns : List Int} (h : ws.length = ns.length) : (tab ws (ns.map V.int)).length = ns.length := by
  unfold tab
  rw [List.length_zip, List.length_map, List.length_map, h, Nat.min_self]
abbrev s_Tuning___eq__ : Stmt := inClass (top 17) 12
theorem sc_Tuning___eq__ : FnScope ["self", "other"] ["self", "other"] (defScope s_Tuning___eq__) := ⟨rfl, rfl, rfl, by decide +kernel, rfl, by decide +kernel, by decide +kernel⟩
def spEq (C : Addr) : Sp := fun vs H Q _ => ∃ (p q : Addr) (ws zs : List Str) (ns ms : List Int), vs = [.ref p, .ref q] ∧ Tun C H p ws (ns.map V.int) ∧ Tun C H q zs (ms.map V.int) ∧ ws.length = ns.length ∧ zs.length = ms.length ∧ ws.Nodup ∧ (∀ z ∈ ws, PyData.strOk z = true) ∧ (∀ z ∈ zs, PyData.strOk z = true) ∧ Q (.bl (decide (ws = zs ∧ ns = ms))) H
theorem ok_eq {f C : Addr} {fd : FuncData} (F : Fun K "__eq__" "Tuning.__eq__" s_Tuning___eq__ f fd) (T : To K mg C) : FnOk P w K mg base CX0 1 f fd ["self", "other"] (spEq C) := by
  refine F.ok sc_Tuning___eq__ (fun vs H Q E h => ?_) (fun cdv A outer s H vs Q E hr h => ?_)
  · obtain ⟨p, q, ws, zs, ns, ms, rfl, _⟩ := h
    rfl
  · obtain ⟨p, q, ws, zs, ns, ms, rfl, hT, hU, hl, hl2, hn, ok1, ok2, k⟩ := h
    refine ⟨_, (pss_one (ps_ret (pe_and (pe_callB call_isi (by rfl) T.b_isinstance (by decide +kernel) (pa_cons (pv 1) (pa_cons (pe_glob (v := .ref _) rfl T.g_Tuning rfl) pa_nil))) (pe_and (pe_cmpR (op_eqD hr.units) (pe_fld (pv 0) rfl) (pe_fld (pv 1) rfl) (nomark _)) (pe_one (pe_cmpR (Fx.op_eqDI (Nat.lt_of_succ_lt (hu_of hr))) (pe_fld (pv 0) rfl) (pe_fld (pv 1) rfl) (nomark _))))))), ?_⟩
    obtain ⟨dx, t, n, h1, h2, h3⟩ := id hT
    obtain ⟨dy, u, m, g1, g2, g3⟩ := id hU
    walk_at "rd"
    refine ⟨_, _, _, _, true, rfl, .own C, T.ty g1, T.kit, ?_⟩
    walk_at "rd"
    refine ⟨p, C, dx, _, _, rfl, h1, T.cls, T.nN, rfl, ?_⟩
    walk_at "rd"
    refine ⟨q, C, dy, _, _, rfl, g1, T.cls, T.nN, rfl, ?_⟩
    walk_at "rd"
    have f1 : ∀ v ∈ ws.map V.str, Flat1 v := flat_strs ok1
    have f2 : ∀ v ∈ zs.map V.str, Flat1 v := flat_strs ok2
    refine ⟨_, _, .lst (SqL.of h3) (flat_dp f1), .lst (SqL.of g3) (flat_dp f2), (flat_ok f1).1.1, (flat_ok f2).1.1, _, rfl, ?_⟩
    rw [eqv_strs]
    refine ite2 (fun c => ?_) (fun c => ?_)
    · have e := of_decide_eq_true c
      subst e
      walk_at "rd"
      refine ⟨p, C, dx, _, _, rfl, h1, T.cls, T.nT, rfl, ?_⟩
      walk_at "rd"
      refine ⟨q, C, dy, _, _, rfl, g1, T.cls, T.nT, rfl, ?_⟩
      obtain ⟨i1, i2⟩ := tab_same (ns := ns) (ms := ms) hn hl hl2
      refine ⟨t, u, _, _, decide (ns = ms), rfl, rfl, h2, g2, ?_, i1, ?_, ?_⟩
      · rw [tab_len hl, tab_len hl2, ← hl, hl2]
      · rw [i2, decide_eq_true_eq]
      · have e : decide (ws = ws ∧ ns = ms) = decide (ns = ms) := by simp
        rw [e] at k
        exact k
    · have e : decide (ws = zs ∧ ns = ms) = false := decide_eq_false fun z => c (decide_eq_true z.1)
      rw [e] at k
      exact k
end
end Fk

namespace Fk
open PySem L2
section
variable {P : Program} {w : World} {K : PySem.W.Frag} {mg : Str → Option Value} {base : Heap}
theorem small_letter : ∀ c < 123, 97 ≤ c → Unicode.isAlpha c = true ∧ Unicode.isLower c = true ∧ Unicode.isUpper c = false ∧ Unicode.isTitle c = false := by decide +kernel
theorem low_good {z : Str} (h : Low z) : nameB z = true := by
  have asc := (low_asc h).ascii
  obtain ⟨l, rfl, h1, h2, h3⟩ := h
  have each : ∀ c ∈ (S l).cps, Unicode.isAlpha c = true ∧ Unicode.isLower c = true ∧ Unicode.isUpper c = false ∧ Unicode.isTitle c = false := fun c hc => by
    have q := h3 c (by simpa using hc)
    exact small_letter c (by omega) q.1
  have a1 : Txt.isalpha (S l) = true := by
    show (decide ((S l).length > 0) && (S l).cps.all Unicode.isAlpha) = true
    rw [Bool.and_eq_true, Array.all_eq_true_iff_forall_mem]
    exact ⟨decide_eq_true (by rw [S_len]; omega), fun c hc => (each c hc).1⟩
  have a2 : Txt.islower (S l) = true := by
    show ((S l).cps.any Unicode.isLower && !(S l).cps.any fun c => Unicode.isUpper c || Unicode.isTitle c) = true
    rw [show (S l).cps.any Unicode.isLower = l.any Unicode.isLower by simp, show ((S l).cps.any fun c => Unicode.isUpper c || Unicode.isTitle c) = l.any fun c => Unicode.isUpper c || Unicode.isTitle c by simp]
    have one : l.any Unicode.isLower = true := by
      cases l with
      | nil => simp at h1
      | cons c r => exact List.any_eq_true.mpr ⟨c, List.mem_cons_self, (each c (by simp)).2.1⟩
    have no : (l.any fun c => Unicode.isUpper c || Unicode.isTitle c) = false := by
      rw [List.any_eq_false]
      intro c hc
      have q := each c (by simpa using hc)
      rw [q.2.2.1, q.2.2.2]
      decide
    rw [one, no]
    rfl
  unfold nameB
  rw [asc, a1, a2, decide_eq_true (show ((S l).length : Int) ≤ 12 by rw [S_len]; omega)]
  rfl
theorem vd_fine {ws : List Str} (hg : ∀ z ∈ ws, nameB z = true) (hn : ws.Nodup) : ∀ i, vd ws i = none
  | 0 => rfl
  | i + 1 => by
    have ih := vd_fine hg hn i
    cases e : ws[i]? with
    | none => simp [vd, ih, e]
    | some z =>
      rw [vd_next ih e]
      have hz := List.mem_of_getElem? e
      have nz : z ∉ ws.take i := by
        intro hm
        obtain ⟨j, hj⟩ := List.mem_iff_getElem?.mp hm
        have hji : j < i := by
          have := (List.getElem?_eq_some_iff.mp hj).1
          rw [List.length_take] at this
          omega
        rw [List.getElem?_take_of_lt hji] at hj
        exact absurd (nodup_ix hn hj e) (by omega)
      unfold step
      rw [if_neg (by rw [hg z hz]; decide), if_neg nz]
theorem Bag.ne_refs {H : Hp} {b c q x y : Addr} (h : Bag H b c) (hq : H q = some (.lst [.ref x, .ref y])) : q ≠ b := by
  obtain ⟨n, acc, pos, base, cells, h1, _⟩ := h
  rintro rfl
  rw [hq] at h1
  have e := HO.lst.inj (Option.some.inj h1)
  cases (List.cons.inj e).1
theorem flat_depth : ∀ {l : List V}, (∀ v ∈ l, Flat1 v) → PyData.depthAll (l.map pdv) = 0
  | [], _ => rfl
  | v :: l, h => by
    have ih := flat_depth fun u hu => h u (List.mem_cons_of_mem _ hu)
    have f := h v List.mem_cons_self
    have e : PyData.depth (pdv v) = 0 := by
      cases v with
      | str z => simp [pdv, PyData.depth]
      | int i => simp [pdv, PyData.depth]
      | bl b => simp [pdv, PyData.depth]
      | _ => exact f.elim
    simp [PyData.depthAll, e, ih]
/-- two lists within a list -/
theorem nest_ok {l m : List V} (hl : ∀ v ∈ l, Flat1 v) (hm : ∀ v ∈ m, Flat1 v) : SeqAt.shaped (.list [.list (l.map pdv), .list (m.map pdv)]) = true ∧ PyData.eqv (.list [.list (l.map pdv), .list (m.map pdv)]) (.list [.list (l.map pdv), .list (m.map pdv)]) = true := by
  obtain ⟨⟨a1, a2⟩, _⟩ := flat_ok hl
  obtain ⟨⟨b1, b2⟩, _⟩ := flat_ok hm
  refine ⟨?_, by simp only [PyData.eqv, PyData.eqvAll] at a2 b2 ⊢; rw [a2, b2]; rfl⟩
  have da := flat_depth hl
  have db := flat_depth hm
  have dd : PyData.depth (.list [.list (l.map pdv), .list (m.map pdv)]) ≤ 64 := by simp [PyData.depth, PyData.depthAll, da, db]
  unfold SeqAt.shaped at a1 b1 ⊢
  rw [Bool.and_eq_true] at a1 b1 ⊢
  exact ⟨by simp only [PyData.canLay0, PyData.canLayAll0] at a1 b1 ⊢; rw [a1.1, b1.1]; rfl, decide_eq_true dd⟩
theorem Bag.ne_strs {H : Hp} {b c q : Addr} {zs : List Str} (h : Bag H b c) (hq : H q = some (.lst (zs.map V.str))) : q ≠ b := by
  obtain ⟨n, acc, pos, base, cells, h1, _⟩ := h
  rintro rfl
  rw [hq] at h1
  have e := HO.lst.inj (Option.some.inj h1)
  cases zs with
  | nil => cases e
  | cons z r => cases (List.cons.inj e).1
theorem Bag.ne_ints {H : Hp} {b c q : Addr} {ns : List Int} (h : Bag H b c) (hq : H q = some (.lst (ns.map V.int))) : q ≠ b := by
  obtain ⟨n, acc, pos, base, cells, h1, _⟩ := h
  rintro rfl
  rw [hq] at h1
  have e := HO.lst.inj (Option.some.inj h1)
  have e4 : (ns.map V.int)[4]? = some (V.ref c) := by rw [e]; rfl
  rw [List.getElem?_map] at e4
  cases h4 : ns[4]? with
  | none => rw [h4] at e4; cases e4
  | some x => rw [h4] at e4; cases e4
theorem Bag.ne_other {H : Hp} {b c q : Addr} {o : HO} (h : Bag H b c) (hq : H q = some o) (ho : ∀ l, o ≠ .lst l) : q ≠ b := by
  obtain ⟨n, acc, pos, base, cells, h1, _⟩ := h
  rintro rfl
  rw [hq] at h1
  exact ho _ (Option.some.inj h1)
theorem TunAt.keep {C : Addr} {H H' : Hp} {p t n b c : Addr} {ws : List Str} {ps : List V} (h : TunAt C H p t n ws ps) (hb : Bag H b c) (k : Keep H H' b) : TunAt C H' p t n ws ps := by
  obtain ⟨dx, h1, h2, h3⟩ := h
  exact ⟨dx, k _ _ h1 (hb.ne_other h1 fun _ z => nomatch z), k _ _ h2 (hb.ne_other h2 fun _ z => nomatch z), k _ _ h3 (hb.ne_strs h3)⟩
theorem TunAt.same {C : Addr} {H H' : Hp} {p t n : Addr} {ws : List Str} {ps : List V} (h : TunAt C H p t n ws ps) (k : Same H H') : TunAt C H' p t n ws ps := by
  obtain ⟨dx, h1, h2, h3⟩ := h
  exact ⟨dx, k _ _ h1, k _ _ h2, k _ _ h3⟩
/-- what stands all the while -/
structure Std (C : Addr) (H : Hp) (b c q pp y t n : Addr) (zs : List Str) (ns : List Int) : Prop where
  bag : Bag H b c
  q : H q = some (.lst (zs.map V.str))
  pp : H pp = some (.lst (ns.map V.int))
  tun : TunAt C H y t n zs (ns.map V.int)
theorem Std.same {C : Addr} {H H' : Hp} {b c q pp y t n : Addr} {zs : List Str} {ns : List Int} (h : Std C H b c q pp y t n zs ns) (k : Same H H') : Std C H' b c q pp y t n zs ns := ⟨h.bag.same k, k _ _ h.q, k _ _ h.pp, h.tun.same k⟩
theorem Std.keep {C : Addr} {H H' : Hp} {b c q pp y t n : Addr} {zs : List Str} {ns : List Int} (h : Std C H b c q pp y t n zs ns) (k : Keep H H' b) (hb : Bag H' b c) : Std C H' b c q pp y t n zs ns :=
  ⟨hb, k _ _ h.q (h.bag.ne_strs h.q), k _ _ h.pp (h.bag.ne_ints h.pp), h.tun.keep h.bag k⟩
theorem Std.set {C : Addr} {H : Hp} {b c q pp y t n d : Addr} {o : HO} {zs : List Str} {ns : List Int} (h : Std C H b c q pp y t n zs ns) (hd : d ≠ b ∧ d ≠ c ∧ d ≠ q ∧ d ≠ pp ∧ d ≠ y ∧ d ≠ t ∧ d ≠ n) : Std C (upd H d o) b c q pp y t n zs ns := by
  obtain ⟨d1, d2, d3, d4, d5, d6, d7⟩ := hd
  obtain ⟨dx, t1, t2, t3⟩ := h.tun
  exact ⟨h.bag.set d1.symm d2.symm, (upd_ne d3.symm).trans h.q, (upd_ne d4.symm).trans h.pp, dx, (upd_ne d5.symm).trans t1, (upd_ne d6.symm).trans t2, (upd_ne d7.symm).trans t3⟩
theorem Std.off {C : Addr} {H : Hp} {b c q pp y t n d : Addr} {zs : List Str} {ns : List Int} (h : Std C H b c q pp y t n zs ns) (hd : H d = none) : d ≠ b ∧ d ≠ c ∧ d ≠ q ∧ d ≠ pp ∧ d ≠ y ∧ d ≠ t ∧ d ≠ n := by
  obtain ⟨dx, t1, t2, t3⟩ := h.tun
  obtain ⟨b1, c1⟩ := h.bag.off hd
  exact ⟨b1.symm, c1.symm, (ne_of_none h.q hd).symm, (ne_of_none h.pp hd).symm, (ne_of_none t1 hd).symm, (ne_of_none t2 hd).symm, (ne_of_none t3 hd).symm⟩
theorem low_some {zs : List Str} (h : ∀ z ∈ zs, Low z) : ("" : Str) ∉ zs := fun hm => by
  obtain ⟨l, e, h1, _⟩ := h _ hm
  have q : ("" : Str).length = (S l).length := congrArg Str.length e
  have q2 := S_len l
  have : ("" : Str).length = 0 := by decide
  omega
theorem fm_empty : FmX 114 (.str "") := .inl ⟨rfl, by decide +kernel⟩
/-- a tuning stands on -/
theorem Tun.same {C : Addr} {H H' : Hp} {p : Addr} {ws : List Str} {ps : List V} (h : Tun C H p ws ps) (k : Same H H') : Tun C H' p ws ps := by
  obtain ⟨dx, t, n, h1, h2, h3⟩ := h
  exact ⟨dx, t, n, k _ _ h1, k _ _ h2, k _ _ h3⟩
theorem Tun.keep {C : Addr} {H H' : Hp} {p b c : Addr} {ws : List Str} {ps : List V} (h : Tun C H p ws ps) (hb : Bag H b c) (k : Keep H H' b) : Tun C H' p ws ps := by
  obtain ⟨dx, t, n, h1, h2, h3⟩ := h
  exact ⟨dx, t, n, k _ _ h1 (hb.ne_other h1 fun _ z => nomatch z), k _ _ h2 (hb.ne_other h2 fun _ z => nomatch z), k _ _ h3 (hb.ne_strs h3)⟩
theorem Tun.at {C : Addr} {H : Hp} {p : Addr} {ws : List Str} {ps : List V} (h : Tun C H p ws ps) : Fx.At C H p := by
  obtain ⟨dx, t, n, h1, _⟩ := h
  exact ⟨_, _, h1⟩
theorem Same.trans {H H1 H2 : Hp} (a : Same H H1) (b : Same H1 H2) : Same H H2 := fun x o e => b x o (a x o e)
theorem low_each {ws : List Str} (h : ∀ z ∈ ws, Low z) : ∀ z ∈ ws, z.length ≤ 1000 ∧ FmX 114 (.str z) := fun z hz => ⟨(low_asc (h z hz)).long, (low_asc (h z hz)).fm⟩
theorem low_ok {ws : List Str} (h : ∀ z ∈ ws, Low z) : ∀ z ∈ ws, PyData.strOk z = true := fun z hz => (low_asc (h z hz)).ok
theorem gw_of {ws : List Str} (h : ∀ z ∈ ws, Low z) (hn : ws.Nodup) (hl : ws.length ≤ 100) : Gw ws := ⟨hl, low_each h, vd_fine (fun z hz => low_good (h z hz)) hn _⟩
/-- a new tuning, read behind its class's call -/
theorem made2 {C CB CR l0 l1 y dy : Addr} {H : Hp} {ws : List Str} {ps : List V} {R : V → Hp → Prop} {E : XK} (ny : H y = none) (ndy : H dy = none) (ne : dy ≠ y) (h0 : H l0 = some (.lst (ws.map V.str))) (h1 : H l1 = some (.lst ps)) (hl : ws.length = ps.length) (g : Gw ws)
    (q : ∀ H', Same H H' → Tun C H' y ws ps → R .non H') : spInit C CB CR [.ref y, .ref l0, .ref l1] (upd (upd H dy (.own y)) y (.ins C dy [])) R E := by
  have sH : Same H (upd (upd H dy (.own y)) y (.ins C dy [])) := Same.new (Same.new (Same.refl H) ndy) ((upd_ne ne.symm).trans ny)
  refine ⟨y, l0, l1, ws, ps, dy, rfl, upd_same, sH _ _ h0, sH _ _ h1, hl, g.len, g.each, ?_⟩
  rw [g.vd]
  intro G t n kp nt nn tun
  exact q G (fun x o e => kp x o (sH x o e) (ne_of_none e ny)) tun.tun
theorem cutV_to (l : List V) (k : Nat) : cutV l none (some (k : Int)) = l.take k := by
  unfold cutV
  rw [HT.sIx_none, HT.sIx_nat, List.drop_zero, Nat.sub_zero]
  by_cases h : k ≤ l.length
  · rw [Nat.min_eq_left h]
  · rw [Nat.min_eq_right (by omega), List.take_of_length_le (Nat.le_refl _), List.take_of_length_le (by omega)]
theorem cut_to {α : Type} (mk : α → V) (l : List α) (k : Nat) : cutV (l.map mk) none (some (k : Int)) = (l.take k).map mk := by rw [cutV_to, List.map_take]
theorem low_zy : Low zyS := ⟨_, rfl, by decide, by decide, fun c hc => by simp at hc; omega⟩
/-- a comprehension over a list whose test and element hang on the item alone -/
theorem lc_pure {α : Type} {a D : Addr} {xs : List α} (mk : α → V) (p : α → Bool) (f : α → V) {g : TG} {tt : TT} {te : TE} {vs : List Nat} {σ : St} {H1 : Hp} {Qd : Hp → Prop} (hD : H1 D = none) (ha : H1 a = some (.lst (xs.map mk))) (hz : xs.length ≤ 999)
    (hs : ∀ (i : Nat) (x : α) (H : Hp), xs[i]? = some x → Same H1 H → ∀ (R : V → Hp → Prop) (S : Hp → Prop), (p x = true → ∀ H', Same H H' → R (f x) H') → (p x = false → ∀ H', Same H H' → S H') →
      g (mk x) (wipe σ vs) H fun σ2 H2 => wipe σ2 vs = wipe σ vs ∧ tt σ2 H2 fun b H3 => if b = true then te σ2 H3 R else S H3)
    (hd : ∀ H, H D = some (.lst ((xs.filter p).map f)) → Same H1 H → Qd H) :
    ∃ W : Nat → Nat → Hp → Prop, (∃ m, W 0 m (upd H1 D (.lst []))) ∧ ∀ i m H, W i m H →
      ((Itl K a).stop i H ∧ Qd H) ∨ ((Itl K a).go i H ∧ ∃ Nx : Hp → Prop, (∀ H', Nx H' → ∃ m', m' < m ∧ W (i + 1) m' H') ∧ ∀ x H', (Itl K a).yld i H x H' → g x (wipe σ vs) H' fun σ2 H2 => wipe σ2 vs = wipe σ vs ∧ tt σ2 H2 fun b H3 =>
        if b = true then te σ2 H3 fun y H4 => ∃ acc, H4 D = some (.lst acc) ∧ acc.length < sizeLine ∧ Nx (upd H4 D (.lst (acc ++ [y]))) else Nx H3) := by
  refine lc_list (K := K) (a := a) (xs := xs.map mk) (fun i H' => H' D = some (.lst (((xs.take i).filter p).map f)) ∧ Same H1 H') ⟨upd_same, Same.new (Same.refl H1) hD⟩ (fun i H' _ hp => SqL.of (hp.2 _ _ ha)) (fun i x H' hi hp => ?_) (fun H' hp => ?_)
  · obtain ⟨h1, h2⟩ := hp
    rw [List.getElem?_map] at hi
    cases e : xs[i]? with
    | none =>
      rw [e] at hi
      cases hi
    | some y =>
      rw [e] at hi
      cases hi
      have hlen : i < xs.length := (List.getElem?_eq_some_iff.mp e).1
      refine hs i y H' e h2 _ _ (fun hp H4 s4 => ?_) (fun hp H4 s4 => ?_)
      · refine ⟨_, s4 _ _ h1, ?_, ?_, Same.set (fun x o e => s4 x o (h2 x o e)) hD⟩
        · rw [List.length_map]
          have := List.length_filter_le p (xs.take i)
          rw [List.length_take] at this
          exact small1000 (by omega)
        · rw [upd_same, take_snoc e, List.filter_append, List.map_append, show List.filter p [y] = [y] by simp [List.filter, hp]]
          rfl
      · refine ⟨?_, fun x o e => s4 x o (h2 x o e)⟩
        rw [take_snoc e, List.filter_append, show List.filter p [y] = [] by simp [List.filter, hp], List.append_nil]
        exact s4 _ _ h1
  · obtain ⟨h1, h2⟩ := hp
    rw [List.length_map, List.take_length] at h1
    exact hd H' h1 h2
/-- .. without a test -/
theorem lc_all {α : Type} {a D : Addr} {xs : List α} (mk : α → V) (f : α → V) {g : TG} {tt : TT} {te : TE} {vs : List Nat} {σ : St} {H1 : Hp} {Qd : Hp → Prop} (hD : H1 D = none) (ha : H1 a = some (.lst (xs.map mk))) (hz : xs.length ≤ 999)
    (hs : ∀ (i : Nat) (x : α) (H : Hp), xs[i]? = some x → Same H1 H → ∀ (R : V → Hp → Prop) (S : Hp → Prop), (∀ H', Same H H' → R (f x) H') →
      g (mk x) (wipe σ vs) H fun σ2 H2 => wipe σ2 vs = wipe σ vs ∧ tt σ2 H2 fun b H3 => if b = true then te σ2 H3 R else S H3)
    (hd : ∀ H, H D = some (.lst (xs.map f)) → Same H1 H → Qd H) :
    ∃ W : Nat → Nat → Hp → Prop, (∃ m, W 0 m (upd H1 D (.lst []))) ∧ ∀ i m H, W i m H →
      ((Itl K a).stop i H ∧ Qd H) ∨ ((Itl K a).go i H ∧ ∃ Nx : Hp → Prop, (∀ H', Nx H' → ∃ m', m' < m ∧ W (i + 1) m' H') ∧ ∀ x H', (Itl K a).yld i H x H' → g x (wipe σ vs) H' fun σ2 H2 => wipe σ2 vs = wipe σ vs ∧ tt σ2 H2 fun b H3 =>
        if b = true then te σ2 H3 fun y H4 => ∃ acc, H4 D = some (.lst acc) ∧ acc.length < sizeLine ∧ Nx (upd H4 D (.lst (acc ++ [y]))) else Nx H3) :=
  lc_pure (K := K) mk (fun _ => true) f hD ha hz (fun i x H hi hs' R S yes _ => hs i x H hi hs' R S (yes rfl)) fun H h s => hd H (by rw [show xs.filter (fun _ => true) = xs from List.filter_eq_self.mpr fun _ _ => rfl] at h; exact h) s
/-- a comprehension over a list that draws one whole number for each item -/
theorem lc_draw {α : Type} {a b c D : Addr} {xs : List α} (mk : α → V) {g : TG} {tt : TT} {te : TE} {vs : List Nat} {σ : St} {H1 : Hp} {Qd : Hp → Prop} (hb : Bag H1 b c) (hD : H1 D = none) (ha : H1 a = some (.lst (xs.map mk))) (hab : a ≠ b) (hz : xs.length ≤ 999)
    (hs : ∀ (i : Nat) (x : α) (H : Hp), xs[i]? = some x → Bag H b c → ∀ (R : V → Hp → Prop) (S : Hp → Prop), (∀ (n : Int) H', Bag H' b c → Keep H H' b → -(10 ^ 30) ≤ n → n ≤ 10 ^ 30 → R (.int n) H') →
      g (mk x) (wipe σ vs) H fun σ2 H2 => wipe σ2 vs = wipe σ vs ∧ tt σ2 H2 fun b H3 => if b = true then te σ2 H3 R else S H3)
    (hd : ∀ H (ns : List Int), H D = some (.lst (ns.map V.int)) → ns.length = xs.length → (∀ n ∈ ns, -(10 ^ 30) ≤ n ∧ n ≤ 10 ^ 30) → Keep H1 H b → Bag H b c → Qd H) :
    ∃ W : Nat → Nat → Hp → Prop, (∃ m, W 0 m (upd H1 D (.lst []))) ∧ ∀ i m H, W i m H →
      ((Itl K a).stop i H ∧ Qd H) ∨ ((Itl K a).go i H ∧ ∃ Nx : Hp → Prop, (∀ H', Nx H' → ∃ m', m' < m ∧ W (i + 1) m' H') ∧ ∀ x H', (Itl K a).yld i H x H' → g x (wipe σ vs) H' fun σ2 H2 => wipe σ2 vs = wipe σ vs ∧ tt σ2 H2 fun b H3 =>
        if b = true then te σ2 H3 fun y H4 => ∃ acc, H4 D = some (.lst acc) ∧ acc.length < sizeLine ∧ Nx (upd H4 D (.lst (acc ++ [y]))) else Nx H3) := by
  obtain ⟨bD, cD⟩ := hb.off hD
  refine lc_list (K := K) (a := a) (xs := xs.map mk) (fun i H' => ∃ ns : List Int, H' D = some (.lst (ns.map V.int)) ∧ ns.length = i ∧ (∀ n ∈ ns, -(10 ^ 30) ≤ n ∧ n ≤ 10 ^ 30) ∧ Keep H1 H' b ∧ Bag H' b c)
    ⟨[], upd_same, rfl, (fun _ h => nomatch h), (Keep.refl H1 b).new hD, hb.new hD⟩ (fun i H' _ hp => by obtain ⟨_, _, _, _, hk, _⟩ := hp; exact SqL.of (hk _ _ ha hab)) (fun i x H' hi hp => ?_) (fun H' hp => ?_)
  · obtain ⟨ns, h1, h2, h3, h4, h5⟩ := hp
    rw [List.getElem?_map] at hi
    cases e : xs[i]? with
    | none =>
      rw [e] at hi
      cases hi
    | some y =>
      rw [e] at hi
      cases hi
      have hlen : i < xs.length := (List.getElem?_eq_some_iff.mp e).1
      refine hs i y H' e h5 _ _ fun n H6 b6 k6 n0 n1 => ?_
      refine ⟨_, k6 _ _ h1 bD.symm, ?_, ns ++ [n], ?_, ?_, ?_, ?_, b6.set bD cD⟩
      · rw [List.length_map]
        exact small1000 (by omega)
      · rw [upd_same, map_snoc]
      · rw [List.length_append]
        show ns.length + 1 = _
        omega
      · intro m hm
        rcases List.mem_append.mp hm with hm | hm
        · exact h3 m hm
        · rw [List.mem_singleton.mp hm]
          exact ⟨n0, n1⟩
      · intro x o e ne
        rw [upd_ne fun z => by rw [z, hD] at e; cases e]
        exact k6 _ _ (h4 _ _ e ne) ne
  · obtain ⟨ns, h1, h2, h3, h4, h5⟩ := hp
    rw [List.length_map] at h2
    exact hd H' ns h1 h2 h3 h4 h5
end
end Fk

namespace Fk
open PySem L2
local macro_rules | `(tactic| walk_at "rdc") => `(tactic| (first | exact Or.inl ⟨by decide, by decide⟩ | exact Or.inr ⟨by decide, by decide⟩ | exact ⟨by decide, by decide⟩ | exact Or.inl ⟨by omega, by omega⟩ | exact Or.inr ⟨by omega, by omega⟩ | ((show (0 : Int) < _); (first | decide | omega)) | exact ⟨by decide, by decide, by decide⟩ | exact ⟨by omega, by assumption⟩))
local macro_rules | `(tactic| walk_at "hp") => `(tactic| (first | exact upd_same | assumption | ((rw [upd_ne (by assumption)]); (first | exact upd_same | assumption | ((rw [upd_ne (by assumption)]); (first | exact upd_same | assumption | ((rw [upd_ne (by assumption)]); (first | exact upd_same | assumption))))))))
local macro_rules | `(tactic| walk_at "r1") => `(tactic| (first | refine ⟨_, rfl, ?_⟩ | refine ⟨_, _, rfl, rfl, ?_⟩ | refine ⟨_, _, rfl, ?_⟩ | refine Or.inl ⟨_, rfl, ?_⟩ | refine ⟨rfl, ?_⟩ | refine ⟨(by walk_at "rdc"), ?_⟩ | refine ⟨_, _, _, _, rfl, rfl, SqL.of (by walk_at "hp"), rfl, ?_⟩ | refine ⟨_, _, _, _, rfl, rfl, (by walk_at "hp"), rfl, ?_⟩ | refine ⟨_, _, _, _, rfl, rfl, SqL.of (by walk_at "hp"), by assumption, ?_⟩))
local macro_rules | `(tactic| walk_at "rd") => `(tactic| (repeat walk_at "r1"))
--#ty * ._names=l ._table=d
--#ty Tuning.beats self=o
--#ty Tuning.__getitem__ self=o
--#okX Tuning.__getitem__ Tuning.beats
section
variable {P : Program} {w : World} {K : PySem.W.Frag} {mg : Str → Option Value} {base : Heap}
/-- what the methods ask of the module -/
structure Tg (P : Program) (K : PySem.W.Frag) (mg : Str → Option Value) (C CU : Addr) : Prop where
  cls : Cls K C
  nT : NoAttr K C "_table"
  nN : NoAttr K C "_names"
  e_UnknownFork : Err1 P K mg "UnknownFork" CU "name" 114
  b_abs : mg "abs" = none
  b_len : mg "len" = none
/-- the pitch of a name -/
def pitchOf (ws : List Str) (ps : List V) (z : Str) : Option V := valV (tab ws ps) (Sum.inr z : Key)
abbrev s_Tuning___getitem__ : Stmt := inClass (top 17) 8
theorem sc_Tuning___getitem__ : FnScope ["self", "at"] ["self", "at"] (defScope s_Tuning___getitem__) := ⟨rfl, rfl, rfl, by decide +kernel, rfl, by decide +kernel, by decide +kernel⟩
def spGet (C CU : Addr) : Sp := fun vs H Q E => ∃ (p : Addr) (ws : List Str) (ps : List V) (z : Str), vs = [.ref p, .str z] ∧ Tun C H p ws ps ∧ FmX 114 (.str z) ∧
  match pitchOf ws ps z with
  | some v => Q v H
  | none => ∀ d, H d = none → E (.ref CU) (some d) (upd H d (.xd [("name", .str z)]))
theorem ok_getitem {f C CU : Addr} {fd : FuncData} (F : Fun K "__getitem__" "Tuning.__getitem__" s_Tuning___getitem__ f fd) (T : Tg P K mg C CU) : FnOk P w K mg base (L2N.CX P w) 3 f fd ["self", "at"] (spGet C CU) := by
  refine F.okN sc_Tuning___getitem__ (fun vs H Q E h => ?_) (fun cdv A outer s H vs Q E hr h => ?_)
  · obtain ⟨p, ws, ps, z, rfl, _⟩ := h
    rfl
  · obtain ⟨p, ws, ps, z, rfl, ⟨dx, t, n, h1, h2, h3⟩, fm, k⟩ := h
    have hu := hu_of hr
    refine ⟨_, (pss_cons (ps_if (pt_cmp (pc_dnotin hu (pv 1) (pe_fld (pv 0) rfl))) (pss_one (L2N.ps_raise rfl (L2N.takes_of rfl rfl rfl rfl) (by exact (pmk_err1 T.e_UnknownFork hr (pa_cons (pv 1) pa_nil))))) pss_nil)
      (pss_one (ps_ret (pe_dget hu (pe_fld (pv 0) rfl) (pv 1) (fun _ _ => rfl))))), ?_⟩
    walk_at "rd"
    refine ⟨p, C, dx, _, _, rfl, h1, T.cls, T.nT, rfl, ?_⟩
    refine ⟨t, _, rfl, DGet.k (k := Sum.inr z) h2, ?_⟩
    unfold pitchOf at k
    walk_at "rd"
    cases hv : valV (tab ws ps) (Sum.inr z : Key) with
    | none =>
      rw [hv] at k
      walk_at "rd"
      exact ⟨⟨_, rfl, fm⟩, k⟩
    | some v =>
      rw [hv] at k
      walk_at "rd"
      refine ⟨p, C, dx, _, _, rfl, h1, T.cls, T.nT, rfl, ?_⟩
      walk_at "rd"
      refine ⟨t, v, rfl, ?_, k⟩
      rw [← hv]
      exact DGet.k (k := Sum.inr z) h2
end
end Fk

/-! an operator of two places that may raise; a loop over an own object whose __iter__ hands back a list's iterator; a dict's copy, told young -/
namespace Fx
open PySem PySem.Spec PyProof.Rows L2
section
variable {X : Cx} {j k : Nat} {C : Addr} {sp : Sp}
/-- a op b, both of the class: the method may raise -/
def tBinOX (C : Addr) (sp : Sp) (W : WX) (ta tb : TE) : TE := fun σ H Q => ta σ H fun x H1 => tb σ H1 fun y H2 => ∃ p q, x = .ref p ∧ y = .ref q ∧ At C H2 p ∧ At C H2 q ∧ sp [.ref p, .ref q] H2 (ThingB Q) (WE W σ)
theorem pe_binOX {W : WX} {op : Operator} {m : Str} {a b : Expr} {ta tb : TE} {pos : Pos} (c : Op (L2N.CX X.prog X.w) X.prog X.w X.K X.mg X.base k C m sp) (h0 : PySem.W.selfFirst X.K C = true) (e : PySem.dunder op.info.2 = m) (hr : Room j X.A) (hk : k ≤ j) (tk : L2N.Takes X W) (ha : PE X a ta) (hb : PE X b tb) :
    PE X (.BinOp a op b pos) (tBinOX C sp W ta tb) := by
  obtain ⟨f, fd, ps, hf, hfn, kp, F, bd⟩ := c.ex
  constructor
  intro pins s σ H Q I h
  apply wpAny_BinOp
  refine binT ha hb I h fun v u s2 x y H2 I2 rx ry q => ?_
  obtain ⟨p, q, rfl, rfl, hp, hq, k⟩ := q
  obtain rfl : v = Value.ref p := rx
  obtain rfl : u = Value.ref q := ry
  obtain ⟨dx, od, J⟩ := inst2 I2 hp
  obtain ⟨dx2, od2, J2⟩ := inst2 I2 hq
  obtain ⟨m, Fr0⟩ := I2.fr
  subst e
  exact PySem.W.binop_K Fr0 I2.ok.mod.kin J J2.type h0 hf hfn (thn (run_fnS F (hr.mono hk) bd (L2N.passAt tk σ) I2 (us := [.ref p, .ref q]) (vs := [.ref p, .ref q]) (E := fun σ => WE W σ) (.cons rfl (.cons rfl .nil)) k) fun r s1 hr1 => back_of hr1)
/-- iter(l): the iterator is younger than all that is told -/
def rIterA (K : PySem.W.Frag) : List V → Hp → VK → Prop := fun xs H Q => ∃ (l : Addr) (zs : List V), xs = [.ref l] ∧ SqL K H l zs ∧ ∀ it, H it = none → (∀ a o, H a = some o → a < it) → Q (.ref it) (upd H it (ItO l it 0))
theorem told_old {pins : List (Addr × Obj)} {σ : L2.St} {H : Hp} {s : Shared} (I : Inv X pins σ H s) {a : Addr} {o : HO} (e : H a = some o) : a < s.heap.objs.size := by
  apply Nat.lt_of_not_le
  intro z
  rw [I.hok.fresh z] at e
  cases e
theorem call_iterA : CallR X (.builtin "iter") (rIterA X.K) := by
  rintro pins s σ H xs us Q I r ⟨l, zs, rfl, hq, q⟩
  have e := Vals.ref1 r
  subst e
  obtain ⟨its, rv, pl, hz⟩ := I.list hq
  apply GNX.call_iter pl.isList
  have q := q s.heap.objs.size (I.hok.fresh (Nat.le_refl _)) fun a o e => told_old I e
  exact ⟨.ref _, _, I.laid (t' := s.toks) (fun b u e => Heap.get?_push_of_some _ e) (Nat.le_refl _) (itO_ok (Heap.get?_push_size _ rfl)), rfl, q⟩
/-- for x in a: a's __iter__ hands back the iterator of the list at l -/
def iOwn (C : Addr) (sp : Sp) (K : PySem.W.Frag) (n : Nat) (te : TE) : TI := fun σ H R => te σ H fun x H1 => ∃ p a o, x = .ref p ∧ At C H1 p ∧ H1 a = some o ∧ n ≤ a ∧
  sp [.ref p] H1 (fun v H2 => ∃ it l, v = .ref it ∧ H2 it = some (ItO l it 0) ∧ a < it ∧ R (Itl K l) (ItX.dropH H2 it)) C8.E0
theorem pi_own {tg e : Expr} {te : TE} (c : Op CX0 X.prog X.w X.K X.mg X.base k C "__iter__" sp) (hr : Room j X.A) (hk : k ≤ j) (he : PE X e te) : PI X tg e (iOwn C sp X.K X.s_0.heap.objs.size te) := by
  obtain ⟨f, fd, ps, hf, hfn, kp, F, bd⟩ := c.ex
  constructor
  intro pins s σ H R I h
  refine thn (he.run pins s σ H _ I h) fun v s1 ⟨x, H1, I1, r1, q1⟩ => ?_
  obtain ⟨p, a, o, rfl, hp, h0, hn, q⟩ := q1
  cases r1
  obtain ⟨dx, od, J⟩ := inst2 I1 hp
  obtain ⟨m, Fr0⟩ := I1.fr
  refine PySem.W.owit_iter Fr0 I1.ok.mod.kin J hf hfn (thn (run_fnS F (hr.mono hk) bd at0 I1 (us := [.ref p]) (vs := [.ref p]) (E := fun _ => C8.E0) (.cons rfl .nil) q) fun r s2 hr2 => ?_)
  obtain ⟨z, H2, I2, rz, it, l, rfl, hi, ha, hR⟩ := hr2
  obtain rfl : r = Value.ref it := rz
  have eo := itO_get I2 hi
  refine wpAny_specialOf (T := "list_iterator") ⟨_, eo, rfl⟩ slot_listiter_next.lookup ?_
  have st : s2.heap.IsListIter it l 0 := ⟨_, eo, rfl, rfl⟩
  have hi' := hi
  unfold ItO at hi'
  refine ⟨it, [it], _, _, ItX.dropH H2 it, rfl, ItX.inv_drop I2 hi', turn_list l it, st, fun b hb => ?_, hR⟩
  have e : b = it := by simpa using hb
  rw [e]
  exact ItX.inv_fp I2 hi (Nat.le_trans hn (Nat.le_of_lt ha))
/-- dict(d): the copy is younger than the frame -/
def rDictN (n : Nat) : List V → Hp → VK → Prop := fun xs H Q => ∃ (a : Addr) (kvs : List (Key × V)), xs = [.ref a] ∧ H a = some (.dK kvs) ∧ ∀ p, H p = none → n ≤ p → Q (.ref p) (upd H p (.dK kvs))
theorem call_dictN : CallR X (.type "dict") (rDictN X.s_0.heap.objs.size) := by
  rintro pins s σ H xs us Q I r ⟨a, kvs, rfl, hd, q⟩
  have e := Vals.ref1 r
  subst e
  obtain ⟨z, low, vs, rel, dd⟩ := (show ObjOk X.prog X.w H s.heap a (.dK kvs) from I.hok a _ hd)
  have small : vs.length ≤ sizeLine := by rw [← rel.length]; exact z
  refine kt_call_dict low dd small fun h' d' hs => ?_
  have big : (s.heap.objs.size == sysModules) = false := beq_eq_false_iff_ne.mpr (Nat.ne_of_gt I.big)
  have kept : ∀ b u, s.heap.get? b = some u → h'.get? b = some u := fun b u e => by
    rw [hs.2 b (Nat.ne_of_lt (Heap.lt_size e))]
    exact Heap.get?_push_of_some _ e
  have okd : ∀ G, ObjOk X.prog X.w G h' s.heap.objs.size (.dK kvs) := fun G => ⟨z, big, vs, rel, d'⟩
  exact ⟨.ref _, _, I.laid (t' := s.toks) kept (Nat.le_refl _) (okd _), rfl, q _ (I.hok.fresh (Nat.le_refl _)) I.sz⟩
/-- list(e.values()): e a dict with keys that are numbers or texts -/
def tListVals (td : TE) : TE := fun σ H Q => td σ H fun x H1 => ∃ d kvs, x = .ref d ∧ H1 d = some (.dK kvs) ∧ ∀ q, H1 q = none → Q (.ref q) (upd H1 q (.lst (kvs.map (·.2))))
theorem pe_listVals {e : Expr} {td : TE} {p apos cpos pos : Pos} (calm : X.calm = true) (hg : Gl X "list") (hm : X.mg "list" = none) (hv : bootBuiltins "list" = some (.type "list")) (he : PE X e td) (hbase : attributeBase e "values" X.env (eval e X.env) = eval e X.env := by rfl) (hline : (apos.endLine == cpos.line) = true := by rfl)
    (na : starEach [(.Call (.Attribute e "values" apos) [] [] cpos)] X.env = (false, eval (.Call (.Attribute e "values" apos) [] [] cpos) X.env) :: starEach [] X.env := by rfl) : PE X (.Call (.Name "list" p) [.Call (.Attribute e "values" apos) [] [] cpos] [] pos) (tListVals td) := by
  constructor
  intro pins s σ H Q I h
  refine Call_ (ld_blt I hg hm hv (PyProof.Rows.callWith_type1 (args_cons ?_ na) na))
  refine wpAny_Call_method (T := "dict") (id := "dict.values") hbase rfl hline F.plainAttrs_dict F.slot_dict_values F.type_dict_values (thn (he.run pins s σ H _ I h) fun u s1 ⟨x, H1, I1, rx, d, kvs, ex, hd, q⟩ => ?_)
  subst ex
  obtain rfl : u = Value.ref d := rx
  obtain ⟨z, low, vs, rk, hD⟩ := (show ObjOk X.prog X.w H1 s1.heap d (.dK kvs) from I1.hok d _ hd)
  obtain ⟨ep, hat⟩ := hD.dictAt
  have hl : kvs.length = vs.length := Paired.length rk
  refine ⟨hD.typeIs, hD.mapOf.noDict, ?_⟩
  show wpAny _ _ (callWith cpos (.builtin "dict.values") [.ref d] [] []) _ X.xe s1
  have I2 : Inv X pins σ H1 { s1 with heap := s1.heap.push { cls := .type "dict_values", data := .fields #[.ref d] } } := I1.kept (t' := s1.toks) fun b o e => Heap.get?_push_of_some _ e
  refine method_meetsIn F.slot_dict_values F.entry_dict_values rfl (PySem.evalArgs_none ⟨rfl, hD.typeIs, F.args_dict_values_1 _, _, meets_dict_values (mixKind X.prog X.w) d low, ⟨vs, hD⟩, ?_⟩)
  apply args_nil
  refine PySem.W.kdl_call (PySem.W.kdl_values (knd := mixKind X.prog X.w) (r := s1.heap.objs.size) (d := d) (kvs := vs) (ep := ep)) (I1.ok.hd calm) ⟨⟨_, Heap.get?_push_size _ rfl, rfl, rfl⟩, hat.push _⟩ (by rw [← hl]; exact z) fun h' tk acc c' keep hS items => ?_
  have e2 : acc.toList = vs.map (·.2) := PySem.W.kdl_vals_eq acc.toList (by rw [Array.length_toList]; exact items.1) fun j v hj => items.2 j v (by rw [← hj, Array.getElem?_toList])
  have okl : ∀ G a, h'.get? a = some { cls := .type "list", dict := none, data := .seq acc c', slots := #[] } → ObjOk X.prog X.w G h' a (.lst (kvs.map (·.2))) := fun G a ha =>
    ⟨by rw [List.length_map]; exact z, acc.toList, c', by rw [e2]; exact vals_snd rk, by rw [Array.toArray_toList]; exact ha⟩
  exact ⟨.ref _, _, I2.laid (t' := tk) keep (Nat.le_refl _) (okl _ _ hS), rfl, q _ (I2.hok.fresh (Nat.le_refl _))⟩
end
end Fx

/-! a classmethod with keywords gathered in a dict, called by keywords alone; a class held by a local name, called -/
namespace Fx
open PySem PySem.Spec PyProof.Rows L2 StX ClX
/-! ### a dict of keywords, filled -/
section
variable {prog : Program} {w : World} {A : Around} {E : Value → Shared → Prop} {d : Addr}
theorem raw_put {s : Shared} {es : List DictEntry} {n : Nat} {k : Str} {v : Value} {Q : Unit → Shared → Prop} (D : s.heap.get? d = some (PySem.W.dictOf es n)) (hs : ∀ e ∈ es, e.key.isStr k = false) (hr : ∀ e ∈ es, e.refKey = false)
    (h : ∀ h', h'.get? d = some (PySem.W.dictOf (es ++ [⟨PyData.keyHash w.params k, .str k s.toks, v⟩]) (n + 1)) → (∀ b, b ≠ d → h'.get? b = s.heap.get? b) → h'.objs.size = s.heap.objs.size → Q () { s with heap := h', toks := s.toks + 1 }) :
    wpAny (model prog w) A (nsSet d k v) Q E s := by
  have none1 : es.any (·.key.isStr k) = false := List.any_eq_false.mpr fun e he => by rw [hs e he]; decide
  have none2 : es.any (·.refKey) = false := List.any_eq_false.mpr fun e he => by rw [hr e he]; decide
  have same : Obj.putName k (PyData.keyHash w.params k) (.str k s.toks) v (PySem.W.dictOf es n) = PySem.W.dictOf (es ++ [⟨PyData.keyHash w.params k, .str k s.toks, v⟩]) (n + 1) := by
    rw [PySem.W.putName_dict, PySem.W.putL_new hs]
    unfold PySem.W.putN
    rw [none1]
    rfl
  have ok : aRefKeyMayBeTheName k es.toArray = false := by
    rw [aRefKeyMayBeTheName_at, ← Array.any_toList, ← Array.any_toList]
    show (!es.any (·.key.isStr k) && es.any (·.refKey)) = false
    rw [none2, Bool.and_false]
  unfold nsSet
  refine wpAny_bind (wpAny_bind (wpAny_askSetting (wpAny_pure (wpAny_bind (wpAny_mkText (wpAny_bind (wpAny_loadPart D ?_)))))))
  show wpAny (model prog w) A (if aRefKeyMayBeTheName k es.toArray = true then _ else _) Q E _
  rw [ok]
  have G := Heap.get?_update_self (Obj.putName k (PyData.keyHash w.params k) (.str k s.toks) v) D (by rw [same]; rfl)
  rw [same] at G
  exact wpAny_updatePart D (h _ G (fun b hb => Heap.get?_update_other _ _ (Ne.symm hb)) (Heap.size_update ..))
theorem raw_fill {Q : PUnit → Shared → Prop} : ∀ (ex : List (Str × Value)) (s : Shared) (es : List DictEntry) (n : Nat), s.heap.get? d = some (PySem.W.dictOf es n) → (∀ e ∈ es, ∀ x ∈ ex, e.key.isStr x.1 = false) → (∀ e ∈ es, e.refKey = false) → (ex.map (·.1)).Nodup →
    (∀ h', h'.get? d = some (PySem.W.dictOf (es ++ PySem.W.kwEs w.params s.toks ex) (n + ex.length)) → (∀ b, b ≠ d → h'.get? b = s.heap.get? b) → h'.objs.size = s.heap.objs.size → Q ⟨⟩ { s with heap := h', toks := s.toks + ex.length }) →
    wpAny (model prog w) A (forIn ex PUnit.unit fun x _ => (nsSet d x.1 x.2 >>= fun _ => pure (ForInStep.yield PUnit.unit))) Q E s
  | [], s, es, n, D, _, _, _, h => by
    rw [List.forIn_nil]
    exact wpAny_pure (h s.heap (by rw [show es ++ PySem.W.kwEs w.params s.toks [] = es from List.append_nil es]; exact D) (fun _ _ => rfl) rfl)
  | x :: r, s, es, n, D, hs, hr, hn, h => by
    obtain ⟨n1, n2⟩ := List.nodup_cons.mp (show (x.1 :: r.map (·.1)).Nodup from hn)
    rw [List.forIn_cons]
    refine wpAny_bind (wpAny_bind (raw_put D (fun e he => hs e he x List.mem_cons_self) hr fun h1 D1 k1 z1 => wpAny_pure ?_))
    show wpAny (model prog w) A (forIn r PUnit.unit _) Q E { s with heap := h1, toks := s.toks + 1 }
    refine raw_fill r { s with heap := h1, toks := s.toks + 1 } _ _ D1 (fun e he y hy => ?_) (fun e he => ?_) n2 fun h2 D2 k2 z2 => ?_
    · rcases List.mem_append.mp he with he | he
      · exact hs e he y (List.mem_cons_of_mem _ hy)
      · cases List.mem_singleton.mp he
        show (x.1 == y.1) = false
        exact beq_eq_false_iff_ne.mpr fun q => n1 (q ▸ List.mem_map_of_mem hy)
    · rcases List.mem_append.mp he with he | he
      · exact hr e he
      · cases List.mem_singleton.mp he
        rfl
    · have a1 : s.toks + 1 + r.length = s.toks + (x :: r).length := by rw [List.length_cons]; omega
      have a2 : n + 1 + r.length = n + (x :: r).length := by rw [List.length_cons]; omega
      rw [a2, List.append_assoc] at D2
      have z := h h2 D2 (fun b hb => (k2 b hb).trans (k1 b hb)) (z2.trans z1)
      rw [← a1] at z
      exact z
theorem kw_pairs (P : Program) (w : World) : ∀ (ex : List (Str × Value)) (t : Tok), Pairs (mixKind P w) (PySem.W.kwEs w.params t ex) (ex.map fun x => ((Sum.inr x.1 : Key), x.2))
  | [], _ => .nil
  | x :: r, t => .cons (by show Value.isStrOf x.1 (.str x.1 t) = true; simp [Value.isStrOf]) rfl (kw_pairs P w r (t + 1))
theorem kw_ok {P : Program} {w : World} {H : Hp} {h : Heap} {t : Tok} {ks : List Str} {us : List Value} {zs : List V} (hn : ks.Nodup) (hl : us.length = ks.length) (r : Vals zs us) (small : ks.length ≤ sizeLine) (big : sysModules < d) {n : Nat}
    (D : h.get? d = some (PySem.W.dictOf (PySem.W.kwEs w.params t (ks.zip us)) n)) : ObjOk P w H h d (.dK ((ks.map fun z => (Sum.inr z : Key)).zip zs)) := by
  have hz : zs.length = ks.length := r.length.trans hl
  refine ⟨by rw [List.length_zip, List.length_map]; omega, beq_eq_false_iff_ne.mpr (Nat.ne_of_gt big), (ks.zip us).map fun x => ((Sum.inr x.1 : Key), x.2), ?_, _, _, _, D, ⟨rfl, rfl, rfl⟩, rfl, fun e he => ?_, by simpa using kw_pairs P w (ks.zip us) t, ?_⟩
  · clear D hn small
    unfold KV
    induction ks generalizing zs us with
    | nil => exact .nil
    | cons z ks ih =>
      cases r with
      | nil => simp at hl
      | cons rx r => exact .cons ⟨rfl, rx⟩ (ih (by simpa using hl) r (by simpa using hz))
  · obtain ⟨k, u, e1, e2⟩ := PySem.W.kwEs_key _ _ e (Array.mem_def.mp he)
    exact ⟨Sum.inr k, by rw [e1]; show Value.isStrOf k (.str k u) = true; simp [Value.isStrOf], e2⟩
  · rw [List.map_map]
    have e : ((fun x : Key × Value => x.1) ∘ fun x : Str × Value => ((Sum.inr x.1 : Key), x.2)) = (fun z => (Sum.inr z : Key)) ∘ Prod.fst := rfl
    rw [e, ← List.map_map, List.map_fst_zip (by omega)]
    exact List.Pairwise.map _ (fun a b hab q => hab (Sum.inr.inj q)) hn
end
/-! ### the def with its dict -/
theorem cxUpN {P : Program} {w : World} : CXUp (L2N.CX P w) := by
  intro outer s H s2 H2 E e s' un kp ho h
  obtain ⟨a, B, H', cls, d, ea, fl, hok, ub, na, os, ag, he⟩ := h
  have up : UB (frs outer) H H' s.heap B s'.heap := by
    constructor
    · exact fun b o q n hb => ub.keep b o (kp b o q) (un.free b o q n (by simp)) hb
    · exact fun b o q hb => ub.slot b o (kp b o q) hb
    · exact fun b o q n => ub.free b o (kp b o q) (un.free b o q n (by simp))
    · exact fun b o q hb => ub.there b o (kp b o q) hb
    · exact fun b xs q => ub.tups b xs (un.tups b xs q)
    · exact fun b o u q => ub.frzs b o u (un.frzs b o u q)
    · intro b ps q
      obtain ⟨m1, e1⟩ := un.tbls b ps q
      obtain ⟨m2, e2⟩ := ub.tbls b _ e1
      rw [Array.append_assoc] at e2
      exact ⟨_, e2⟩
  exact ⟨a, B, H', cls, d, ea, fl, hok, up, na, os.trans ho, ag, he⟩
section
variable {CX : CXT} {P : Program} {w : World} {K : PySem.W.Frag} {mg : Str → Option Value} {base : Heap} {k : Nat} {f : Addr} {name qual : Str} {params : Arguments} {body : List Stmt} {scope : Scope} {dV kV doc pm cdv ct oc : Value} {an od : Option Addr}
  {osl : Array (Option Value)} {N : List Str} {sp : Sp}
/-- one parameter, and keywords gathered -/
def KBd (fd : FuncData) (ks : List Str) (pc pk : Str) : Prop := ∀ (u : Value) (ws : List Value), ws.length = ks.length → bindArgs fd ⟨[u], ks.zip ws⟩ =
  ((alloc ({ cls := .type "dict", data := .dict #[] } : Obj) : Sem Addr) >>= fun d => (forIn (ks.zip ws) PUnit.unit fun x _ => (nsSet d x.1 x.2 >>= fun _ => pure (ForInStep.yield PUnit.unit))) >>= fun _ => pure [(pc, u), (pk, Value.ref d)])
/-- .. its promise: the dict stands at d -/
def KwR (CX : CXT) (P : Program) (w : World) (K : PySem.W.Frag) (mg : Str → Option Value) (base : Heap) (k : Nat) (f : Addr) (ks : List Str) (sp : Sp) : Prop :=
  ∀ (A : Around) (outer : List Env) (s : Shared) (H : Hp) (u : Value) (x : V) (ws : List Value) (zs : List V) (Q : VK) (E : XK), Room k A → Env0 P w K mg base A outer s H → RelV x u → Vals zs ws → zs.length = ks.length →
    (∀ d, H d = none → sp [x, .ref d] (upd H d (.dK ((ks.map fun z => (Sum.inr z : Key)).zip zs))) Q E) → codeAny (model P w) A (.call (.ref f) ⟨[u], ks.zip ws⟩) (CR CX outer P w H s Q E) s
theorem env0_grow {A : Around} {outer : List Env} {s : Shared} {H : Hp} {h' : Heap} {t' : Tok} {u : HO} (e0 : Env0 P w K mg base A outer s H) (kp : ∀ b x, s.heap.get? b = some x → h'.get? b = some x) (sz : s.heap.objs.size ≤ h'.objs.size) (new : ObjOk P w (upd H s.heap.objs.size u) h' s.heap.objs.size u) :
    Env0 P w K mg base A outer { s with heap := h', toks := t' } (upd H s.heap.objs.size u) := by
  constructor
  · exact e0.frames
  · exact e0.mod
  · intro b x e
    refine ⟨kp b x (e0.bs b x e).1, ?_⟩
    rw [upd_ne (Nat.ne_of_lt (Heap.lt_size (e0.bs b x e).1))]
    exact (e0.bs b x e).2
  · exact Nat.le_trans e0.bsz sz
  · exact Heap.FunFrames.of_keeps (fun b x e _ => ⟨x, kp b x e, rfl⟩) e0.funs
  · intro b hb
    obtain ⟨_, x, hx, _⟩ := e0.funs.mem hb
    rw [upd_ne (Nat.ne_of_lt (Heap.lt_size hx))]
    exact e0.frf b hb
  · exact e0.hok.laid kp (Nat.le_refl _) new
  · exact e0.bare
theorem fn_kw {pc pk : Str} {ks : List Str} (lk : K.lookup f = some ⟨oc, od, .func (PySem.W.fnOf name qual params body scope dV kV doc pm an cdv ct), osl⟩) (hcd : PySem.W.codeIn K cdv qual = true) (S : FnScope N [pc, pk] scope) (hCX : CXUp CX)
    (hb : KBd (PySem.W.fnOf name qual params body scope dV kV doc pm an cdv ct) ks pc pk) (hn : ks.Nodup) (small : ks.length ≤ sizeLine)
    (hbody : ∀ (A : Around) (outer : List Env) (s : Shared) (H : Hp) (vs : List V) (Q : VK) (E : XK), Room k (A.deeper (envOfC qual scope s.heap.objs.size f cdv)) → sp vs H Q E →
      ∃ t, PSs (cxOf CX P w K mg base N qual scope f cdv A outer s H E) body t ∧ t { nx := fun _ H' => Q .non H', rt := Q } (start N vs) H) : KwR CX P w K mg base (k + 1) f ks sp := by
  intro A outer s H u x ws zs Q E hr e0 rx rz hz hq
  have hw : ws.length = ks.length := rz.length.symm.trans hz
  have fresh : H s.heap.objs.size = none := e0.hok.fresh (Nat.le_refl _)
  refine run_bnd lk hcd S hr e0 (G := fun xs H2 => ∃ d, H d = none ∧ xs = [x, V.ref d] ∧ H2 = upd H d (.dK ((ks.map fun z => (Sum.inr z : Key)).zip zs))) (fun A' Ex Q' h => ?_) fun s2 H2 xs ⟨d, hd, ex, eH⟩ hr' => ?_
  · rw [hb u ws hw]
    refine wpAny_bind (wpAny_alloc (wpAny_bind (raw_fill (ks.zip ws) { s with heap := s.heap.push { cls := .type "dict", data := .dict #[] } } [] 0 (Heap.get?_push_size _ rfl) (fun _ he => nomatch he) (fun _ he => nomatch he) (by rw [List.map_fst_zip (by omega)]; exact hn) fun h' D k1 z1 => wpAny_pure ?_)))
    have kp : ∀ b o, s.heap.get? b = some o → h'.get? b = some o := fun b o e => by
      rw [k1 b (Nat.ne_of_lt (Heap.lt_size e))]
      exact Heap.get?_push_of_some _ e
    have sz : s.heap.objs.size ≤ h'.objs.size := by
      rw [z1]
      show _ ≤ (s.heap.push _).objs.size
      rw [Heap.size_push]
      exact Nat.le_succ _
    have new := fun G => kw_ok (P := P) (w := w) (H := G) hn hw rz small (env0_big e0) D
    have un : Un (frs outer) [] H (upd H s.heap.objs.size (.dK ((ks.map fun z => (Sum.inr z : Key)).zip zs))) s.heap h' := Un.laid kp (Nat.le_refl _) fresh
    exact h { s with heap := h', toks := s.toks + (ks.zip ws).length } (upd H s.heap.objs.size (.dK ((ks.map fun z => (Sum.inr z : Key)).zip zs))) [x, V.ref s.heap.objs.size] [u, Value.ref s.heap.objs.size] (env0_grow e0 kp sz (new _)) un rfl (fun e s' => hCX outer s H _ _ E e s' un kp rfl) (.cons rx (.cons rfl .nil)) rfl ⟨_, fresh, rfl, rfl⟩
  · subst ex eH
    exact hbody A outer s2 _ _ Q E hr' (hq d hd)
end
/-! ### C.m(k = v, ..) -/
section
variable {X : Cx} {j k : Nat} {C g : Addr} {m : Str} {sp : Sp}
structure KwM (P : Program) (w : World) (K : PySem.W.Frag) (mg : Str → Option Value) (base : Heap) (k : Nat) (C : Addr) (m : Str) (ks : List Str) (sp : Sp) : Prop where
  ex : ∃ (p g : Addr) (mc : Value), CRead K C mc ∧ CMet K C mc m p g ∧ KwR (L2N.CX P w) P w K mg base k g ks sp
def tKwM (C : Addr) (ks : List Str) (sp : Sp) (W : WX) (to : TE) (tk : TA) : TE := fun σ H Q => to σ H fun x H1 => x = .ref C ∧ tk σ H1 fun zs H2 => zs.length = ks.length ∧ ∀ d, H2 d = none → sp [.ref C, .ref d] (upd H2 d (.dK ((ks.map fun z => (Sum.inr z : Key)).zip zs))) Q (WE W σ)
theorem pe_kwM {W : WX} {ks : List Str} {o : Expr} {kws : List Keyword} {to : TE} {tk : TA} {apos pos : Pos} {pl : Sem Bool} (c : KwM X.prog X.w X.K X.mg X.base k C m ks sp) (hr : Room j X.A) (hk : k ≤ j) (tw : L2N.Takes X W) (ho : PE X o to) (hkw : PK X kws tk)
    (hall : (backToKw pos (keywordEach kws X.env)).all (·.1.isSome) = true := by rfl) (hks : (backToKw pos (keywordEach kws X.env)).filterMap (·.1) = ks := by rfl)
    (hpl : ((backTo pos (starEach [] X.env)).any (·.1) || (backToKw pos (keywordEach kws X.env)).any (·.1.isNone)) = false := by rfl)
    (ht : eval (.Call (.Attribute o m apos) [] kws pos) X.env = (do
      let ov ← eval o X.env
      standAt apos.atName
      let (f, first) ← holding [ov] (getMethod ov m pl)
      callWith pos f first (backTo pos (starEach [] X.env)) (backToKw pos (keywordEach kws X.env))) := by rfl) :
    PE X (.Call (.Attribute o m apos) [] kws pos) (tKwM C ks sp W to tk) := by
  obtain ⟨p, g, mc, r, cm, F⟩ := c.ex
  constructor
  intro pins s σ H Q I h
  refine PySem.W.methodCall_KW (pl := pl) (thn (ho.run pins s σ H _ I h) fun u s1 ⟨x, H1, I1, rx, ex, q⟩ => ?_) ht
  subst ex
  obtain rfl : u = Value.ref C := rx
  refine getmethcm_ok I1 r cm fun s2 I2 => ?_
  refine PySem.W.callWith_of hpl (PySem.W.keeps_M (K := X.K) (self := .ref C) cm.fi) (evalArgs_kw2_nil hall ?_)
  refine thn (hkw.run pos _ s2 σ H1 _ I2 q) fun ws s3 ⟨zs, H2, I3, rz, lz, q2⟩ => ⟨⟨pin_at I3, I3.kIn⟩, ?_⟩
  rw [hks]
  have ran : wpAny (model X.prog X.w) X.A (call (.ref s1.heap.objs.size) [] (ks.zip ws)) (EP X ((s1.heap.objs.size, PySem.W.methodObj (.ref g) (.ref C)) :: pins) σ Q) X.xe s3 := by
    refine wpAny_call (PySem.W.method_call (pin_at I3) (codeAny_mono (F X.A X.stack s3 H2 (.ref C) (.ref C) ws zs Q (WE W σ) (hr.mono hk) I3.env0 rfl rz lz q2) fun r s4 got => ?_))
    match r with
    | .error e => exact L2N.passAt tw σ _ H2 s3 e s4 I3 got
    | .ok (.ret u) => exact I3.after got
    | .ok .next | .ok .brk | .ok .cont => exact got.elim
  exact thn ran fun _ _ y => unpinE y
/-- c(e, ..), c a local name that holds the class at C -/
def tMkV (i : Nat) (C : Addr) (sp : Sp) (W : WX) (t : TA) : TE := fun σ H Q => σ[i]? = some (some (.ref C)) ∧ tMkX C sp W t σ H Q
structure MkM (P : Program) (w : World) (K : PySem.W.Frag) (mg : Str → Option Value) (base : Heap) (k : Nat) (C : Addr) (sp : Sp) : Prop where
  ex : ∃ (f : Addr) (fd : FuncData) (ps : List Str), Mk K C f ∧ FnOk P w K mg base (L2N.CX P w) k f fd ps sp ∧ Binds K fd ps []
theorem pe_mkV {x : Str} {i : Nat} {W : WX} {e : Expr} {es : List Expr} {t : TA} {p pos : Pos} (c : MkM X.prog X.w X.K X.mg X.base k C sp) (hr : Room j X.A) (hk : k + 1 ≤ j) (tw : L2N.Takes X W) (ha : PA X (e :: es) t)
    (hN : X.N[i]? = some x := by rfl) (hv : Vis X.env.scope x := by first | exact Or.inl rfl | exact Or.inr (Or.inl rfl) | exact Or.inr (Or.inr rfl)) (hd : (x == ("__debug__" : Str)) = false := by decide) (hcd : (x == ("__classdict__" : Str)) = false := by decide)
    (he : starEach (e :: es) X.env = (false, eval e X.env) :: starEach es X.env := by rfl) (hpl : (backTo pos (starEach es X.env)).any (·.1) = false := by rfl) : PE X (.Call (.Name x p) (e :: es) [] pos) (tMkV i C sp W t) := by
  obtain ⟨f, fd, ps, M, F, b⟩ := c.ex
  constructor
  intro pins s σ H Q I h
  obtain ⟨hs, h⟩ := h
  refine wpAny_Call_Name_kw (thn ((pe_var (pos := p) (i := i) hN hv hd hcd).run pins s σ H (fun v H1 => v = .ref C ∧ H1 = H) I ⟨.ref C, hs, rfl, rfl⟩) fun u0 s0 ⟨v0, H0, I0, r0, e0, eH⟩ => ?_)
  subst e0
  rw [eH] at I0
  cases r0
  refine PySem.W.callWith_K (h₀ := X.base) I0.ok.mod.kin M.kp (thn (ha.run pos pins s0 σ H _ I0 h) fun us s1 ⟨vs, H1, I1, r, q⟩ => ⟨I1.kIn, ?_⟩) he hpl
  have asked := q (s1.heap.objs.size + 1) s1.heap.objs.size (I1.hok.fresh (Nat.le_succ _)) (I1.hok.fresh (Nat.le_refl _)) (Nat.ne_of_lt (Nat.lt_succ_self _))
  have J := Inv.made (C := C) I1
  have rel : Vals (V.ref (s1.heap.objs.size + 1) :: vs) (Value.ref (s1.heap.objs.size + 1) :: us) := .cons rfl r
  have len : (Value.ref (s1.heap.objs.size + 1) :: us).length = ps.length := by rw [← rel.length]; exact F.len _ _ _ _ asked
  have bound := b _ (Value.ref (s1.heap.objs.size + 1) :: us) J.kIn (by rw [List.append_nil]; exact len)
  rw [List.append_nil] at bound
  have ran := F.run _ X.stack _ _ ⟨Value.ref (s1.heap.objs.size + 1) :: us, []⟩ _ _ _ _ ((hr.mono hk).make C us []) (J.env0.make C us []) bound rel asked
  refine wpAny_call (make_map (f := f) I1.kIn M.makes M.init (beq_iff_eq.mp M.fn) (codeAny_mono ran fun r2 s2 got => ?_))
  match r2 with
  | .error e => exact tw e s2 (L2N.XE.of_call J (fun _ _ _ z => z) got)
  | .ok (.ret u) =>
    obtain ⟨v, H2, J2, rv, ev, q2⟩ := J.after got
    subst ev
    exact ⟨rv, ⟨V.ref (s1.heap.objs.size + 1), H2, J2, rfl, q2⟩⟩
  | .ok .next | .ok .brk | .ok .cont => exact got.elim
end
end Fx

/-! str(a) of an own object; a staticmethod that may raise, called off its class -/
namespace Fx
open PySem PySem.Spec PyProof.Rows L2 ClX
section
variable {X : Cx} {j k : Nat} {C : Addr} {sp : Sp}
def rStrO (C : Addr) (sp : Sp) : List V → Hp → VK → Prop := fun xs H Q => ∃ p, xs = [.ref p] ∧ At C H p ∧ sp [.ref p] H (fun v H' => ∃ z : Str, v = .str z ∧ Q (.str z) H') C8.E0
theorem call_strO (c : Op CX0 X.prog X.w X.K X.mg X.base k C "__str__" sp) (hr : Room j X.A) (hk : k + 2 ≤ j) : CallR X (.type "str") (rStrO C sp) := by
  obtain ⟨f, fd, ps, hf, hfn, kp, F, bd⟩ := c.ex
  intro pins s σ H xs us Q I r h
  obtain ⟨p, rfl, hp, q⟩ := h
  obtain ⟨u, rfl, r1⟩ := vals1 r
  obtain rfl : u = Value.ref p := r1
  obtain ⟨o, od, J⟩ := inst I hp
  have room : Room k X.A.in1.in1 := (hr.mono hk).in1.in1
  refine PySem.W.kso_call (by have := room.un; omega) I.kIn J hf hfn ?_
  have len : [Value.ref p].length = ps.length := F.len _ _ _ _ q
  have bound := bd s [Value.ref p] I.kIn (by rw [List.append_nil]; exact len)
  rw [List.append_nil] at bound
  refine wpAny_call (codeAny_mono (F.run X.A.in1.in1 X.stack s H ⟨[.ref p], []⟩ [.ref p] [.ref p] _ C8.E0 room I.env0.in1.in1 bound (.cons rfl .nil) q) fun r s1 got => ?_)
  match r with
  | .error e => exact at0 (X := X) (E := C8.E0) (σ := σ) pins H s e s1 I got
  | .ok (.ret u) =>
    obtain ⟨v, H2, I2, rv, z, ev, q2⟩ := I.after got
    subst ev
    obtain ⟨t, rfl⟩ := (show ∃ t, u = Value.str z t from rv)
    exact ⟨.str z, H2, I2, ⟨_, rfl⟩, q2⟩
  | .ok .next | .ok .brk | .ok .cont => exact got.elim
theorem none1 {X : Cx} : L2.Takes X (fun _ _ _ _ => False) := by
  rintro u s' ⟨_, _, _, _, _, _, _, _, _, _, _, _, _, _, _, _, no⟩
  exact no.elim
/-- a text with places -/
def tJ (ts : List TE) : TE := fun σ H Q => tJs ts Str.empty σ H fun out H1 => Q (.str out) H1
theorem pe_joinedD {v1 v2 : Expr} {rest : List Expr} {ts : List TE} {pos : Pos} (h : PJ X (v1 :: v2 :: rest) ts) : PE X (.JoinedStr (v1 :: v2 :: rest) pos) (tJ ts) := pe_joined h
/-- C.m is a staticmethod: its record at p, its def at g -/
structure SMet (K : PySem.W.Frag) (C : Addr) (mc : Value) (m : Str) (p g : Addr) : Prop where
  at_ : PySem.W.findCls K (.ref C) mc m = some (.get (.builtin "staticmethod.__get__") (.ref p) .none (.ref C))
  rc : ∃ rest, PySem.W.recIn K p "staticmethod" = some (.ref g :: rest)
  kp : PySem.W.keepIn K (.ref g) = true
theorem getmethsm_ok {pins : List (Addr × Obj)} {σ : L2.St} {H : Hp} {s : Shared} {m : Str} {mc : Value} {p g : Addr} {A : Around} {E : Value → Shared → Prop} {pl : Sem Bool} {Q : Value × List Value → Shared → Prop} (I : Inv X pins σ H s) (r : CRead X.K C mc) (k : SMet X.K C mc m p g)
    (h : ∀ s', Inv X pins σ H s' → Q (.ref g, []) s') : wpAny (model X.prog X.w) A (getMethod (.ref C) m pl) Q E s := by
  obtain ⟨rest, hp⟩ := k.rc
  refine PySem.W.method_cls I.kIn r.ga (PySem.W.cls_bind I.kIn r.rd k.at_ ?_)
  refine wpAny_call (PySem.W.sm_get (s := { s with toks := s.toks + 1 }) I.kIn hp (PySem.W.handed_on rfl ?_))
  exact h _ (I.tok _)
structure SmX (P : Program) (w : World) (K : PySem.W.Frag) (mg : Str → Option Value) (base : Heap) (k : Nat) (C : Addr) (m : Str) (sp : Sp) : Prop where
  ex : ∃ (p g : Addr) (mc : Value) (fd : FuncData) (ps : List Str), CRead K C mc ∧ SMet K C mc m p g ∧ FnOk P w K mg base (L2N.CX P w) k g fd ps sp ∧ Binds K fd ps []
def tSmX (C : Addr) (sp : Sp) (W : WX) (to : TE) (t : TA) : TE := fun σ H Q => to σ H fun x H1 => x = .ref C ∧ t σ H1 fun vs H2 => sp vs H2 Q (WE W σ)
theorem pe_smX {m : Str} {W : WX} {o e : Expr} {es : List Expr} {to : TE} {t : TA} {apos pos : Pos} {pl : Sem Bool} (c : SmX X.prog X.w X.K X.mg X.base k C m sp) (hr : Room j X.A) (hk : k ≤ j) (tk : L2N.Takes X W) (ho : PE X o to) (ha : PA X (e :: es) t)
    (hst : starEach (e :: es) X.env = (false, eval e X.env) :: starEach es X.env := by rfl) (hpl : (backTo pos (starEach es X.env)).any (·.1) = false := by rfl)
    (ht : eval (.Call (.Attribute o m apos) (e :: es) [] pos) X.env = (do
      let v ← eval o X.env
      standAt apos.atName
      let (g, self) ← holding [v] (getMethod v m pl)
      callWith pos g self (backTo pos (starEach (e :: es) X.env)) (backToKw pos (keywordEach [] X.env))) := by rfl) : PE X (.Call (.Attribute o m apos) (e :: es) [] pos) (tSmX C sp W to t) := by
  obtain ⟨p, g, mc, fd, ps, cr, M, F, bd⟩ := c.ex
  refine ⟨fun pins s σ H Q I h => ?_⟩
  refine PySem.W.methodCall_KW (pl := pl) (thn (ho.run pins s σ H _ I h) fun u s1 ⟨x, H1, I1, rx, ex, q⟩ => ?_) ht
  subst ex
  obtain rfl : u = Value.ref C := rx
  refine getmethsm_ok I1 cr M fun s2 I2 => ?_
  refine PySem.W.callWith_K (first := []) (h₀ := X.base) I.ok.mod.kin M.kp (thn (ha.run pos pins s2 σ H1 _ I2 q) fun us s3 ⟨vs, H2, I3, r, q2⟩ => ⟨I3.kIn, ?_⟩) hst hpl
  exact run_fnS F (hr.mono hk) bd (L2N.passAt tk σ) I3 (us := us) (vs := vs) r q2
end
end Fx

namespace Tx
open PySem PySem.W PyProof.Rows PySem.Builtin PySem.Builtin.Str PySem.NumText PySem.StrLaws
/-- a whole number's text -/
def dec (n : Int) : Str := Str.ofString (toString n)
def digs (m : Nat) : List Nat := (Nat.toDigits 10 m).map Char.toNat
theorem dec_pos (m : Nat) : (dec (m : Int)).cps.toList = digs m := KIN.signs_num m
theorem dec_neg (m : Nat) : (dec (Int.negSucc m)).cps.toList = 45 :: digs (m + 1) := by
  unfold dec
  rw [signs_ofString]
  show ("-" ++ Nat.repr (m + 1)).toList.map Char.toNat = _
  rw [String.toList_append, Nat.toList_repr]
  rfl
theorem digs_all (m : Nat) : AllDigits (digs m) := by
  intro c hc
  obtain ⟨ch, hch, e⟩ := List.mem_map.mp hc
  rw [← e]
  exact digit_range (Nat.isDigit_of_mem_toDigits (by decide) (by decide) hch)
theorem digs_ne (m : Nat) : digs m ≠ [] := by
  intro e
  have h := toDigits_len_ge 10 m
  rw [List.map_eq_nil_iff.mp e] at h
  exact absurd h (by decide)
theorem digs_len {m : Nat} (h : m < 10 ^ 40) : (digs m).length ≤ 40 := by
  unfold digs
  rw [List.length_map]
  exact toDigits_len_pow (by decide) (by decide) h
theorem digit_one : ∀ m : Nat, m < 10 → m ≠ 0 → (Nat.digitChar m).toNat ≠ 48 := by decide
theorem digs_step {m : Nat} (h : ¬ m < 10) : digs m = digs (m / 10) ++ [(Nat.digitChar (m % 10)).toNat] := by
  have hm : m % 10 < 10 := Nat.mod_lt m (by decide)
  have t : Nat.toDigits 10 (m / 10) ++ Nat.toDigits 10 (m % 10) = Nat.toDigits 10 (10 * (m / 10) + m % 10) := Nat.toDigits_append_toDigits (by decide) (by omega) hm
  rw [Nat.div_add_mod] at t
  unfold digs
  rw [← t, List.map_append, Nat.toDigits_of_lt_base hm]
  rfl
theorem digs_head : ∀ m : Nat, m ≠ 0 → ∃ c l, digs m = c :: l ∧ c ≠ 48 := by
  intro m
  induction m using Nat.strongRecOn with
  | _ m ih =>
    intro h0
    by_cases h : m < 10
    · refine ⟨(Nat.digitChar m).toNat, [], ?_, digit_one m h h0⟩
      unfold digs
      rw [Nat.toDigits_of_lt_base h]
      rfl
    · obtain ⟨c, l, e, hc⟩ := ih (m / 10) (by omega) (by omega)
      exact ⟨c, l ++ [(Nat.digitChar (m % 10)).toNat], by rw [digs_step h, e]; rfl, hc⟩
theorem digs_zero : digs 0 = [48] := rfl
theorem back_digs (m : Nat) : digitsVal (digs m) = m := KIN.val_back m
theorem len_of (x : Str) : x.length = x.cps.toList.length := by simp [Str.length]
theorem dec_len {n : Int} (h : n.natAbs < 10 ^ 40) : (dec n).length ≤ 41 := by
  cases n with
  | ofNat m =>
    have := digs_len (m := m) h
    rw [len_of, show dec (Int.ofNat m) = dec ((m : Nat) : Int) from rfl, dec_pos]
    omega
  | negSucc m =>
    have := digs_len (m := m + 1) h
    rw [len_of, dec_neg]
    show (digs (m + 1)).length + 1 ≤ 41
    omega
theorem dec_signs (n : Int) : ∀ c ∈ (dec n).cps.toList, c = 45 ∨ (48 ≤ c ∧ c ≤ 57) := by
  cases n with
  | ofNat m =>
    rw [show dec (Int.ofNat m) = dec ((m : Nat) : Int) from rfl, dec_pos]
    exact fun c hc => .inr (digs_all m c hc)
  | negSucc m =>
    rw [dec_neg]
    intro c hc
    rcases List.mem_cons.mp hc with h | h
    · exact .inl h
    · exact .inr (digs_all (m + 1) c h)
theorem dec_free {n : Int} {c : Nat} (h1 : c ≠ 45) (h2 : ¬ (48 ≤ c ∧ c ≤ 57)) : c ∉ (dec n).cps.toList := fun h => by
  rcases dec_signs n c h with e | e
  · exact h1 e
  · exact h2 e
theorem dec_reads {n : Int} (h : n.natAbs < 10 ^ 40) : PySem.intText? (dec n) = some n := by
  have hl := dec_len h
  cases n with
  | ofNat m =>
    have e : (dec (Int.ofNat m)).cps.toList = digs m := dec_pos m
    have r := intText_digits (x := dec (Int.ofNat m)) (by rw [e]; exact digs_all m) (by rw [e]; exact digs_ne m) (by omega)
    rw [e, back_digs] at r
    exact r
  | negSucc m =>
    have r := intText_neg (x := dec (Int.negSucc m)) (dec_neg m) (digs_all _) (digs_ne _) (by omega)
    rw [back_digs] at r
    exact r
/-- .. what the program asks of it -/
def rest (n : Int) : Str := ⟨(digs n.natAbs).toArray⟩
theorem eq_of_list {a b : Str} (h : a.cps.toList = b.cps.toList) : a = b := Str.ext' (Array.toList_inj.mp h)
theorem minus_is : Str.ofString "-" = ⟨#[45]⟩ := by decide +kernel
theorem sub_minus (x : Str) : subAt x "-" 0 = (x.cps.toList.take 1 == [45]) := by
  rw [subAt_eq]
  show ((x.cps.toList.drop 0).take (Str.length (Str.ofString "-")) == (Str.ofString "-").cps.toList) = _
  rw [minus_is]
  rfl
theorem dec_rest (n : Int) : Txt.removeprefix (dec n) "-" = rest n := by
  rw [removeprefix_eq, sub_minus]
  cases n with
  | ofNat m =>
    have e : (dec (Int.ofNat m)).cps.toList = digs m := dec_pos m
    have no : ((digs m).take 1 == [45]) = false := by
      cases hd : digs m with
      | nil => exact absurd hd (digs_ne m)
      | cons c l =>
        have hc := digs_all m c (by rw [hd]; exact List.mem_cons_self)
        show ([c] == [45]) = false
        exact beq_eq_false_iff_ne.mpr fun q => by
          injection q with q
          omega
    rw [e, no, Bool.and_false, if_neg (by decide)]
    exact eq_of_list e
  | negSucc m =>
    have e := dec_neg m
    rw [e, show ((45 :: digs (m + 1)).take 1 == [45]) = true from rfl, Bool.and_true, if_pos (by
      rw [decide_eq_true_eq, len_of (dec (Int.negSucc m)), e]
      show 0 + Str.length (Str.ofString "-") ≤ _
      rw [minus_is]
      show 0 + 1 ≤ (digs (m + 1)).length + 1
      omega)]
    refine eq_of_list ?_
    show (((45 :: digs (m + 1)).drop (Str.length (Str.ofString "-"))).take _).toArray.toList = _
    rw [minus_is, len_of, e]
    show ((digs (m + 1)).take ((digs (m + 1)).length + 1 - 1)) = digs (m + 1)
    rw [Nat.add_sub_cancel, List.take_length]
theorem rest_len {n : Int} (h : n.natAbs < 10 ^ 40) : (rest n).length ≤ 40 := by
  rw [len_of]
  have := digs_len h
  show (digs n.natAbs).length ≤ 40
  omega
theorem rest_ascii (n : Int) : Txt.isascii (rest n) = true := by
  unfold Txt.isascii
  rw [← Array.all_toList, List.all_eq_true]
  intro c hc
  have := digs_all n.natAbs c hc
  exact decide_eq_true (by omega)
theorem rest_digit (n : Int) : Txt.isdigit (rest n) = true := by
  unfold Txt.isdigit
  rw [Bool.and_eq_true, decide_eq_true_eq]
  refine ⟨?_, ?_⟩
  · rw [len_of]
    exact List.length_pos_iff.mpr (digs_ne n.natAbs)
  · rw [← Array.all_toList, List.all_eq_true]
    intro c hc
    have h := digs_all n.natAbs c hc
    have : ∀ c, c < 58 → 48 ≤ c → Unicode.isDigit c = true := by decide +kernel
    exact this c (by omega) h.1
theorem zero_is : Str.ofString "0" = ⟨#[48]⟩ := by decide +kernel
/-- no zero leads, or it is zero -/
theorem rest_lead (n : Int) : rest n = "0" ∨ Txt.startswith (rest n) "0" = false := by
  by_cases h : n.natAbs = 0
  · refine .inl (eq_of_list ?_)
    show digs n.natAbs = (Str.ofString "0").cps.toList
    rw [h, zero_is]
    rfl
  · obtain ⟨c, l, e, hc⟩ := digs_head n.natAbs h
    refine .inr ?_
    unfold Txt.startswith
    rw [subAt_eq]
    show (_ && (((digs n.natAbs).drop 0).take (Str.length (Str.ofString "0")) == (Str.ofString "0").cps.toList)) = false
    rw [zero_is, e]
    show (_ && ([c] == [48])) = false
    rw [show ([c] == [48]) = false from beq_eq_false_iff_ne.mpr fun q => by injection q with q; exact hc q, Bool.and_false]
theorem mz_is : Str.ofString "-0" = ⟨#[45, 48]⟩ := by decide +kernel
theorem dec_mz (n : Int) : dec n ≠ "-0" := by
  intro h
  have e : (dec n).cps.toList = [45, 48] := by
    rw [h]
    show (Str.ofString "-0").cps.toList = _
    rw [mz_is]
  cases n with
  | ofNat m =>
    have e2 : (dec (Int.ofNat m)).cps.toList = digs m := dec_pos m
    rw [e2] at e
    have := digs_all m 45 (by rw [e]; exact List.mem_cons_self)
    omega
  | negSucc m =>
    rw [dec_neg] at e
    injection e with _ e
    obtain ⟨c, l, e2, hc⟩ := digs_head (m + 1) (by omega)
    rw [e] at e2
    injection e2 with e2 _
    exact hc e2.symm
/-! ### texts put together and cut again -/
theorem free_cut {c : Nat} : ∀ {x y A B : List Nat}, c ∉ x → c ∉ y → x ++ c :: A = y ++ c :: B → x = y ∧ A = B
  | [], [], _, _, _, _, h => ⟨rfl, by injection h⟩
  | [], d :: y, _, _, _, hy, h => by
    injection h with h _
    exact absurd (h ▸ List.mem_cons_self) hy
  | d :: x, [], _, _, hx, _, h => by
    injection h with h _
    exact absurd (h ▸ List.mem_cons_self) hx
  | d :: x, e :: y, A, B, hx, hy, h => by
    injection h with h1 h2
    obtain ⟨r1, r2⟩ := free_cut (fun q => hx (List.mem_cons_of_mem _ q)) (fun q => hy (List.mem_cons_of_mem _ q)) h2
    exact ⟨by rw [h1, r1], r2⟩
theorem join_two (c : Nat) (x y : Str) (r : List Str) : (Str.join ⟨#[c]⟩ (x :: y :: r)).cps.toList = x.cps.toList ++ c :: (Str.join ⟨#[c]⟩ (y :: r)).cps.toList := by
  show (x ++ ⟨#[c]⟩ ++ Str.join ⟨#[c]⟩ (y :: r)).cps.toList = _
  rw [Str.cps_append, Str.cps_append, Array.toList_append, Array.toList_append, List.append_assoc]
  rfl
theorem join_inj {c : Nat} : ∀ {a b : List Str}, a ≠ [] → b ≠ [] → (∀ z ∈ a, c ∉ z.cps.toList) → (∀ z ∈ b, c ∉ z.cps.toList) → Str.join ⟨#[c]⟩ a = Str.join ⟨#[c]⟩ b → a = b
  | [], _, h, _, _, _, _ => absurd rfl h
  | _, [], _, h, _, _, _ => absurd rfl h
  | [x], [y], _, _, _, _, h => by rw [show x = y from h]
  | [x], y :: y2 :: r, _, _, ha, _, h => by
    have e := congrArg (fun s : Str => s.cps.toList) h
    simp only [join_two] at e
    exact absurd (show c ∈ x.cps.toList from by rw [show x.cps.toList = _ from e]; exact List.mem_append_right _ List.mem_cons_self) (ha x List.mem_cons_self)
  | x :: x2 :: r, [y], _, _, _, hb, h => by
    have e := congrArg (fun s : Str => s.cps.toList) h
    simp only [join_two] at e
    exact absurd (show c ∈ y.cps.toList from by rw [show y.cps.toList = _ from e.symm]; exact List.mem_append_right _ List.mem_cons_self) (hb y List.mem_cons_self)
  | x :: x2 :: r, y :: y2 :: r2, _, _, ha, hb, h => by
    have e := congrArg (fun s : Str => s.cps.toList) h
    simp only [join_two] at e
    obtain ⟨e1, e2⟩ := free_cut (ha x List.mem_cons_self) (hb y List.mem_cons_self) e
    rw [eq_of_list e1, join_inj (a := x2 :: r) (b := y2 :: r2) (by simp) (by simp) (fun z hz => ha z (List.mem_cons_of_mem _ hz)) (fun z hz => hb z (List.mem_cons_of_mem _ hz)) (eq_of_list e2)]
theorem split_ne (x y : Str) : Txt.split x y ≠ [] := by
  unfold Txt.split
  split
  · exact List.cons_ne_nil _ _
  · split
    · exact List.cons_ne_nil _ _
    · rw [partsBetween_eq]
      obtain ⟨p, r, e⟩ := partsFrom_ne x y.length 0 (occurrences x y 0 x.length (x.length + 1))
      rw [e]
      exact List.cons_ne_nil _ _
theorem split_join {c : Nat} {ws : List Str} (h : ws ≠ []) (hf : ∀ z ∈ ws, c ∉ z.cps.toList) : Txt.split (Str.join ⟨#[c]⟩ ws) ⟨#[c]⟩ = ws :=
  join_inj (split_ne _ _) h (split_free _ c) hf (join_split _ _)
theorem part_at {c : Nat} {z d : Str} (hz : c ∉ z.cps.toList) : Txt.partition (z ++ ⟨#[c]⟩ ++ d) ⟨#[c]⟩ = (z, ⟨#[c]⟩, d) := by
  have e : (z ++ ⟨#[c]⟩ ++ d).cps.toList = z.cps.toList ++ c :: d.cps.toList := by
    rw [Str.cps_append, Str.cps_append, Array.toList_append, Array.toList_append, List.append_assoc]
    rfl
  have at0 : At (z ++ ⟨#[c]⟩ ++ d) ⟨#[c]⟩ (z ++ ⟨#[c]⟩ ++ d).length z.length := (subAt_one _ c _).mpr (by rw [e, len_of, List.getElem?_append_right (Nat.le_refl _), Nat.sub_self]; rfl)
  unfold Txt.partition
  rcases occ_head (z ++ ⟨#[c]⟩ ++ d) ⟨#[c]⟩ 1 (Nat.le_refl 1) with ⟨_, no⟩ | ⟨i, r, eo, hi, low⟩
  · exact absurd at0 (no _)
  · have hle : ¬ z.length < i := fun h => low _ h at0
    have hge : ¬ i < z.length := fun h => by
      have hc := (subAt_one _ c i).mp hi
      rw [e, List.getElem?_append_left (by rw [← len_of]; exact h)] at hc
      exact hz (List.mem_of_getElem? hc)
    obtain rfl : i = z.length := by omega
    rw [eo]
    show (strSub _ 0 z.length, (⟨#[c]⟩ : Str), strSub _ (z.length + 1) _) = _
    have e1 : strSub (z ++ ⟨#[c]⟩ ++ d) 0 z.length = z := eq_of_list (by
      rw [strSub_toList, e, List.drop_zero, Nat.sub_zero, len_of, List.take_left'  rfl])
    have e2 : strSub (z ++ ⟨#[c]⟩ ++ d) (z.length + 1) (z ++ ⟨#[c]⟩ ++ d).length = d := eq_of_list (by
      rw [strSub_toList, e, len_of (z ++ ⟨#[c]⟩ ++ d), e, len_of z, show z.cps.toList ++ c :: d.cps.toList = (z.cps.toList ++ [c]) ++ d.cps.toList by simp, List.drop_left' (by simp), List.take_of_length_le (by simp; omega)])
    rw [e1, e2]
end Tx

namespace Fk
open PySem L2
local macro_rules | `(tactic| walk_at "rdc") => `(tactic| (first | exact Or.inl ⟨by decide, by decide⟩ | exact Or.inr ⟨by decide, by decide⟩ | exact ⟨by decide, by decide⟩ | exact Or.inl ⟨by omega, by omega⟩ | exact Or.inr ⟨by omega, by omega⟩ | ((show (0 : Int) < _); (first | decide | omega)) | exact ⟨by decide, by decide, by decide⟩ | exact ⟨by omega, by assumption⟩))
local macro_rules | `(tactic| walk_at "hp") => `(tactic| (first | exact upd_same | assumption | ((rw [upd_ne (by assumption)]); (first | exact upd_same | assumption | ((rw [upd_ne (by assumption)]); (first | exact upd_same | assumption | ((rw [upd_ne (by assumption)]); (first | exact upd_same | assumption))))))))
local macro_rules | `(tactic| walk_at "r1") => `(tactic| (first | refine ⟨_, rfl, ?_⟩ | refine ⟨_, _, rfl, rfl, ?_⟩ | refine ⟨_, _, rfl, ?_⟩ | refine Or.inl ⟨_, rfl, ?_⟩ | refine ⟨rfl, ?_⟩ | refine ⟨(by walk_at "rdc"), ?_⟩ | refine ⟨_, _, _, _, rfl, rfl, SqL.of (by walk_at "hp"), rfl, ?_⟩ | refine ⟨_, _, _, _, rfl, rfl, (by walk_at "hp"), rfl, ?_⟩ | refine ⟨_, _, _, _, rfl, rfl, SqL.of (by walk_at "hp"), by assumption, ?_⟩))
local macro_rules | `(tactic| walk_at "rd") => `(tactic| (repeat walk_at "r1"))
--#make Tuning
--#ty * .name=s ._names=l ._table=d
--#ret is_numeral b
--#ret is_name b
--#ret is_pitch b
--#ty is_numeral word=s
--#ty is_pitch word=s
--#ty Tuning.read text=s word=s name=s _=s pitch=s table=d
--#ty Tuning.__str__ self=o name=s
--#okX Tuning.read
section
variable {P : Program} {w : World} {K : PySem.W.Frag} {mg : Str → Option Value} {base : Heap}
/-! ### numerals -/
structure Tm (mg : Str → Option Value) (t1 : Tok) : Prop where
  b_len : mg "len" = none
  g_MOST_DIGITS : mg "MOST_DIGITS" = some (.int 40 t1)
/-- what the program takes for a numeral of at most m digits -/
def numB (m : Int) (z : Str) : Bool := !(decide (m < (z.length : Int))) && (Txt.isascii z && Txt.isdigit z) && (decide (z = "0") || !(Txt.startswith z "0"))
def pitchB (z : Str) : Bool := decide (z ≠ "-0") && numB 40 (Txt.removeprefix z "-")
theorem short_prefix (z : Str) : (Txt.removeprefix z "-").length ≤ z.length := by
  rw [StrLaws.removeprefix_eq]
  split
  · rw [Tx.len_of, Tx.len_of z]
    show ((z.cps.toList.drop _).take _).length ≤ _
    rw [List.length_take, List.length_drop]
    omega
  · exact Nat.le_refl _
abbrev s_is_numeral : Stmt := top 12
theorem sc_is_numeral : FnScope ["word", "most"] ["word", "most"] (defScope s_is_numeral) := ⟨rfl, rfl, rfl, by decide +kernel, rfl, by decide +kernel, by decide +kernel⟩
def spNumeral : Sp := fun vs H Q _ => ∃ (z : Str) (m : Int), vs = [.str z, .int m] ∧ z.length ≤ 100000 ∧ Q (.bl (numB m z)) H
theorem ok_numeral {f : Addr} {t1 : Tok} {fd : FuncData} (F : Fun K "is_numeral" "is_numeral" s_is_numeral f fd) (T : Tm mg t1) : FnOk P w K mg base CX0 1 f fd ["word", "most"] spNumeral := by
  refine F.ok sc_is_numeral (fun vs H Q E h => ?_) (fun cdv A outer s H vs Q E hr h => ?_)
  · obtain ⟨z, m, rfl, _⟩ := h
    rfl
  · obtain ⟨z, m, rfl, hz, k⟩ := h
    refine ⟨_, (pss_cons (ps_if (PW.pt (pw_or (pt_cmpR op_gt (pe_callB call_len (by rfl) T.b_len PySem.boot_len (pa_cons (pv 0) pa_nil)) (pv 1) (nomark _)) (pw_or1 (pt_not (PW.pt (pw_and (pt_val (pe_m0 PySem.F.slot_str_isascii PySem.F.type_str_isascii mt_isascii (pv 0))) (pw_and1 (pt_val (pe_m0 PySem.F.slot_str_isdigit PySem.F.type_str_isdigit mt_isdigit (pv 0)))))))))) (pss_one (ps_ret pe_bl)) pss_nil)
      (pss_one (ps_ret (pe_or (pe_cmpR op_eq (pv 0) pe_str (nomark _)) (pe_one (pe_not (pe_m1 PySem.F.slot_str_startswith PySem.F.type_str_startswith mt_startswith (pv 0) pe_str))))))), ?_⟩
    walk_at "rd"
    refine ⟨_, _, rfl, ⟨Nat.le_trans hz (by decide), rfl⟩, ?_⟩
    walk_at "rd"
    have e : Q (.bl (numB m z)) H := k
    unfold numB at e
    generalize decide (m < (z.length : Int)) = a1 at e ⊢
    refine ite2 (fun c => ?_) (fun c => ?_)
    · rw [c] at e
      walk_at "rd"
      exact e
    · rw [show a1 = false by simpa using c] at e
      walk_at "rd"
      refine ⟨⟨_, rfl⟩, _, rfl, rfl, trivial, ?_⟩
      generalize Txt.isascii z = a2 at e ⊢
      walk_at "rd"
      refine ite2 (fun c => ?_) (fun c => ?_)
      · rw [c] at e
        walk_at "rd"
        refine ⟨⟨_, rfl⟩, _, rfl, rfl, trivial, ?_⟩
        generalize Txt.isdigit z = a3 at e ⊢
        walk_at "rd"
        refine ite2 (fun c => ?_) (fun c => ?_)
        · rw [show a3 = false by simpa using c] at e
          walk_at "rd"
          exact e
        · rw [show a3 = true by simpa using c] at e
          walk_at "rd"
          by_cases h0 : z = "0"
          · refine ite2 (fun _ => ?_) (fun c => absurd (by rw [h0]; exact decide_eq_true rfl) c)
            rw [decide_eq_true h0] at e
            exact e
          · refine ite2 (fun c => absurd (V.str.inj (of_decide_eq_true c)) h0) (fun _ => ?_)
            rw [decide_eq_false h0] at e
            walk_at "rd"
            exact ⟨⟨_, rfl⟩, _, _, rfl, rfl, _, rfl, e⟩
      · rw [show a2 = false by simpa using c] at e
        walk_at "rd"
        exact e
abbrev s_is_pitch : Stmt := top 16
theorem sc_is_pitch : FnScope ["word"] ["word"] (defScope s_is_pitch) := ⟨rfl, rfl, rfl, by decide +kernel, rfl, by decide +kernel, by decide +kernel⟩
def spPitchB : Sp := fun vs H Q _ => ∃ z : Str, vs = [.str z] ∧ z.length ≤ 100000 ∧ Q (.bl (pitchB z)) H
theorem ok_pitchB {f : Addr} {t1 : Tok} {fd : FuncData} (F : Fun K "is_pitch" "is_pitch" s_is_pitch f fd) (T : Tm mg t1) (c_is_numeral : C8.Cal P w K mg base 1 "is_numeral" spNumeral []) : FnOk P w K mg base CX0 2 f fd ["word"] spPitchB := by
  refine F.ok sc_is_pitch (fun vs H Q E h => ?_) (fun cdv A outer s H vs Q E hr h => ?_)
  · obtain ⟨z, rfl, _⟩ := h
    rfl
  · obtain ⟨z, rfl, hz, k⟩ := h
    refine ⟨_, (pss_one (ps_ret (pe_and (pe_cmpR op_ne (pv 0) pe_str (nomark _)) (pe_one (C8.pe_c c_is_numeral hr (by decide) rfl (pa_cons (pe_m1 PySem.F.slot_str_removeprefix PySem.F.type_str_removeprefix mt_removeprefix (pv 0) pe_str) (pa_cons (pe_glob (v := .int _) rfl T.g_MOST_DIGITS ⟨_, rfl⟩) pa_nil))))))), ?_⟩
    walk_at "rd"
    have e : Q (.bl (pitchB z)) H := k
    unfold pitchB at e
    by_cases h0 : z = "-0"
    · refine ite2 (fun c => absurd c (by rw [h0]; decide +kernel)) (fun _ => ?_)
      rw [decide_eq_false (fun q => q h0)] at e
      exact e
    · refine ite2 (fun _ => ?_) (fun c => absurd (by rw [decide_eq_false fun q => h0 (V.str.inj q)]; rfl) c)
      rw [decide_eq_true h0] at e
      walk_at "rd"
      refine ⟨⟨_, rfl⟩, _, _, rfl, rfl, Nat.le_trans hz (by decide), ?_⟩
      walk_at "rd"
      exact ⟨Nat.le_trans (short_prefix z) hz, e⟩
theorem pitch_reads {z : Str} (h : pitchB z = true) : ∃ n, PySem.intText? z = some n ∧ z.length ≤ 41 := by
  unfold pitchB at h
  rw [Bool.and_eq_true] at h
  have h := h.2
  unfold numB at h
  rw [Bool.and_eq_true, Bool.and_eq_true] at h
  obtain ⟨⟨h1, h2⟩, _⟩ := h
  rw [Bool.not_eq_true', decide_eq_false_iff_not] at h1
  rw [Bool.and_eq_true] at h2
  obtain ⟨h2, h3⟩ := h2
  unfold Txt.isascii at h2
  unfold Txt.isdigit at h3
  rw [Bool.and_eq_true, decide_eq_true_eq, ← Array.all_toList, List.all_eq_true] at h3
  rw [← Array.all_toList, List.all_eq_true] at h2
  have ok : ∀ c, c < 128 → Unicode.isDigit c = true → 48 ≤ c ∧ c ≤ 57 := by decide +kernel
  have ad : NumText.AllDigits (Txt.removeprefix z "-").cps.toList := fun c hc => ok c (of_decide_eq_true (h2 c hc)) (h3.2 c hc)
  have ne : (Txt.removeprefix z "-").cps.toList ≠ [] := fun e => by
    have := h3.1
    rw [Tx.len_of, e] at this
    exact absurd this (by decide)
  rw [StrLaws.removeprefix_eq] at ad ne h1
  split at ad
  · rename_i hc
    rw [if_pos hc] at ne h1
    rw [Bool.and_eq_true, decide_eq_true_eq, Tx.sub_minus] at hc
    obtain ⟨l1, l2⟩ := hc
    have l1 : 0 + Str.length (Str.ofString "-") ≤ z.length := l1
    rw [Tx.minus_is] at l1
    cases e : z.cps.toList with
    | nil => rw [e] at l2; exact absurd l2 (by decide)
    | cons c r =>
      rw [e] at l2
      have hc : c = 45 := by
        have := eq_of_beq l2
        injection this
      subst hc
      have hr : ((z.cps.toList.drop (Str.length (Str.ofString "-"))).take (z.length - Str.length (Str.ofString "-"))) = r := by
        rw [Tx.minus_is, Tx.len_of z, e]
        show r.take (r.length + 1 - 1) = r
        rw [Nat.add_sub_cancel, List.take_length]
      have ad : NumText.AllDigits ((z.cps.toList.drop (Str.length (Str.ofString "-"))).take (z.length - Str.length (Str.ofString "-"))) := ad
      have ne : ((z.cps.toList.drop (Str.length (Str.ofString "-"))).take (z.length - Str.length (Str.ofString "-"))) ≠ [] := ne
      have h1 : ¬ (40 : Int) < (((⟨((z.cps.toList.drop (Str.length (Str.ofString "-"))).take (z.length - Str.length (Str.ofString "-"))).toArray⟩ : Str).length : Nat) : Int) := h1
      rw [hr] at ad ne h1
      have zl : z.length = r.length + 1 := by rw [Tx.len_of, e]; rfl
      have rl : (⟨r.toArray⟩ : Str).length = r.length := Tx.len_of _
      rw [rl] at h1
      exact ⟨_, intText_neg e ad ne (by omega), by omega⟩
  · rename_i hc
    rw [if_neg hc] at ne h1
    exact ⟨_, intText_digits ad ne (by omega), by omega⟩
theorem tab_keys : ∀ (l : List Str) (ps : List V), l.length = ps.length → (tab l ps).map (fun kv => kV kv.1) = l.map V.str
  | [], [], _ => rfl
  | [], _ :: _, h => by simp at h
  | _ :: _, [], h => by simp at h
  | y :: l, p :: ps, h => by
    show V.str y :: (tab l ps).map (fun kv => kV kv.1) = _
    rw [tab_keys l ps (by simpa using h)]
    rfl
theorem name_asc {z : Str} (h : nameB z = true) : Asc z := by
  unfold nameB at h
  rw [Bool.and_eq_true, decide_eq_true_eq, Bool.and_eq_true] at h
  refine ⟨by omega, fun c hc => ?_⟩
  have a := h.2.1
  unfold Txt.isascii at a
  rw [← Array.all_toList, List.all_eq_true] at a
  exact of_decide_eq_true (a c hc)
abbrev s_Tuning_read : Stmt := inClass (top 17) 2
theorem sc_Tuning_read : FnScope ["text", "table", "word", "name", "_", "pitch"] ["text"] (defScope s_Tuning_read) := ⟨rfl, rfl, rfl, by decide +kernel, rfl, by decide +kernel, by decide +kernel⟩
/-- what is known of the module -/
structure Tr (P : Program) (K : PySem.W.Frag) (mg : Str → Option Value) (C CT : Addr) : Prop where
  g_Tuning : mg "Tuning" = some (.ref C)
  e_BadText : Err1 P K mg "BadText" CT "text" 114
  b_list : mg "list" = none
  b_int : mg "int" = none
def numOf (z : Str) : Int := (PySem.intText? z).getD 0
/-- the words read one after another -/
def readFrom : List Str → List Str → List Int → Option (List Str × List Int)
  | [], ws, ns => some (ws, ns)
  | x :: r, ws, ns =>
    if (Txt.partition x "=").1 ∉ ws ∧ nameB (Txt.partition x "=").1 = true ∧ pitchB (Txt.partition x "=").2.2 = true then readFrom r (ws ++ [(Txt.partition x "=").1]) (ns ++ [numOf (Txt.partition x "=").2.2])
    else none
theorem readFrom_cons (x : Str) (r ws : List Str) (ns : List Int) : readFrom (x :: r) ws ns = if (Txt.partition x "=").1 ∉ ws ∧ nameB (Txt.partition x "=").1 = true ∧ pitchB (Txt.partition x "=").2.2 = true then readFrom r (ws ++ [(Txt.partition x "=").1]) (ns ++ [numOf (Txt.partition x "=").2.2]) else none := rfl
def readT (x : Str) : Option (List Str × List Int) := if x = "" then some ([], []) else readFrom (Txt.split x " ") [] []
def spReadAt (C CT : Addr) (x : Str) (H : Hp) (Q : VK) (E : XK) : Prop := x.length ≤ 90000 ∧ FmX 114 (.str x) ∧ (∀ z ∈ Txt.split x " ", z.length ≤ 90000 ∧ (Txt.partition z "=").1.length ≤ 1000 ∧ (Txt.partition z "=").2.2.length ≤ 90000) ∧ (Txt.split x " ").length ≤ 100 ∧
  match readT x with
  | some (ws, ns) => ∀ y H', Same H H' → H y = none → Tun C H' y ws (ns.map V.int) → Q (.ref y) H'
  | none => ∀ (d : Addr) H', Same H H' → H d = none → H' d = some (.xd [("text", .str x)]) → E (.ref CT) (some d) H'
def spRead (C CT : Addr) : Sp := fun vs H Q E => ∃ x : Str, vs = [.str x] ∧ spReadAt C CT x H Q E
theorem ok_read {f C CB CR CT : Addr} {fd : FuncData} (F : Fun K "read" "Tuning.read" s_Tuning_read f fd) (T : Tr P K mg C CT) (c_is_name : C8.Cal P w K mg base 1 "is_name" spIsName []) (c_is_pitch : C8.Cal P w K mg base 2 "is_pitch" spPitchB []) (k_Tuning : Fx.MkX P w K mg base 5 "Tuning" C (spInit C CB CR)) :
    FnOk P w K mg base (L2N.CX P w) 7 f fd ["text"] (spRead C CT) := by
  refine F.okN sc_Tuning_read (fun vs H Q E h => ?_) (fun cdv A outer s H vs Q E hr h => ?_)
  · obtain ⟨x, rfl, _⟩ := h
    rfl
  · obtain ⟨x, rfl, xl, fm, each, hs, k⟩ := h
    have hu := hu_of hr
    refine ⟨_, (pss_cons (ps_if (pt_cmpR op_eq (pv 0) pe_str (nomark _)) (pss_one (ps_ret (Fx.pe_mkX k_Tuning hr (by decide) rfl (L2N.takes_of rfl rfl rfl rfl) (pa_cons (pe_lst pa_nil) (pa_cons (pe_lst pa_nil) pa_nil))))) pss_nil)
      (pss_cons (ps_set (i := 1) sc_Tuning_read.nd rfl (by first | exact Or.inl rfl | exact Or.inr rfl) pe_dnewK)
      (pss_cons (ps_for (passes_of rfl) rfl (pi_list (pe_split (pv 0) pe_str)) (pg_name (i := 2) sc_Tuning_read.nd rfl (by first | exact Or.inl rfl | exact Or.inr rfl)) (pss_cons (ps_asg (pe_partition (pv 2) pe_str) (pg_tup rfl (pgs_cons (pg_name (i := 3) sc_Tuning_read.nd rfl (by first | exact Or.inl rfl | exact Or.inr rfl)) (pgs_cons (pg_name (i := 4) sc_Tuning_read.nd rfl (by first | exact Or.inl rfl | exact Or.inr rfl)) (pgs_cons (pg_name (i := 5) sc_Tuning_read.nd rfl (by first | exact Or.inl rfl | exact Or.inr rfl)) pgs_nil)))))
      (pss_cons (ps_if (PW.pt (pw_or (pt_cmp (pc_din hu (pv 3) (pv 1))) (pw_or (pt_not (pt_val (C8.pe_c c_is_name hr (by decide) rfl (pa_cons (pv 3) pa_nil)))) (pw_or1 (pt_not (pt_val (C8.pe_c c_is_pitch hr (by decide) rfl (pa_cons (pv 5) pa_nil)))))))) (pss_one (L2N.ps_raise rfl (L2N.takes_of rfl rfl rfl rfl) (by exact (pmk_err1 T.e_BadText hr (pa_cons (pv 0) pa_nil))))) pss_nil)
      (pss_one (ps_dput hu (pv 1) (pv 3) (pe_callTy call_int_str (by rfl) T.b_int (by decide +kernel) (pa_cons (pv 5) pa_nil)) rfl)))))
      (pss_one (ps_ret (Fx.pe_mkX k_Tuning hr (by decide) rfl (L2N.takes_of rfl rfl rfl rfl) (pa_cons (pe_callTy (call_list_dK rfl) (by rfl) T.b_list (by decide +kernel) (pa_cons (pv 1) pa_nil)) (pa_cons (Fx.pe_listVals rfl (by rfl) T.b_list (by decide +kernel) (pv 1)) pa_nil)))))))), ?_⟩
    walk_at "rd"
    by_cases h0 : x = ""
    · refine ite2 (fun _ => ?_) (fun c => absurd (by rw [h0]; exact decide_eq_true rfl) c)
      walk_at "rd"
      refine ⟨by decide, fun l0 nl0 => ?_⟩
      have s6 := Same.new (o := .lst []) (Same.refl H) nl0
      walk_at "rd"
      refine ⟨by decide, fun l1 nl1 => ?_⟩
      have s7 := Same.new (o := .lst []) s6 nl1
      intro y3 dy ny3 ndy ne
      refine made2 (ws := []) (ps := []) ny3 ndy ne ((upd_ne (ne_of_none upd_same nl1)).trans upd_same) upd_same rfl ⟨by decide, fun z hz => absurd hz List.not_mem_nil, rfl⟩ fun H7 s8 t3 => ⟨rfl, ?_⟩
      have e : readT x = some ([], []) := if_pos h0
      rw [e] at k
      exact k y3 H7 (s7.trans s8) (Same.free s7 ny3) t3
    · refine ite2 (fun c => absurd (V.str.inj (of_decide_eq_true c)) h0) (fun _ => ?_)
      have e : readT x = readFrom (Txt.split x " ") [] [] := if_neg h0
      rw [e] at k
      walk_at "rd"
      intro D nD
      have s1 : Same H (upd H D (.dK [])) := Same.new (Same.refl H) nD
      walk_at "rd"
      refine ⟨⟨_, rfl⟩, ?_⟩
      walk_at "rd"
      refine ⟨Nat.le_trans (Nat.add_le_add_right xl 2) (by decide), fun p np => ?_⟩
      have s2 := Same.new (o := .lst ((Txt.split x " ").map V.str)) s1 np
      have hD0 := (upd_ne (o := .lst ((Txt.split x " ").map V.str)) (ne_of_none upd_same np)).trans (upd_same (H := H) (a := D) (o := .dK []))
      have pD : p ≠ D := (ne_of_none upd_same np).symm
      have hp0 : (upd (upd H D (HO.dK [])) p (HO.lst ((Txt.split x " ").map V.str))) p = some (.lst ((Txt.split x " ").map V.str)) := upd_same
      refine ⟨p, rfl, ⟨_, SqL.of upd_same⟩, ?_⟩
      generalize Txt.split x " " = xs at *
      refine for_list (K := K) (a := p) (xs := xs.map V.str) (fun i σ H' => ∃ (ws : List Str) (ns : List Int) (u2 u3 u4 u5 : Option V), σ = [some (.str x), some (.ref D), u2, u3, u4, u5] ∧ readFrom xs [] [] = readFrom (xs.drop i) ws ns ∧ ws.length = ns.length ∧ ws.length ≤ i ∧ (∀ z ∈ ws, nameB z = true) ∧ ws.Nodup ∧ H' D = some (.dK (tab ws (ns.map V.int))) ∧ H' p = some (.lst (xs.map V.str)) ∧ Same H H')
        ⟨[], [], none, none, none, none, rfl, rfl, rfl, Nat.le_refl _, (fun _ h => nomatch h), List.nodup_nil, hD0, hp0, s2⟩ (fun i σ H' _ hp => ?_) (fun i y σ H' hi hp => ?_) (fun σ H' hp => ?_)
      · obtain ⟨ws, ns, u2, u3, u4, u5, _, _, _, _, _, _, _, hp, _⟩ := hp
        exact SqL.of hp
      · obtain ⟨ws, ns, u2, u3, u4, u5, rfl, er, hl, hli, hg, hn, hD, hp, hS⟩ := hp
        obtain ⟨z, hz, rfl⟩ := strs_at hi
        have hiL : i < xs.length := (List.getElem?_eq_some_iff.mp hz).1
        have hzm := List.mem_of_getElem? hz
        obtain ⟨zl, nl, pl⟩ := each z hzm
        have dr : xs.drop i = z :: xs.drop (i + 1) := List.drop_eq_getElem?_toList_append.trans (by rw [hz]; rfl)
        rw [dr] at er
        have lenw : ws.length = (ns.map V.int).length := by rw [List.length_map]; exact hl
        walk_at "rd"
        refine ⟨⟨_, rfl⟩, ?_⟩
        walk_at "rd"
        refine ⟨Nat.le_trans zl (by decide), fun tp ntp => ?_⟩
        have tD : D ≠ tp := ne_of_none hD ntp
        have tp_ : p ≠ tp := ne_of_none hp ntp
        have s3 := Same.new (o := .tup [.str (Txt.partition z "=").1, .str (Txt.partition z "=").2.1, .str (Txt.partition z "=").2.2]) hS ntp
        have hD3 := (upd_ne (o := .tup [.str (Txt.partition z "=").1, .str (Txt.partition z "=").2.1, .str (Txt.partition z "=").2.2]) tD).trans hD
        have hp3 := (upd_ne (o := .tup [.str (Txt.partition z "=").1, .str (Txt.partition z "=").2.1, .str (Txt.partition z "=").2.2]) tp_).trans hp
        refine ⟨_, _, rfl, SqT.of upd_same, rfl, ?_⟩
        generalize upd H' tp (HO.tup [.str (Txt.partition z "=").1, .str (Txt.partition z "=").2.1, .str (Txt.partition z "=").2.2]) = G at *
        rw [readFrom_cons] at er
        generalize (Txt.partition z "=").1 = nm at *
        generalize (Txt.partition z "=").2.2 = pt at *
        walk_at "rd"
        refine ⟨D, _, rfl, DGet.k (k := Sum.inr nm) hD3, ?_⟩
        walk_at "rd"
        rw [tab_isSome nm _ _ lenw]
        refine ite2 (fun c => ?_) (fun c => ?_)
        · have c := of_decide_eq_true c
          rw [if_neg (fun h => h.1 c)] at er
          rw [er] at k
          walk_at "rd"
          exact ⟨⟨_, rfl, fm⟩, fun d hd => k d _ (Same.new s3 hd) (Same.free s3 hd) upd_same⟩
        · have c := fun q => c (decide_eq_true q)
          walk_at "rd"
          refine ⟨nl, ?_⟩
          cases hb : nameB nm with
          | false =>
            rw [if_neg (fun h => absurd (hb.symm.trans h.2.1) (by decide))] at er
            rw [er] at k
            walk_at "rd"
            exact ⟨⟨_, rfl, fm⟩, fun d hd => k d _ (Same.new s3 hd) (Same.free s3 hd) upd_same⟩
          | true =>
            walk_at "rd"
            refine ⟨Nat.le_trans pl (by decide), ?_⟩
            cases hc : pitchB pt with
            | false =>
              rw [if_neg (fun h => absurd (hc.symm.trans h.2.2) (by decide))] at er
              rw [er] at k
              walk_at "rd"
              exact ⟨⟨_, rfl, fm⟩, fun d hd => k d _ (Same.new s3 hd) (Same.free s3 hd) upd_same⟩
            | true =>
              rw [if_pos ⟨c, hb, hc⟩] at er
              obtain ⟨v, hv, hvl⟩ := pitch_reads hc
              have nv : numOf pt = v := by unfold numOf; rw [hv]; rfl
              rw [nv] at er
              walk_at "rd"
              refine ⟨_, v, rfl, hv, by omega, ?_⟩
              walk_at "rd"
              have fresh : valV (tab ws (ns.map V.int)) (Sum.inr nm : Key) = none := by
                have q := tab_isSome nm _ _ lenw
                rw [decide_eq_false c] at q
                simpa using q
              refine ⟨D, _, rfl, DPut.k (k := Sum.inr nm) hD3 ?_, ws ++ [nm], ns ++ [v], _, _, _, _, rfl, er, ?_, ?_, ?_, ?_, ?_, (upd_ne pD).trans hp3, Same.set s3 nD⟩
              · refine small1000 ?_
                unfold tab
                rw [List.length_zip, List.length_map, List.length_map]
                omega
              · rw [List.length_append, List.length_append, hl]
                rfl
              · rw [List.length_append]
                show ws.length + 1 ≤ i + 1
                omega
              · intro y hy
                rcases List.mem_append.mp hy with hy | hy
                · exact hg y hy
                · rw [List.mem_singleton.mp hy]
                  exact hb
              · exact List.nodup_append.mpr ⟨hn, by simp, fun a ha b hb e => c (by rw [← List.mem_singleton.mp hb, ← e]; exact ha)⟩
              · rw [upd_same, putK_new _ fresh, show (ns ++ [v]).map V.int = ns.map V.int ++ [V.int v] by rw [List.map_append]; rfl, tab_snoc nm (V.int v) lenw]
      · obtain ⟨ws, ns, u2, u3, u4, u5, rfl, er, hl, hli, hg, hn, hD, hp, hS⟩ := hp
        rw [List.length_map] at er
        have nil : xs.drop xs.length = [] := List.drop_length
        rw [nil] at er
        have er : readFrom xs [] [] = some (ws, ns) := er
        rw [er] at k
        have lenw : ws.length = (ns.map V.int).length := by rw [List.length_map]; exact hl
        walk_at "rd"
        refine ⟨D, _, rfl, hD, fun k1 n1 => ?_⟩
        have s3 := Same.new (o := .lst ((tab ws (ns.map V.int)).map fun kv => kV kv.1)) hS n1
        have hD3 := (upd_ne (o := .lst ((tab ws (ns.map V.int)).map fun kv => kV kv.1)) (ne_of_none hD n1)).trans hD
        walk_at "rd"
        refine ⟨D, _, rfl, hD3, fun k2 n2 => ?_⟩
        have s4 := Same.new (o := .lst ((tab ws (ns.map V.int)).map (·.2))) s3 n2
        intro y dy ny ndy ne
        rw [List.length_map] at hli
        refine made2 (ws := ws) (ps := ns.map V.int) ny ndy ne ((upd_ne (ne_of_none upd_same n2)).trans (upd_same.trans (by rw [tab_keys _ _ lenw]))) (upd_same.trans (by rw [tab_snd _ _ lenw])) lenw ⟨Nat.le_trans hli hs, fun z hz => ⟨(name_asc (hg z hz)).long, (name_asc (hg z hz)).fm⟩, vd_fine hg hn _⟩ fun H7 s8 t3 => ⟨rfl, ?_⟩
        exact k y H7 (s4.trans s8) (Same.free s4 ny) t3
/-! ### the written form -/
structure Ts (K : PySem.W.Frag) (mg : Str → Option Value) (C : Addr) : Prop where
  cls : Cls K C
  nT : NoAttr K C "_table"
  nN : NoAttr K C "_names"
/-- one fork's word -/
def word (z : Str) (n : Int) : Str := z ++ "=" ++ Tx.dec n
/-- the words of a tuning -/
def wordsOf (ws : List Str) (ns : List Int) : List Str := (ws.zip ns).map fun p => word p.1 p.2
def due (ws : List Str) (ns : List Int) : Str := Txt.join " " (wordsOf ws ns)
theorem pitch_at : ∀ {ws : List Str} {ns : List Int} {i : Nat} {z : Str} {x : Int}, ws.Nodup → ws[i]? = some z → ns[i]? = some x → pitchOf ws (ns.map V.int) z = some (.int x)
  | [], _, _, _, _, _, h, _ => by simp at h
  | _ :: _, [], _, _, _, _, _, h => by simp at h
  | y :: ws, n :: ns, 0, z, x, _, h, h2 => by
    have e1 : y = z := by simpa using h
    have e2 : n = x := by simpa using h2
    subst e1 e2
    exact valV_pos rfl
  | y :: ws, n :: ns, i + 1, z, x, nd, h, h2 => by
    have hz : ws[i]? = some z := by simpa using h
    have ne : ¬ y = z := fun e => (List.nodup_cons.mp nd).1 (e ▸ List.mem_of_getElem? hz)
    exact (valV_neg (fun q => ne (Sum.inr.inj q))).trans (pitch_at (List.nodup_cons.mp nd).2 hz (by simpa using h2))
theorem word_len {z : Str} {n : Int} (hz : Low z) (hn : n.natAbs < 10 ^ 40) : (word z n).length ≤ 54 := by
  obtain ⟨l, rfl, h1, h2, h3⟩ := hz
  have a : (S l).length ≤ 12 := by rw [S_len]; exact h2
  have b := Tx.dec_len hn
  unfold word
  rw [Str.length_append, Str.length_append]
  have c : Str.length (Str.ofString "=") = 1 := by decide +kernel
  show (S l).length + Str.length (Str.ofString "=") + (Tx.dec n).length ≤ 54
  omega
theorem words_len {ws : List Str} {ns : List Int} (low : ∀ z ∈ ws, Low z) (small : ∀ n ∈ ns, n.natAbs < 10 ^ 40) : ∀ y ∈ wordsOf ws ns, y.length ≤ 54 := by
  intro y hy
  obtain ⟨⟨z, n⟩, hp, rfl⟩ := List.mem_map.mp hy
  exact word_len (low z (List.of_mem_zip hp).1) (small n (List.of_mem_zip hp).2)
theorem log_small {n : Int} (h : n.natAbs < 10 ^ 40) : n.natAbs.log2 < 1920 := by
  by_cases h0 : n.natAbs = 0
  · rw [h0]
    decide
  · exact (Nat.log2_lt h0).mpr (Nat.lt_trans h (by decide +kernel))
/-- the pitch that a name has -/
def pitOf (ws : List Str) (ns : List Int) (z : Str) : Int := match pitchOf ws (ns.map V.int) z with
  | some (.int n) => n
  | _ => 0
theorem pitOf_at {ws : List Str} {ns : List Int} {i : Nat} {z : Str} {x : Int} (hn : ws.Nodup) (hz : ws[i]? = some z) (hx : ns[i]? = some x) : pitOf ws ns z = x := by
  unfold pitOf
  rw [pitch_at hn hz hx]
theorem words_are {ws : List Str} {ns : List Int} (hn : ws.Nodup) (hl : ws.length = ns.length) : ws.map (fun z => word z (pitOf ws ns z)) = wordsOf ws ns := by
  apply List.ext_getElem?
  intro i
  rw [List.getElem?_map]
  unfold wordsOf
  rw [List.getElem?_map]
  cases hz : ws[i]? with
  | none =>
    have : (ws.zip ns)[i]? = none := List.getElem?_eq_none (by
      have := List.getElem?_eq_none_iff.mp hz
      rw [List.length_zip]
      omega)
    rw [this]
    rfl
  | some z =>
    have hi := (List.getElem?_eq_some_iff.mp hz).1
    have hx : ns[i]? = some ns[i] := List.getElem?_eq_getElem (by omega)
    rw [show (ws.zip ns)[i]? = some (z, ns[i]) from List.getElem?_zip_eq_some.mpr ⟨hz, hx⟩]
    show some (word z (pitOf ws ns z)) = some (word z ns[i])
    rw [pitOf_at hn hz hx]
abbrev s_Tuning___str__ : Stmt := inClass (top 17) 19
theorem sc_Tuning___str__ : FnScope ["self", "name"] ["self"] (defScope s_Tuning___str__) := ⟨rfl, rfl, rfl, by decide +kernel, rfl, by decide +kernel, by decide +kernel⟩
def spStr (C : Addr) : Sp := fun vs H Q _ => ∃ (p : Addr) (ws : List Str) (ns : List Int), vs = [.ref p] ∧ Tun C H p ws (ns.map V.int) ∧ ws.length = ns.length ∧ ws.length ≤ 40 ∧ ws.Nodup ∧ (∀ z ∈ ws, Low z) ∧ (∀ n ∈ ns, n.natAbs < 10 ^ 40) ∧ ∀ H', Same H H' → Q (.str (due ws ns)) H'
theorem ok_str {f C : Addr} {fd : FuncData} (F : Fun K "__str__" "Tuning.__str__" s_Tuning___str__ f fd) (T : Ts K mg C) : FnOk P w K mg base CX0 2 f fd ["self"] (spStr C) := by
  refine F.ok sc_Tuning___str__ (fun vs H Q E h => ?_) (fun cdv A outer s H vs Q E hr h => ?_)
  · obtain ⟨p, ws, ns, rfl, _⟩ := h
    rfl
  · obtain ⟨p, ws, ns, rfl, hT, hl, l40, hn, low, small, k⟩ := h
    have hu := hu_of hr
    refine ⟨_, (pss_one (ps_ret (pe_join pe_str (pe_lc (own := [("name", 1)]) (g := gName 1) (tt := tYes) rfl sc_Tuning___str__.nd (pi_list (pe_fld (pv 0) rfl)) (blkOk_by (own := [("name", 1)]) (N := ["self", "name"]) (sc := defScope s_Tuning___str__) (by decide +kernel)) (fun _ _ _ _ _ => pg_name (i := 1) sc_Tuning___str__.nd rfl (by first | exact Or.inl rfl | exact Or.inr rfl)) (fun _ _ _ _ _ => pts_nil) (fun _ _ _ _ _ => (Fx.pe_joinedD (.cons (pe_fmt (pv 1)) (.cons pe_str (.cons (pe_fmt (pe_dget (by exact hu) (show PE _ _ (tFld K _ _) from pe_fld (pv 0) rfl) (pv 1) (fun _ _ => rfl))) .nil))))))))), ?_⟩
    obtain ⟨dx, t, n, h1, h2, h3⟩ := id hT
    walk_at "rd"
    unfold tRet tM1 tC
    refine ⟨⟨_, rfl⟩, ?_⟩
    walk_at "rd"
    refine ⟨p, C, dx, _, _, rfl, h1, T.cls, T.nN, rfl, ?_⟩
    refine ⟨n, rfl, ⟨_, SqL.of h3⟩, fun D nD => ?_⟩
    refine lc_all V.str (fun z => .str (word z (pitOf ws ns z))) nD h3 (Nat.le_trans l40 (by decide)) (fun i z H1 hi hs R S yes => ?_) (fun H8 hD s8 => ?_)
    · have hiL : i < ws.length := (List.getElem?_eq_some_iff.mp hi).1
      have hx : ns[i]? = some ns[i] := List.getElem?_eq_getElem (by omega)
      have e := pitOf_at hn hi hx
      have mz := List.mem_of_getElem? hi
      have mn := List.mem_of_getElem? hx
      generalize ns[i] = x at *
      refine ⟨rfl, ?_⟩
      have pk : pitchOf ws (ns.map V.int) z = some (.int x) := pitch_at hn hi hx
      have w53 := word_len (low z mz) (small x mn)
      have wis : Str.empty ++ z ++ "=" ++ Tx.dec x = word z (pitOf ws ns z) := by
        rw [Str.empty_append, e]
        rfl
      have zl : z.length ≤ 12 := by
        obtain ⟨l, rfl, h1, h2, h3⟩ := low z mz
        rw [S_len]
        exact h2
      have big : 1000 ≤ sizeLine := by decide
      have one : Str.length (Str.ofString "=") = 1 := by decide +kernel
      walk_at "rd"
      refine ⟨by omega, z, rfl, by rw [Str.empty_append]; omega, ?_⟩
      refine ⟨"=", rfl, by
        rw [Str.empty_append, Str.length_append]
        show z.length + Str.length (Str.ofString "=") ≤ sizeLine
        omega, ?_⟩
      walk_at "rd"
      refine ⟨p, C, dx, _, _, rfl, hs _ _ h1, T.cls, T.nT, rfl, ?_⟩
      walk_at "rd"
      refine ⟨t, .int x, rfl, ?_, ?_⟩
      · rw [← pk]
        exact DGet.k (k := Sum.inr z) (hs _ _ h2)
      refine .inr ⟨x, rfl, log_small (small x mn), ?_⟩
      refine ⟨Tx.dec x, rfl, by
        rw [Str.empty_append]
        exact Nat.le_trans w53 (by decide), ?_⟩
      show R (.str (Str.empty ++ z ++ "=" ++ Tx.dec x)) H1
      rw [wis]
      exact yes H1 (Same.refl H1)
    · rw [show ws.map (fun z => V.str (word z (pitOf ws ns z))) = (wordsOf ws ns).map V.str by rw [← words_are hn hl, List.map_map]; rfl] at hD
      refine ⟨_, D, wordsOf ws ns, rfl, rfl, .inl (SqL.of hD), ?_, k H8 s8⟩
      have a := StrLaws.sumLen_le (B := 54) (wordsOf ws ns) (words_len low small)
      have b : (wordsOf ws ns).length ≤ 40 := by
        unfold wordsOf
        rw [List.length_map, List.length_zip]
        omega
      have c : Str.length (Str.ofString " ") = 1 := by decide +kernel
      show _ + (wordsOf ws ns).length * Str.length (Str.ofString " ") ≤ _
      rw [c]
      omega
end
end Fk

namespace Fk
open PySem L2
local macro_rules | `(tactic| walk_at "rdc") => `(tactic| (first | exact Or.inl ⟨by decide, by decide⟩ | exact Or.inr ⟨by decide, by decide⟩ | exact ⟨by decide, by decide⟩ | exact Or.inl ⟨by omega, by omega⟩ | exact Or.inr ⟨by omega, by omega⟩ | ((show (0 : Int) < _); (first | decide | omega)) | exact ⟨by decide, by decide, by decide⟩ | exact ⟨by omega, by assumption⟩))
local macro_rules | `(tactic| walk_at "hp") => `(tactic| (first | exact upd_same | assumption | ((rw [upd_ne (by assumption)]); (first | exact upd_same | assumption | ((rw [upd_ne (by assumption)]); (first | exact upd_same | assumption | ((rw [upd_ne (by assumption)]); (first | exact upd_same | assumption))))))))
local macro_rules | `(tactic| walk_at "r1") => `(tactic| (first | refine ⟨_, rfl, ?_⟩ | refine ⟨_, _, rfl, rfl, ?_⟩ | refine ⟨_, _, rfl, ?_⟩ | refine Or.inl ⟨_, rfl, ?_⟩ | refine ⟨rfl, ?_⟩ | refine ⟨(by walk_at "rdc"), ?_⟩ | refine ⟨_, _, _, _, rfl, rfl, SqL.of (by walk_at "hp"), rfl, ?_⟩ | refine ⟨_, _, _, _, rfl, rfl, (by walk_at "hp"), rfl, ?_⟩ | refine ⟨_, _, _, _, rfl, rfl, SqL.of (by walk_at "hp"), by assumption, ?_⟩))
local macro_rules | `(tactic| walk_at "rd") => `(tactic| (repeat walk_at "r1"))
--#make Tuning
--#ty _law_refused _law_text=s e=o .text=s
--#ty _law_spoilt _law_words=l _law_words[]=s _law_name_here=s _law_number=s _law_bent=l _law_bent[]=s
--#ret read o
--#statics read
--#cut _law_spoilt 1 2 3 4 5 6 7 8
section
variable {P : Program} {w : World} {K : PySem.W.Frag} {mg : Str → Option Value} {base : Heap}
theorem eq_is : Str.ofString "=" = ⟨#[61]⟩ := by decide +kernel
theorem sp_is : Str.ofString " " = ⟨#[32]⟩ := by decide +kernel
theorem low_free {z : Str} (h : Low z) {c : Nat} (hc : c < 97) : c ∉ z.cps.toList := by
  obtain ⟨l, rfl, h1, h2, h3⟩ := h
  intro q
  have q : c ∈ l := by simpa using q
  have := h3 c q
  omega
theorem word_list (z : Str) (n : Int) : (word z n).cps.toList = z.cps.toList ++ 61 :: (Tx.dec n).cps.toList := by
  unfold word
  show (z ++ Str.ofString "=" ++ Tx.dec n).cps.toList = _
  rw [eq_is, Str.cps_append, Str.cps_append, Array.toList_append, Array.toList_append, List.append_assoc]
  rfl
theorem word_free {z : Str} {n : Int} (h : Low z) : 32 ∉ (word z n).cps.toList := by
  rw [word_list]
  intro q
  rcases List.mem_append.mp q with q | q
  · exact low_free h (by decide) q
  · rcases List.mem_cons.mp q with q | q
    · exact absurd q (by decide)
    · exact Tx.dec_free (by decide) (by decide) q
theorem word_part {z : Str} {n : Int} (h : Low z) : Txt.partition (word z n) "=" = (z, Str.ofString "=", Tx.dec n) := by
  unfold word
  show Txt.partition (z ++ Str.ofString "=" ++ Tx.dec n) (Str.ofString "=") = (z, Str.ofString "=", Tx.dec n)
  rw [eq_is]
  exact Tx.part_at (low_free h (by decide))
theorem dec_pitch {n : Int} (h : n.natAbs < 10 ^ 40) : pitchB (Tx.dec n) = true := by
  unfold pitchB
  rw [decide_eq_true (Tx.dec_mz n), Tx.dec_rest]
  unfold numB
  have a := Tx.rest_len h
  rw [decide_eq_false (by omega), Tx.rest_ascii, Tx.rest_digit]
  rcases Tx.rest_lead n with e | e
  · rw [decide_eq_true e]
    rfl
  · rw [e]
    simp
theorem dec_num {n : Int} (h : n.natAbs < 10 ^ 40) : numOf (Tx.dec n) = n := by
  unfold numOf
  rw [Tx.dec_reads h]
  rfl
theorem words_of (z : Str) (ws : List Str) (n : Int) (ns : List Int) : wordsOf (z :: ws) (n :: ns) = word z n :: wordsOf ws ns := rfl
theorem read_words : ∀ {ws a : List Str} {ns b : List Int}, ws.length = ns.length → (a ++ ws).Nodup → (∀ z ∈ ws, Low z) → (∀ n ∈ ns, n.natAbs < 10 ^ 40) → readFrom (wordsOf ws ns) a b = some (a ++ ws, b ++ ns)
  | [], a, [], b, _, _, _, _ => by rw [List.append_nil, List.append_nil]; rfl
  | [], _, _ :: _, _, h, _, _, _ => by simp at h
  | _ :: _, _, [], _, h, _, _, _ => by simp at h
  | z :: ws, a, n :: ns, b, hl, hn, low, small => by
    have hz := low z List.mem_cons_self
    have hs := small n List.mem_cons_self
    have nz : z ∉ a := fun q => (List.nodup_append.mp hn).2.2 z q z List.mem_cons_self rfl
    rw [words_of, readFrom_cons, word_part hz, if_pos ⟨nz, low_good hz, dec_pitch hs⟩, dec_num hs]
    show readFrom _ (a ++ [z]) (b ++ [n]) = _
    rw [read_words (by simpa using hl) (by rw [List.append_assoc]; exact hn) (fun y hy => low y (List.mem_cons_of_mem _ hy)) (fun y hy => small y (List.mem_cons_of_mem _ hy)), List.append_assoc, List.append_assoc]
    rfl
theorem words_nil {ws : List Str} {ns : List Int} (hl : ws.length = ns.length) (h : wordsOf ws ns = []) : ws = [] := by
  cases ws with
  | nil => rfl
  | cons z ws =>
    cases ns with
    | nil => simp at hl
    | cons n ns => exact absurd h (List.cons_ne_nil _ _)
theorem words_free {ws : List Str} {ns : List Int} (low : ∀ z ∈ ws, Low z) : ∀ y ∈ wordsOf ws ns, 32 ∉ y.cps.toList := by
  intro y hy
  obtain ⟨⟨z, n⟩, hp, rfl⟩ := List.mem_map.mp hy
  exact word_free (low z (List.of_mem_zip hp).1)
theorem due_join (ws : List Str) (ns : List Int) : due ws ns = Str.join ⟨#[32]⟩ (wordsOf ws ns) := by
  unfold due Txt.join
  show Builtin.Str.glued (Str.ofString " ") _ = _
  rw [sp_is]
  exact StrLaws.glued_eq_join _ _
theorem due_split {ws : List Str} {ns : List Int} (h : wordsOf ws ns ≠ []) (low : ∀ z ∈ ws, Low z) : Txt.split (due ws ns) " " = wordsOf ws ns := by
  rw [due_join]
  show Txt.split _ (Str.ofString " ") = _
  rw [sp_is]
  exact Tx.split_join h (words_free low)
theorem join_mem {c : Nat} : ∀ {xs : List Str} {d : Nat}, d ∈ (Str.join ⟨#[c]⟩ xs).cps.toList → d = c ∨ ∃ x ∈ xs, d ∈ x.cps.toList
  | [], d, h => by
    have h : d ∈ (Str.empty).cps.toList := h
    exact absurd h (by simp [Str.empty])
  | [x], d, h => .inr ⟨x, List.mem_cons_self, h⟩
  | x :: y :: r, d, h => by
    rw [Tx.join_two] at h
    rcases List.mem_append.mp h with h | h
    · exact .inr ⟨x, List.mem_cons_self, h⟩
    · rcases List.mem_cons.mp h with h | h
      · exact .inl h
      · rcases join_mem h with h | ⟨z, hz, h⟩
        · exact .inl h
        · exact .inr ⟨z, List.mem_cons_of_mem _ hz, h⟩
/-- a tuning's text is read back -/
theorem due_read {ws : List Str} {ns : List Int} (hl : ws.length = ns.length) (hn : ws.Nodup) (low : ∀ z ∈ ws, Low z) (small : ∀ n ∈ ns, n.natAbs < 10 ^ 40) : readT (due ws ns) = some (ws, ns) := by
  by_cases h : wordsOf ws ns = []
  · have e := words_nil hl h
    subst e
    cases ns with
    | nil =>
      unfold readT
      rw [if_pos (by rw [due_join]; exact Tx.eq_of_list (by decide +kernel))]
    | cons n ns => simp at hl
  · have r := read_words (a := []) (b := []) hl hn low small
    unfold readT
    rw [if_neg, due_split h low, r]
    · rfl
    · intro e
      cases hw : wordsOf ws ns with
      | nil => exact h hw
      | cons x r =>
        have le := PySem.join_mem_le ⟨#[32]⟩ (x :: r) x List.mem_cons_self
        rw [← hw, ← due_join, e] at le
        have x0 : 1 ≤ x.length := by
          obtain ⟨⟨z, n⟩, _, rfl⟩ := List.mem_map.mp (show x ∈ wordsOf ws ns from by rw [hw]; exact List.mem_cons_self)
          rw [Tx.len_of, word_list]
          show 1 ≤ (z.cps.toList ++ 61 :: (Tx.dec n).cps.toList).length
          rw [List.length_append, List.length_cons]
          omega
        have z0 : Str.length (Str.ofString "") = 0 := by decide +kernel
        have le : x.length ≤ Str.length (Str.ofString "") := le
        omega
theorem due_len {ws : List Str} {ns : List Int} (l40 : ws.length ≤ 40) (low : ∀ z ∈ ws, Low z) (small : ∀ n ∈ ns, n.natAbs < 10 ^ 40) : (due ws ns).length ≤ 3000 := by
  rw [due_join]
  have a := StrLaws.join_length_le ⟨#[32]⟩ (wordsOf ws ns)
  have b := StrLaws.sumLen_le (B := 54) (wordsOf ws ns) (words_len low small)
  have c : (wordsOf ws ns).length ≤ 40 := by
    unfold wordsOf
    rw [List.length_map, List.length_zip]
    omega
  have d : Str.length ⟨#[32]⟩ = 1 := rfl
  rw [d] at a
  omega
theorem due_fm {ws : List Str} {ns : List Int} (l40 : ws.length ≤ 40) (low : ∀ z ∈ ws, Low z) (small : ∀ n ∈ ns, n.natAbs < 10 ^ 40) : FmX 114 (.str (due ws ns)) := by
  refine .inl ⟨rfl, ?_⟩
  have q := StrLaws.reprText_len (due ws ns) fun c hc => by
    have : c < 128 := by
      rw [due_join] at hc
      rcases join_mem hc with h | ⟨x, hx, h⟩
      · omega
      · obtain ⟨⟨z, n⟩, hp, rfl⟩ := List.mem_map.mp hx
        rw [word_list] at h
        rcases List.mem_append.mp h with h | h
        · exact (low_asc (low z (List.of_mem_zip hp).1)).2 c h
        · rcases List.mem_cons.mp h with h | h
          · omega
          · rcases Tx.dec_signs n c h with e | e <;> omega
    exact Nat.lt_trans this (by decide)
  have := due_len l40 low small
  omega
/-- what read is asked with a tuning's text -/
theorem due_ask {C CT : Addr} {H : Hp} {Q : VK} {E : XK} {ws : List Str} {ns : List Int} (hl : ws.length = ns.length) (l40 : ws.length ≤ 40) (hn : ws.Nodup) (low : ∀ z ∈ ws, Low z) (small : ∀ n ∈ ns, n.natAbs < 10 ^ 40)
    (k : ∀ y H', Same H H' → H y = none → Tun C H' y ws (ns.map V.int) → Q (.ref y) H') : spReadAt C CT (due ws ns) H Q E := by
  refine ⟨Nat.le_trans (due_len l40 low small) (by decide), due_fm l40 low small, ?_, ?_, ?_⟩
  · by_cases h : wordsOf ws ns = []
    · have e := words_nil hl h
      subst e
      cases ns with
      | nil =>
        have e : Txt.split (due [] []) " " = [Str.empty] := by decide +kernel
        rw [e]
        intro z hz
        rw [List.mem_singleton.mp hz]
        decide +kernel
      | cons n ns => simp at hl
    · rw [due_split h low]
      intro x hx
      obtain ⟨⟨z, n⟩, hp, rfl⟩ := List.mem_map.mp hx
      have hz := low z (List.of_mem_zip hp).1
      have hs := small n (List.of_mem_zip hp).2
      rw [word_part hz]
      have a := word_len hz hs
      have b := (low_asc hz).long
      have c := Tx.dec_len hs
      exact ⟨Nat.le_trans a (by decide), b, Nat.le_trans c (by decide)⟩
  · by_cases h : wordsOf ws ns = []
    · have e := words_nil hl h
      subst e
      cases ns with
      | nil =>
        have e : Txt.split (due [] []) " " = [Str.empty] := by decide +kernel
        rw [e]
        decide
      | cons n ns => simp at hl
    · rw [due_split h low]
      unfold wordsOf
      rw [List.length_map, List.length_zip]
      omega
  · rw [due_read hl hn low small]
    exact k

/-! ### texts that are refused -/
def BadW (a : List Str) (x : Str) : Prop := (Txt.partition x "=").1 ∈ a ∨ nameB (Txt.partition x "=").1 = false ∨ pitchB (Txt.partition x "=").2.2 = false
theorem read_bad {a : List Str} {b : List Int} {x : Str} {r : List Str} (h : BadW a x) : readFrom (x :: r) a b = none := by
  rw [readFrom_cons, if_neg]
  rintro ⟨h1, h2, h3⟩
  rcases h with h | h | h
  · exact h1 h
  · rw [h2] at h
    cases h
  · rw [h3] at h
    cases h
theorem read_more : ∀ {ws a : List Str} {ns b : List Int} {r : List Str}, ws.length = ns.length → (a ++ ws).Nodup → (∀ z ∈ ws, Low z) → (∀ n ∈ ns, n.natAbs < 10 ^ 40) → readFrom (wordsOf ws ns ++ r) a b = readFrom r (a ++ ws) (b ++ ns)
  | [], a, [], b, r, _, _, _, _ => by rw [List.append_nil, List.append_nil]; rfl
  | [], _, _ :: _, _, _, h, _, _, _ => by simp at h
  | _ :: _, _, [], _, _, h, _, _, _ => by simp at h
  | z :: ws, a, n :: ns, b, r, hl, hn, low, small => by
    have hz := low z List.mem_cons_self
    have hs := small n List.mem_cons_self
    have nz : z ∉ a := fun q => (List.nodup_append.mp hn).2.2 z q z List.mem_cons_self rfl
    rw [words_of]
    show readFrom (word z n :: (wordsOf ws ns ++ r)) a b = _
    rw [readFrom_cons, word_part hz, if_pos ⟨nz, low_good hz, dec_pitch hs⟩, dec_num hs]
    show readFrom _ (a ++ [z]) (b ++ [n]) = _
    rw [read_more (by simpa using hl) (by rw [List.append_assoc]; exact hn) (fun y hy => low y (List.mem_cons_of_mem _ hy)) (fun y hy => small y (List.mem_cons_of_mem _ hy)), List.append_assoc, List.append_assoc]
    rfl
/-- a word that does not fit behind some that do -/
theorem read_stop {ws : List Str} {ns : List Int} {x : Str} {r : List Str} (hl : ws.length = ns.length) (hn : ws.Nodup) (low : ∀ z ∈ ws, Low z) (small : ∀ n ∈ ns, n.natAbs < 10 ^ 40) (h : BadW ws x) : readFrom (wordsOf ws ns ++ x :: r) [] [] = none := by
  rw [read_more (a := []) (b := []) hl hn low small]
  exact read_bad h
theorem part_len (x y : Str) : (Txt.partition x y).1.length ≤ x.length ∧ (Txt.partition x y).2.2.length ≤ x.length := by
  unfold Txt.partition
  split
  · refine ⟨?_, ?_⟩
    · show (Builtin.Str.strSub x 0 _).length ≤ _
      rw [Tx.len_of, Tx.len_of x, StrLaws.strSub_toList, List.length_take, List.length_drop]
      omega
    · show (Builtin.Str.strSub x _ x.length).length ≤ _
      rw [Tx.len_of, Tx.len_of x, StrLaws.strSub_toList, List.length_take, List.length_drop]
      omega
  · refine ⟨Nat.le_refl _, ?_⟩
    show Str.empty.length ≤ _
    exact Nat.zero_le _
/-- a word that stands in a text -/
structure GoodW (x : Str) : Prop where
  free : 32 ∉ x.cps.toList
  asc : ∀ c ∈ x.cps.toList, c < 128
  len : x.length ≤ 6000
  name : (Txt.partition x "=").1.length ≤ 1000
/-- what read needs to know of a text that it refuses -/
structure Bad (x : Str) : Prop where
  len : x.length ≤ 90000
  fm : FmX 114 (.str x)
  each : ∀ z ∈ Txt.split x " ", z.length ≤ 90000 ∧ (Txt.partition z "=").1.length ≤ 1000 ∧ (Txt.partition z "=").2.2.length ≤ 90000
  few : (Txt.split x " ").length ≤ 100
  bad : readT x = none
theorem bad_join {L : List Str} (g : ∀ x ∈ L, GoodW x) (few : L.length ≤ 14) (some_ : ∃ x ∈ L, 1 ≤ x.length) (h : readFrom L [] [] = none) : Bad (Str.join ⟨#[32]⟩ L) := by
  have ne : L ≠ [] := fun e => by
    obtain ⟨x, hx, _⟩ := some_
    rw [e] at hx
    cases hx
  have sp : Txt.split (Str.join ⟨#[32]⟩ L) " " = L := by
    show Txt.split _ (Str.ofString " ") = _
    rw [sp_is]
    exact Tx.split_join ne fun z hz => (g z hz).free
  have ln : (Str.join ⟨#[32]⟩ L).length ≤ 85000 := by
    have a := StrLaws.join_length_le ⟨#[32]⟩ L
    have b := StrLaws.sumLen_le (B := 6000) L fun y hy => (g y hy).len
    have d : Str.length ⟨#[32]⟩ = 1 := rfl
    rw [d] at a
    omega
  refine ⟨by omega, .inl ⟨rfl, ?_⟩, ?_, by rw [sp]; omega, ?_⟩
  · have q := StrLaws.reprText_len (Str.join ⟨#[32]⟩ L) fun c hc => by
      have : c < 128 := by
        rcases join_mem hc with h | ⟨x, hx, h⟩
        · omega
        · exact (g x hx).asc c h
      exact Nat.lt_trans this (by decide)
    omega
  · rw [sp]
    intro z hz
    have a := part_len z "="
    have b := (g z hz).len
    exact ⟨by omega, (g z hz).name, by omega⟩
  · unfold readT
    rw [if_neg, sp, h]
    intro e
    obtain ⟨x, hx, h1⟩ := some_
    have le := PySem.join_mem_le ⟨#[32]⟩ L x hx
    rw [e] at le
    have z0 : Str.length (Str.ofString "") = 0 := by decide +kernel
    have le : x.length ≤ Str.length (Str.ofString "") := le
    omega
theorem word_good {z : Str} {n : Int} (h : Low z) (hn : n.natAbs < 10 ^ 40) : GoodW (word z n) := by
  refine ⟨word_free h, fun c hc => ?_, Nat.le_trans (word_len h hn) (by decide), by rw [word_part h]; exact (low_asc h).long⟩
  rw [word_list] at hc
  rcases List.mem_append.mp hc with h1 | h1
  · exact (low_asc h).2 c h1
  · rcases List.mem_cons.mp h1 with h1 | h1
    · omega
    · rcases Tx.dec_signs n c h1 with e | e <;> omega
theorem words_good {ws : List Str} {ns : List Int} (low : ∀ z ∈ ws, Low z) (small : ∀ n ∈ ns, n.natAbs < 10 ^ 40) : ∀ x ∈ wordsOf ws ns, GoodW x := by
  intro x hx
  obtain ⟨⟨z, n⟩, hp, rfl⟩ := List.mem_map.mp hx
  exact word_good (low z (List.of_mem_zip hp).1) (small n (List.of_mem_zip hp).2)
/-- a name said twice -/
theorem read_dup : ∀ {ws a : List Str} {ns b : List Int}, ws.length = ns.length → a.Nodup → ¬ (a ++ ws).Nodup → (∀ z ∈ ws, Low z) → (∀ n ∈ ns, n.natAbs < 10 ^ 40) → readFrom (wordsOf ws ns) a b = none
  | [], a, [], b, _, h, h2, _, _ => absurd (by rw [List.append_nil]; exact h) h2
  | [], _, _ :: _, _, h, _, _, _, _ => by simp at h
  | _ :: _, _, [], _, h, _, _, _, _ => by simp at h
  | z :: ws, a, n :: ns, b, hl, ha, hn, low, small => by
    have hz := low z List.mem_cons_self
    have hs := small n List.mem_cons_self
    rw [words_of]
    by_cases hm : z ∈ a
    · exact read_bad (.inl (show (Txt.partition (word z n) "=").1 ∈ a by rw [congrArg Prod.fst (word_part (n := n) hz)]; exact hm))
    · rw [readFrom_cons, word_part hz, if_pos ⟨hm, low_good hz, dec_pitch hs⟩]
      refine read_dup (by simpa using hl) ?_ (by rw [List.append_assoc]; exact hn) (fun y hy => low y (List.mem_cons_of_mem _ hy)) (fun y hy => small y (List.mem_cons_of_mem _ hy))
      exact List.nodup_append.mpr ⟨ha, by simp, fun x hx y hy e => hm (by have h1 : y = z := List.mem_singleton.mp hy; rw [← h1, ← e]; exact hx)⟩
theorem idx_at {z : Str} {n : Int} (h : Low z) : Txt.index0 (word z n) "=" = some z.length := by
  have hz := low_free h (show 61 < 97 by decide)
  have e := word_list z n
  have at0 : StrLaws.At (word z n) ⟨#[61]⟩ (word z n).length z.length := (StrLaws.subAt_one _ 61 _).mpr (by rw [e, Tx.len_of, List.getElem?_append_right (Nat.le_refl _), Nat.sub_self]; rfl)
  unfold Txt.index0
  show (Builtin.Str.occurrences (word z n) (Str.ofString "=") 0 _ 1).head? = _
  rw [eq_is]
  rcases StrLaws.occ_head (word z n) ⟨#[61]⟩ 1 (Nat.le_refl 1) with ⟨_, no⟩ | ⟨i, r, eo, hi, low⟩
  · exact absurd at0 (no _)
  · have hle : ¬ z.length < i := fun h => low _ h at0
    have hge : ¬ i < z.length := fun h => by
      have hc := (StrLaws.subAt_one _ 61 i).mp hi
      rw [e, List.getElem?_append_left (by rw [← Tx.len_of]; exact h)] at hc
      exact hz (List.mem_of_getElem? hc)
    obtain rfl : i = z.length := by omega
    rw [eo]
    rfl
theorem cut_name (z : Str) (n : Int) : cutS (word z n) none (some (z.length : Int)) = z := by
  unfold cutS
  refine Tx.eq_of_list ?_
  rw [HT.sIx_none, HT.sIx_nat, List.drop_zero, Nat.sub_zero, word_list]
  have e : min z.length (word z n).length = z.cps.toList.length := by
    rw [Tx.len_of (word z n), word_list, Tx.len_of z, List.length_append]
    omega
  rw [e, List.take_left' rfl]
theorem cut_rest (z : Str) (n : Int) : cutS (word z n) (some ((z.length : Int) + 1)) none = Tx.dec n := by
  unfold cutS
  refine Tx.eq_of_list ?_
  rw [show (z.length : Int) + 1 = ((z.length + 1 : Nat) : Int) by omega, HT.sIx_none, HT.sIx_nat]
  have l : (word z n).length = z.length + 1 + (Tx.dec n).cps.toList.length := by
    rw [Tx.len_of (word z n), word_list, Tx.len_of z, List.length_append, List.length_cons]
    omega
  have e : min (z.length + 1) (word z n).length = (z.cps.toList ++ [61]).length := by
    rw [l, List.length_append, ← Tx.len_of]
    show _ = z.length + 1
    omega
  rw [e, word_list, show z.cps.toList ++ 61 :: (Tx.dec n).cps.toList = (z.cps.toList ++ [61]) ++ (Tx.dec n).cps.toList by simp, List.drop_left' rfl, List.take_of_length_le]
  rw [l, List.length_append, ← Tx.len_of z]
  show _ ≤ _ - (z.length + 1)
  omega
theorem cut_from {α : Type} (mk : α → V) (l : List α) (k : Nat) : cutV (l.map mk) (some (k : Int)) none = (l.drop k).map mk := by
  unfold cutV
  rw [HT.sIx_none, HT.sIx_nat, List.map_drop]
  by_cases h : k ≤ (l.map mk).length
  · rw [Nat.min_eq_left h, List.take_of_length_le (by rw [List.length_drop]; omega)]
  · rw [Nat.min_eq_right (by omega), List.drop_eq_nil_of_le (Nat.le_refl _), List.drop_eq_nil_of_le (by omega), List.take_nil]
theorem words_take (zs : List Str) (ns : List Int) (k : Nat) : (wordsOf zs ns).take k = wordsOf (zs.take k) (ns.take k) := by
  unfold wordsOf List.zip
  rw [← List.map_take, List.take_zipWith]
theorem words_drop (zs : List Str) (ns : List Int) (k : Nat) : (wordsOf zs ns).drop k = wordsOf (zs.drop k) (ns.drop k) := by
  unfold wordsOf List.zip
  rw [← List.map_drop, List.drop_zipWith]
theorem words_num (zs : List Str) (ns : List Int) : (wordsOf zs ns).length ≤ zs.length := by
  unfold wordsOf
  rw [List.length_map, List.length_zip]
  omega
theorem bad_in {zs : List Str} {ns : List Int} {k : Nat} {x : Str} {r : List Str} (hl : zs.length = ns.length) (l6 : zs.length ≤ 6) (hn : zs.Nodup) (low : ∀ z ∈ zs, Low z) (small : ∀ n ∈ ns, n.natAbs < 10 ^ 35) (gx : GoodW x) (bx : BadW (zs.take k) x) (gr : ∀ y ∈ r, GoodW y) (hr : r.length ≤ 7)
    (some_ : ∃ y ∈ wordsOf (zs.take k) (ns.take k) ++ x :: r, 1 ≤ y.length) : Bad (Str.join ⟨#[32]⟩ (wordsOf (zs.take k) (ns.take k) ++ x :: r)) := by
  have s40 : ∀ n ∈ ns.take k, n.natAbs < 10 ^ 40 := fun n h => Nat.lt_trans (small n (List.mem_of_mem_take h)) (by decide +kernel)
  have lowk : ∀ z ∈ zs.take k, Low z := fun z h => low z (List.mem_of_mem_take h)
  refine bad_join (fun y hy => ?_) ?_ some_ (read_stop (by rw [List.length_take, List.length_take, hl]) (hn.sublist (List.take_sublist k zs)) lowk s40 bx)
  · rcases List.mem_append.mp hy with hy | hy
    · exact words_good lowk s40 y hy
    · rcases List.mem_cons.mp hy with rfl | hy
      · exact gx
      · exact gr y hy
  · have := words_num (zs.take k) (ns.take k)
    rw [List.length_take] at this
    rw [List.length_append, List.length_cons]
    omega
theorem txt_join (L : List Str) : Txt.join (Str.ofString " ") L = Str.join ⟨#[32]⟩ L := by
  unfold Txt.join
  rw [sp_is]
  exact StrLaws.glued_eq_join _ _
theorem join_ok {L : List Str} (g : ∀ x ∈ L, GoodW x) (few : L.length ≤ 14) : (L.map (·.length)).sum + L.length * Str.length (Str.ofString " ") ≤ 16777216 := by
  have a := StrLaws.sumLen_le (B := 6000) L fun y hy => (g y hy).len
  have c : Str.length (Str.ofString " ") = 1 := by decide +kernel
  rw [c]
  omega
theorem join_small {L : List Str} (g : ∀ x ∈ L, GoodW x) (few : L.length ≤ 14) : (Str.join ⟨#[32]⟩ L).length ≤ 85000 := by
  have a := StrLaws.join_length_le ⟨#[32]⟩ L
  have b := StrLaws.sumLen_le (B := 6000) L fun y hy => (g y hy).len
  have d : Str.length ⟨#[32]⟩ = 1 := rfl
  rw [d] at a
  omega
theorem word_one (z : Str) (n : Int) : 1 ≤ (word z n).length := by
  rw [Tx.len_of, word_list, List.length_append, List.length_cons]
  omega
theorem empty_good : GoodW "" := by
  refine ⟨by decide +kernel, fun c hc => ?_, by decide +kernel, by decide +kernel⟩
  have e : (Str.ofString "").cps.toList = [] := by decide +kernel
  have hc : c ∈ (Str.ofString "").cps.toList := hc
  rw [e] at hc
  cases hc
theorem empty_bad (a : List Str) : BadW a "" := .inr (.inl (by decide +kernel))
theorem join_snoc (sep x : Str) : ∀ {L : List Str}, L ≠ [] → Str.join sep (L ++ [x]) = Str.join sep L ++ sep ++ x
  | [], h => absurd rfl h
  | [y], _ => rfl
  | y :: y2 :: r, _ => by
    show y ++ sep ++ Str.join sep ((y2 :: r) ++ [x]) = y ++ sep ++ Str.join sep (y2 :: r) ++ sep ++ x
    rw [join_snoc sep x (L := y2 :: r) (List.cons_ne_nil _ _)]
    simp only [Str.append_assoc]
theorem join_tail (sep x y : Str) : ∀ L : List Str, Str.join sep (L ++ [x]) ++ y = Str.join sep (L ++ [x ++ y])
  | [] => rfl
  | [z] => by
    show z ++ sep ++ x ++ y = z ++ sep ++ (x ++ y)
    simp only [Str.append_assoc]
  | z :: z2 :: r => by
    show z ++ sep ++ Str.join sep ((z2 :: r) ++ [x]) ++ y = z ++ sep ++ Str.join sep ((z2 :: r) ++ [x ++ y])
    rw [← join_tail sep x y (z2 :: r)]
    simp only [Str.append_assoc]
theorem pre_mem {d : Str} {c : Nat} (h : c ∈ d.cps.toList) (hc : c ≠ 45) : c ∈ (Txt.removeprefix d "-").cps.toList := by
  rw [StrLaws.removeprefix_eq]
  split
  · rename_i q
    rw [Bool.and_eq_true, Tx.sub_minus] at q
    show c ∈ (d.cps.toList.drop (Str.length (Str.ofString "-"))).take (d.length - Str.length (Str.ofString "-"))
    rw [Tx.minus_is, Tx.len_of d]
    cases e : d.cps.toList with
    | nil => rw [e] at h; cases h
    | cons x l =>
      rw [e] at q h
      have hx : x = 45 := by
        have := eq_of_beq q.2
        injection this
      show c ∈ (l.take (l.length + 1 - 1))
      rw [Nat.add_sub_cancel, List.take_length]
      rcases List.mem_cons.mp h with h | h
      · exact absurd (h.trans hx) hc
      · exact h
  · exact h
theorem pitch_false {d : Str} {c : Nat} (h : c ∈ d.cps.toList) (hc : c ≠ 45) (hd : Unicode.isDigit c = false) : pitchB d = false := by
  have m := pre_mem h hc
  unfold pitchB numB
  have e : Txt.isdigit (Txt.removeprefix d "-") = false := by
    unfold Txt.isdigit
    rw [Bool.and_eq_false_iff]
    refine .inr ?_
    rw [← Array.all_toList, List.all_eq_false]
    exact ⟨c, m, by rw [hd]; decide⟩
  rw [e]
  simp
theorem part_eq {z d : Str} (h : Low z) : Txt.partition (z ++ "=" ++ d) "=" = (z, Str.ofString "=", d) := by
  show Txt.partition (z ++ Str.ofString "=" ++ d) (Str.ofString "=") = _
  rw [eq_is]
  exact Tx.part_at (low_free h (by decide))
/-- a word with a name, and something else behind it -/
theorem odd_good {z d : Str} (h : Low z) (hd : ∀ c ∈ d.cps.toList, c < 128 ∧ c ≠ 32) (hl : d.length ≤ 5900) : GoodW (z ++ "=" ++ d) := by
  have e : (z ++ "=" ++ d).cps.toList = z.cps.toList ++ 61 :: d.cps.toList := by
    show (z ++ Str.ofString "=" ++ d).cps.toList = _
    rw [eq_is, Str.cps_append, Str.cps_append, Array.toList_append, Array.toList_append, List.append_assoc]
    rfl
  have zl := (low_asc h).1
  refine ⟨?_, ?_, ?_, by rw [part_eq h]; exact (low_asc h).long⟩
  · rw [e]
    intro q
    rcases List.mem_append.mp q with q | q
    · exact low_free h (by decide) q
    · rcases List.mem_cons.mp q with q | q
      · exact absurd q (by decide)
      · exact (hd _ q).2 rfl
  · rw [e]
    intro c q
    rcases List.mem_append.mp q with q | q
    · exact (low_asc h).2 c q
    · rcases List.mem_cons.mp q with q | q
      · omega
      · exact (hd c q).1
  · rw [Tx.len_of, e, List.length_append, List.length_cons, ← Tx.len_of, ← Tx.len_of]
    omega
theorem odd_bad {z d : Str} {a : List Str} (h : Low z) (hd : pitchB d = false) : BadW a (z ++ "=" ++ d) := .inr (.inr (by rw [part_eq h]; exact hd))
/-- a text several times -/
def repS (z : Str) (n : Nat) : Str := ⟨((List.replicate n z.cps.toList).flatten).toArray⟩
def bent1 (z : Str) (x : Int) : List Str := [Txt.upper (word z x), z ++ "=+" ++ Tx.dec x, z ++ "=-0", z ++ "=0" ++ Tx.dec x, word z x ++ " " ++ word z x]
def bent2 (z : Str) (x : Int) : List Str := [z ++ Tx.dec x, z ++ "==" ++ Tx.dec x, z ++ "=", "=" ++ Tx.dec x, z ++ "=" ++ repS "1" 41]
def bents (z : Str) (x : Int) : List Str := bent1 z x ++ bent2 z x ++ [" " ++ word z x]
/-! ### each bent word is refused -/
def up (c : Nat) : Nat := if 97 ≤ c ∧ c ≤ 122 then c - 32 else c
theorem up_is : ∀ c < 128, Unicode.upperOf c = [up c] := by decide +kernel
theorem flat_idx (f : Nat → List Nat) (g : Nat → Nat) : ∀ l : List Nat, (∀ c ∈ l, f c = [g c]) → (List.map Array.toList (l.mapIdx fun _ c => (f c).toArray)).flatten = l.map g
  | [], _ => rfl
  | a :: l, h => by
    rw [List.mapIdx_cons, List.map_cons, List.flatten_cons, h a List.mem_cons_self, flat_idx f g l fun c hc => h c (List.mem_cons_of_mem _ hc)]
    rfl
theorem upper_list {x : Str} (h : ∀ c ∈ x.cps.toList, c < 128) : (Txt.upper x).cps.toList = x.cps.toList.map up := by
  show (placed x fun _ c => Unicode.upperOf c).toList = _
  unfold placed
  rw [Array.toList_flatten, Array.toList_mapIdx]
  exact flat_idx Unicode.upperOf up _ fun c hc => up_is c (h c hc)
theorem up_low : ∀ c, 65 ≤ c → c ≤ 90 → Unicode.isLower c = false := by
  have : ∀ c < 91, 65 ≤ c → Unicode.isLower c = false := by decide +kernel
  exact fun c h1 h2 => this c (by omega) h1
theorem upper_word {z : Str} {n : Int} {a : List Str} (h : Low z) (hn : n.natAbs < 10 ^ 40) : GoodW (Txt.upper (word z n)) ∧ BadW a (Txt.upper (word z n)) := by
  have g := word_good h hn
  have e := upper_list g.asc
  rw [word_list, List.map_append, List.map_cons, show up 61 = 61 from rfl] at e
  have zc : ∀ c ∈ z.cps.toList.map up, 65 ≤ c ∧ c ≤ 90 := by
    obtain ⟨l, rfl, h1, h2, h3⟩ := h
    intro c hc
    obtain ⟨d, hd, rfl⟩ := List.mem_map.mp hc
    have hd : d ∈ l := by simpa using hd
    have := h3 d hd
    unfold up
    rw [if_pos this]
    omega
  have dc : ∀ c ∈ (Tx.dec n).cps.toList.map up, c = 45 ∨ (48 ≤ c ∧ c ≤ 57) := by
    intro c hc
    obtain ⟨d, hd, rfl⟩ := List.mem_map.mp hc
    have q := Tx.dec_signs n d hd
    unfold up
    rw [if_neg (by omega)]
    exact q
  have u : Txt.upper (word z n) = (⟨(z.cps.toList.map up).toArray⟩ : Str) ++ ⟨#[61]⟩ ++ (⟨((Tx.dec n).cps.toList.map up).toArray⟩ : Str) := Tx.eq_of_list (by
    rw [e, Str.cps_append, Str.cps_append, Array.toList_append, Array.toList_append, List.append_assoc]
    rfl)
  have pt : Txt.partition (Txt.upper (word z n)) "=" = ((⟨(z.cps.toList.map up).toArray⟩ : Str), (⟨#[61]⟩ : Str), (⟨((Tx.dec n).cps.toList.map up).toArray⟩ : Str)) := by
    rw [u]
    show Txt.partition _ (Str.ofString "=") = _
    rw [eq_is]
    exact Tx.part_at fun q => by
      have := zc 61 q
      omega
  have zl : (⟨(z.cps.toList.map up).toArray⟩ : Str).length ≤ 40 := by
    rw [Tx.len_of]
    show (z.cps.toList.map up).length ≤ 40
    rw [List.length_map, ← Tx.len_of]
    exact (low_asc h).1
  refine ⟨⟨?_, ?_, ?_, by rw [pt]; exact Nat.le_trans zl (by decide)⟩, .inr (.inl ?_)⟩
  · rw [e]
    intro q
    rcases List.mem_append.mp q with q | q
    · have := zc 32 q
      omega
    · rcases List.mem_cons.mp q with q | q
      · exact absurd q (by decide)
      · have := dc 32 q
        omega
  · rw [e]
    intro c q
    rcases List.mem_append.mp q with q | q
    · have := zc c q
      omega
    · rcases List.mem_cons.mp q with q | q
      · omega
      · have := dc c q
        omega
  · rw [Tx.len_of, e, List.length_append, List.length_cons, List.length_map, List.length_map, ← Tx.len_of, ← Tx.len_of]
    have := (low_asc h).1
    have := Tx.dec_len hn
    omega
  · rw [pt]
    unfold nameB
    have lo : Txt.islower (⟨(z.cps.toList.map up).toArray⟩ : Str) = false := by
      unfold Txt.islower
      rw [Bool.and_eq_false_iff]
      refine .inl ?_
      rw [← Array.any_toList, List.any_eq_false]
      intro c hc
      have q := zc c hc
      rw [up_low c q.1 q.2]
      decide
    rw [lo]
    simp
theorem part_none {w : Str} (h : 61 ∉ w.cps.toList) : Txt.partition w "=" = (w, Str.empty, Str.empty) := by
  unfold Txt.partition
  show (match Builtin.Str.occurrences w (Str.ofString "=") 0 w.length 1 with | i :: _ => _ | [] => _) = _
  rw [eq_is]
  rcases StrLaws.occ_head w ⟨#[61]⟩ 1 (Nat.le_refl 1) with ⟨e, _⟩ | ⟨i, r, eo, hi, _⟩
  · rw [e]
  · exact absurd (List.mem_of_getElem? ((StrLaws.subAt_one w 61 i).mp hi)) h
theorem pitch_empty : pitchB Str.empty = false := by decide +kernel
/-- the texts of which the spoilt one is put together, as one list -/
theorem glue (x y : Str) : ∀ A B : List Str, Str.join ⟨#[32]⟩ (A ++ (x ++ ⟨#[32]⟩ ++ y) :: B) = Str.join ⟨#[32]⟩ (A ++ x :: y :: B)
  | [], [] => rfl
  | [], b :: B => by
    show x ++ ⟨#[32]⟩ ++ y ++ ⟨#[32]⟩ ++ Str.join ⟨#[32]⟩ (b :: B) = x ++ ⟨#[32]⟩ ++ (y ++ ⟨#[32]⟩ ++ Str.join ⟨#[32]⟩ (b :: B))
    simp only [Str.append_assoc]
  | [a], B => by
    show a ++ ⟨#[32]⟩ ++ Str.join ⟨#[32]⟩ ((x ++ ⟨#[32]⟩ ++ y) :: B) = a ++ ⟨#[32]⟩ ++ Str.join ⟨#[32]⟩ (x :: y :: B)
    rw [show Str.join ⟨#[32]⟩ ((x ++ ⟨#[32]⟩ ++ y) :: B) = Str.join ⟨#[32]⟩ (x :: y :: B) from glue x y [] B]
  | a :: a2 :: A, B => by
    show a ++ ⟨#[32]⟩ ++ Str.join ⟨#[32]⟩ ((a2 :: A) ++ (x ++ ⟨#[32]⟩ ++ y) :: B) = a ++ ⟨#[32]⟩ ++ Str.join ⟨#[32]⟩ ((a2 :: A) ++ x :: y :: B)
    rw [glue x y (a2 :: A) B]
theorem lit_cat {s a b : Str} (h : s = a ++ b) (z d : Str) : z ++ s ++ d = z ++ a ++ (b ++ d) := by
  rw [h]
  simp only [Str.append_assoc]
theorem cat_mem {a b : Str} {c : Nat} : c ∈ (a ++ b).cps.toList ↔ c ∈ a.cps.toList ∨ c ∈ b.cps.toList := by
  rw [Str.cps_append, Array.toList_append]
  exact List.mem_append
theorem dec_ok {n : Int} : ∀ c ∈ (Tx.dec n).cps.toList, c < 128 ∧ c ≠ 32 := fun c hc => by
  rcases Tx.dec_signs n c hc with e | e <;> omega
theorem bad_bent {zs : List Str} {ns : List Int} {k : Nat} {z : Str} {x : Int} (hl : zs.length = ns.length) (l6 : zs.length ≤ 6) (hn : zs.Nodup) (low : ∀ z ∈ zs, Low z) (small : ∀ n ∈ ns, n.natAbs < 10 ^ 35) (hz : zs[k]? = some z) (hx : ns[k]? = some x) :
    ∀ b : Str, b ∈ bents z x → Bad (Str.join ⟨#[32]⟩ ((wordsOf zs ns).take k ++ b :: (wordsOf zs ns).drop (k + 1))) := by
  have s40 : ∀ n ∈ ns, n.natAbs < 10 ^ 40 := fun n h => Nat.lt_trans (small n h) (by decide +kernel)
  have gw : ∀ y ∈ wordsOf zs ns, GoodW y := words_good low s40
  have lz := low z (List.mem_of_getElem? hz)
  have sx := s40 x (List.mem_of_getElem? hx)
  have hk : k < zs.length := (List.getElem?_eq_some_iff.mp hz).1
  have few := words_num zs ns
  have dl := Tx.dec_len sx
  have zl := (low_asc lz).1
  have nz : z ∉ zs.take k := fun h => by
    obtain ⟨j, hj⟩ := List.mem_iff_getElem?.mp h
    have hji : j < k := by
      have := (List.getElem?_eq_some_iff.mp hj).1
      rw [List.length_take] at this
      omega
    rw [List.getElem?_take_of_lt hji] at hj
    exact absurd (nodup_ix hn hj hz) (by omega)
  have go : ∀ b : Str, GoodW b → BadW (zs.take k) b → 1 ≤ b.length → Bad (Str.join ⟨#[32]⟩ ((wordsOf zs ns).take k ++ b :: (wordsOf zs ns).drop (k + 1))) := fun b g bd h1 => by
    rw [words_take]
    exact bad_in hl l6 hn low small g bd (fun y hy => gw y (List.drop_subset _ _ hy)) (by rw [List.length_drop]; omega) ⟨b, List.mem_append_right _ List.mem_cons_self, h1⟩
  have odd : ∀ d : Str, (∀ c ∈ d.cps.toList, c < 128 ∧ c ≠ 32) → d.length ≤ 5900 → pitchB d = false → Bad (Str.join ⟨#[32]⟩ ((wordsOf zs ns).take k ++ (z ++ "=" ++ d) :: (wordsOf zs ns).drop (k + 1))) := fun d h1 h2 h3 =>
    go _ (odd_good lz h1 h2) (odd_bad lz h3) (by
      have c6 : Str.length (Str.ofString "=") = 1 := by decide +kernel
      rw [Str.length_append, Str.length_append]
      show 1 ≤ z.length + Str.length (Str.ofString "=") + d.length
      omega)
  have c0 : Bad (Str.join ⟨#[32]⟩ ((wordsOf zs ns).take k ++ (Txt.upper (word z x) : Str) :: (wordsOf zs ns).drop (k + 1))) := by
    obtain ⟨g, bd⟩ := upper_word (a := zs.take k) lz sx
    refine go _ g bd ?_
    have e := upper_list (word_good lz sx).asc
    rw [Tx.len_of, e, List.length_map, ← Tx.len_of]
    exact word_one z x
  have c1 : Bad (Str.join ⟨#[32]⟩ ((wordsOf zs ns).take k ++ (z ++ "=+" ++ Tx.dec x : Str) :: (wordsOf zs ns).drop (k + 1))) := by
    rw [lit_cat (show Str.ofString "=+" = Str.ofString "=" ++ Str.ofString "+" by decide +kernel)]
    have e : (Str.ofString "+").cps.toList = [43] := by decide +kernel
    refine odd _ (fun c hc => ?_) (by rw [Str.length_append, show (Str.ofString "+").length = 1 by decide +kernel]; omega) (pitch_false (c := 43) (cat_mem.mpr (.inl (by rw [e]; exact List.mem_cons_self))) (by decide) (by decide +kernel))
    rcases cat_mem.mp hc with hc | hc
    · rw [e] at hc
      rw [List.mem_singleton.mp hc]
      decide
    · exact dec_ok c hc
  have c2 : Bad (Str.join ⟨#[32]⟩ ((wordsOf zs ns).take k ++ (z ++ "=-0" : Str) :: (wordsOf zs ns).drop (k + 1))) := by
    rw [show z ++ Str.ofString "=-0" = z ++ Str.ofString "=" ++ Str.ofString "-0" by rw [show Str.ofString "=-0" = Str.ofString "=" ++ Str.ofString "-0" by decide +kernel, Str.append_assoc]]
    exact odd _ (by decide +kernel) (by decide +kernel) (by decide +kernel)
  have c3 : Bad (Str.join ⟨#[32]⟩ ((wordsOf zs ns).take k ++ (z ++ "=0" ++ Tx.dec x : Str) :: (wordsOf zs ns).drop (k + 1))) := by
    rw [lit_cat (show Str.ofString "=0" = Str.ofString "=" ++ Str.ofString "0" by decide +kernel)]
    have e : (Str.ofString "0").cps.toList = [48] := by decide +kernel
    have e2 : (Str.ofString "0" ++ Tx.dec x).cps.toList = 48 :: (Tx.dec x).cps.toList := by rw [Str.cps_append, Array.toList_append, e]; rfl
    refine odd _ (fun c hc => ?_) (by rw [Str.length_append, show (Str.ofString "0").length = 1 by decide +kernel]; omega) ?_
    · rcases cat_mem.mp hc with hc | hc
      · rw [e] at hc
        rw [List.mem_singleton.mp hc]
        decide
      · exact dec_ok c hc
    · have same : Txt.removeprefix (Str.ofString "0" ++ Tx.dec x) "-" = Str.ofString "0" ++ Tx.dec x := by
        rw [StrLaws.removeprefix_eq, Tx.sub_minus, e2, if_neg]
        show ¬ (_ && ([48] == [45])) = true
        rw [show ([48] == [45]) = false from rfl, Bool.and_false]
        decide
      have st : Txt.startswith (Str.ofString "0" ++ Tx.dec x) "0" = true := by
        unfold Txt.startswith
        rw [StrLaws.subAt_eq, e2, Bool.and_eq_true, decide_eq_true_eq]
        refine ⟨by rw [Str.length_append]; show 0 + Str.length (Str.ofString "0") ≤ _; omega, ?_⟩
        show ((48 :: (Tx.dec x).cps.toList).take (Str.length (Str.ofString "0")) == (Str.ofString "0").cps.toList) = true
        rw [Tx.zero_is]
        rfl
      have ne : Str.ofString "0" ++ Tx.dec x ≠ Str.ofString "0" := fun q => by
        have q := congrArg (fun s : Str => s.cps.toList) q
        simp only [e2, e] at q
        have d0 : (Tx.dec x).cps.toList ≠ [] := by
          intro d0
          have r := Tx.dec_reads sx
          have : Tx.dec x = Str.empty := Tx.eq_of_list d0
          rw [this] at r
          exact absurd r (by rw [show PySem.intText? Str.empty = none by decide +kernel]; simp)
        exact d0 (by simpa using q)
      unfold pitchB numB
      rw [same, decide_eq_false ne, st]
      simp
  have c4 : Bad (Str.join ⟨#[32]⟩ ((wordsOf zs ns).take k ++ (word z x ++ " " ++ word z x : Str) :: (wordsOf zs ns).drop (k + 1))) := by
    have sp : (word z x ++ Str.ofString " " ++ word z x) = word z x ++ ⟨#[32]⟩ ++ word z x := by rw [sp_is]
    rw [sp, glue]
    have t : (wordsOf zs ns).take (k + 1) = (wordsOf zs ns).take k ++ [word z x] := take_snoc (by
      unfold wordsOf
      rw [List.getElem?_map, show (zs.zip ns)[k]? = some (z, x) from List.getElem?_zip_eq_some.mpr ⟨hz, hx⟩]
      rfl)
    have e : (wordsOf zs ns).take k ++ word z x :: word z x :: (wordsOf zs ns).drop (k + 1) = (wordsOf zs ns).take (k + 1) ++ word z x :: (wordsOf zs ns).drop (k + 1) := by rw [t, List.append_assoc]; rfl
    rw [e, words_take]
    exact bad_in hl l6 hn low small (word_good lz sx) (.inl (by rw [word_part lz, take_snoc hz]; exact List.mem_append_right _ List.mem_cons_self)) (fun y hy => gw y (List.drop_subset _ _ hy)) (by rw [List.length_drop]; omega) ⟨word z x, List.mem_append_right _ List.mem_cons_self, word_one z x⟩
  have c5 : Bad (Str.join ⟨#[32]⟩ ((wordsOf zs ns).take k ++ (z ++ Tx.dec x : Str) :: (wordsOf zs ns).drop (k + 1))) := by
    have no : 61 ∉ (z ++ Tx.dec x).cps.toList := fun q => by
      rcases cat_mem.mp q with q | q
      · exact low_free lz (by decide) q
      · exact Tx.dec_free (by decide) (by decide) q
    have dpos : (z ++ Tx.dec x).length ≤ 100 := by
      rw [Str.length_append]
      omega
    refine go _ ⟨fun q => ?_, fun c q => ?_, by omega, by rw [part_none no]; show (z ++ Tx.dec x).length ≤ 1000; omega⟩ (.inr (.inr (by rw [part_none no]; exact pitch_empty))) ?_
    · rcases cat_mem.mp q with q | q
      · exact low_free lz (by decide) q
      · exact Tx.dec_free (by decide) (by decide) q
    · rcases cat_mem.mp q with q | q
      · exact (low_asc lz).2 c q
      · exact (dec_ok c q).1
    · obtain ⟨l, rfl, h1, h2, h3⟩ := lz
      rw [Str.length_append, S_len]
      omega
  have c6 : Bad (Str.join ⟨#[32]⟩ ((wordsOf zs ns).take k ++ (z ++ "==" ++ Tx.dec x : Str) :: (wordsOf zs ns).drop (k + 1))) := by
    rw [lit_cat (show Str.ofString "==" = Str.ofString "=" ++ Str.ofString "=" by decide +kernel)]
    have e : (Str.ofString "=").cps.toList = [61] := by decide +kernel
    refine odd _ (fun c hc => ?_) (by rw [Str.length_append, show (Str.ofString "=").length = 1 by decide +kernel]; omega) (pitch_false (c := 61) (cat_mem.mpr (.inl (by rw [e]; exact List.mem_cons_self))) (by decide) (by decide +kernel))
    rcases cat_mem.mp hc with hc | hc
    · rw [e] at hc
      rw [List.mem_singleton.mp hc]
      decide
    · exact dec_ok c hc
  have c7 : Bad (Str.join ⟨#[32]⟩ ((wordsOf zs ns).take k ++ (z ++ "=" : Str) :: (wordsOf zs ns).drop (k + 1))) := by
    rw [show z ++ Str.ofString "=" = z ++ Str.ofString "=" ++ Str.empty by rw [Str.append_empty]]
    exact odd Str.empty (by decide +kernel) (by decide +kernel) pitch_empty
  have c8 : Bad (Str.join ⟨#[32]⟩ ((wordsOf zs ns).take k ++ ("=" ++ Tx.dec x : Str) :: (wordsOf zs ns).drop (k + 1))) := by
    have w : Str.ofString "=" ++ Tx.dec x = Str.empty ++ ⟨#[61]⟩ ++ Tx.dec x := by rw [eq_is, Str.empty_append]
    have pt : Txt.partition (Str.ofString "=" ++ Tx.dec x) "=" = (Str.empty, (⟨#[61]⟩ : Str), Tx.dec x) := by
      rw [w]
      show Txt.partition _ (Str.ofString "=") = _
      rw [eq_is]
      exact Tx.part_at (by decide +kernel)
    have e : (Str.ofString "=").cps.toList = [61] := by decide +kernel
    have l1 : (Str.ofString "=" ++ Tx.dec x).length = 1 + (Tx.dec x).length := by rw [Str.length_append, Tx.len_of (Str.ofString "="), e]; rfl
    refine go _ ⟨fun q => ?_, fun c q => ?_, by omega, by rw [pt]; exact Nat.zero_le _⟩ (.inr (.inl (by rw [pt]; show nameB Str.empty = false; decide +kernel))) (by omega)
    · rcases cat_mem.mp q with q | q
      · rw [e] at q
        exact absurd (List.mem_singleton.mp q) (by decide)
      · exact Tx.dec_free (by decide) (by decide) q
    · rcases cat_mem.mp q with q | q
      · rw [e] at q
        rw [List.mem_singleton.mp q]
        decide
      · exact (dec_ok c q).1
  have c9 : Bad (Str.join ⟨#[32]⟩ ((wordsOf zs ns).take k ++ (z ++ "=" ++ repS "1" 41 : Str) :: (wordsOf zs ns).drop (k + 1))) := by
    exact odd _ (by decide +kernel) (by decide +kernel) (by decide +kernel)
  have c10 : Bad (Str.join ⟨#[32]⟩ ((wordsOf zs ns).take k ++ (" " ++ word z x : Str) :: (wordsOf zs ns).drop (k + 1))) := by
    have sp : Str.ofString " " ++ word z x = Str.ofString "" ++ ⟨#[32]⟩ ++ word z x := by
      rw [sp_is, show Str.ofString "" = Str.empty by decide +kernel, Str.empty_append]
    rw [sp, glue, words_take]
    refine bad_in (x := Str.ofString "") hl l6 hn low small empty_good (empty_bad _) (fun y hy => ?_) (by rw [List.length_cons, List.length_drop]; omega) ⟨word z x, List.mem_append_right _ (List.mem_cons_of_mem _ List.mem_cons_self), word_one z x⟩
    rcases List.mem_cons.mp hy with rfl | hy
    · exact word_good lz sx
    · exact gw y (List.drop_subset _ _ hy)
  intro b hb
  rcases List.mem_append.mp hb with hb | hb
  · rcases List.mem_append.mp hb with hb | hb
    · rcases List.mem_cons.mp hb with h | hb
      · rw [h]
        exact c0
      rcases List.mem_cons.mp hb with h | hb
      · rw [h]
        exact c1
      rcases List.mem_cons.mp hb with h | hb
      · rw [h]
        exact c2
      rcases List.mem_cons.mp hb with h | hb
      · rw [h]
        exact c3
      rcases List.mem_cons.mp hb with h | hb
      · rw [h]
        exact c4
      cases hb
    · rcases List.mem_cons.mp hb with h | hb
      · rw [h]
        exact c5
      rcases List.mem_cons.mp hb with h | hb
      · rw [h]
        exact c6
      rcases List.mem_cons.mp hb with h | hb
      · rw [h]
        exact c7
      rcases List.mem_cons.mp hb with h | hb
      · rw [h]
        exact c8
      rcases List.mem_cons.mp hb with h | hb
      · rw [h]
        exact c9
      cases hb
  · rw [List.mem_singleton.mp hb]
    exact c10
theorem bents_good {z : Str} {x : Int} (lz : Low z) (sx : x.natAbs < 10 ^ 40) : ∀ b ∈ bents z x, b.length ≤ 6000 := by
  have zl := (low_asc lz).1
  have dl := Tx.dec_len sx
  have w54 := word_len lz sx
  have c1 : Str.length (Str.ofString "=+") = 2 := by decide +kernel
  have c2 : Str.length (Str.ofString "=-0") = 3 := by decide +kernel
  have c3 : Str.length (Str.ofString "=0") = 2 := by decide +kernel
  have c4 : Str.length (Str.ofString " ") = 1 := by decide +kernel
  have c5 : Str.length (Str.ofString "==") = 2 := by decide +kernel
  have c6 : Str.length (Str.ofString "=") = 1 := by decide +kernel
  have r41 : (repS "1" 41).length = 41 := by decide +kernel
  intro b hb
  rcases List.mem_append.mp hb with hb | hb
  · rcases List.mem_append.mp hb with hb | hb
    · rcases List.mem_cons.mp hb with h | hb
      · rw [h]
        exact (upper_word (a := []) lz sx).1.len
      rcases List.mem_cons.mp hb with h | hb
      · rw [h, Str.length_append, Str.length_append]
        omega
      rcases List.mem_cons.mp hb with h | hb
      · rw [h, Str.length_append]
        omega
      rcases List.mem_cons.mp hb with h | hb
      · rw [h, Str.length_append, Str.length_append]
        omega
      rcases List.mem_cons.mp hb with h | hb
      · rw [h, Str.length_append, Str.length_append]
        omega
      cases hb
    · rcases List.mem_cons.mp hb with h | hb
      · rw [h, Str.length_append]
        omega
      rcases List.mem_cons.mp hb with h | hb
      · rw [h, Str.length_append, Str.length_append]
        omega
      rcases List.mem_cons.mp hb with h | hb
      · rw [h, Str.length_append]
        omega
      rcases List.mem_cons.mp hb with h | hb
      · rw [h, Str.length_append]
        omega
      rcases List.mem_cons.mp hb with h | hb
      · rw [h, Str.length_append, Str.length_append]
        omega
      cases hb
  · rw [List.mem_singleton.mp hb, Str.length_append]
    omega
/-! ### the law's helpers -/
structure Tq (P : Program) (K : PySem.W.Frag) (mg : Str → Option Value) (C CT CF : Addr) : Prop where
  g_Tuning : mg "Tuning" = some (.ref C)
  g_ForkError : mg "ForkError" = some (.ref CF)
  e_BadText : Err1 P K mg "BadText" CT "text" 114
  b_isinstance : mg "isinstance" = none
  b_ValueError : mg "ValueError" = none
  tf : PySem.W.exmOne K (.ref CT) (.ref CF) = some true
  k1 : PySem.W.kitOne K (.ref CT) (.ref CT) = some true
  k2 : PySem.W.kitOne K (.ref CT) (.type "ValueError") = some true
abbrev s__law_refused : Stmt := top 29
theorem sc__law_refused : FnScope ["_law_text", "e"] ["_law_text"] (defScope s__law_refused) := ⟨rfl, rfl, rfl, by decide +kernel, rfl, by decide +kernel, by decide +kernel⟩
def spRefused : Sp := fun vs H Q _ => ∃ x : Str, vs = [.str x] ∧ Bad x ∧ ∀ H', Same H H' → Q (.bl true) H'
theorem ok_refused {f C CT CF : Addr} {fd : FuncData} (F : Fun K "_law_refused" "_law_refused" s__law_refused f fd) (T : Tq P K mg C CT CF) (r_read : Fx.SmX P w K mg base 7 C "read" (spRead C CT)) : FnOk P w K mg base CX0 8 f fd ["_law_text"] spRefused := by
  refine F.ok sc__law_refused (fun vs H Q E h => ?_) (fun cdv A outer s H vs Q E hr h => ?_)
  · obtain ⟨x, rfl, _⟩ := h
    rfl
  · obtain ⟨x, rfl, bx, k⟩ := h
    refine ⟨_, (pss_cons (Fx.ps_try_cl rfl rfl Fx.none0 (fun W pn xe tk _ => (pss_one (ps_expr (Fx.pe_smX r_read hr (by decide) tk (pe_glob (v := .ref _) rfl T.g_Tuning rfl) (pa_cons (pv 0) pa_nil))))) (.named (i := 1) sc__law_refused.nd rfl rfl ⟨rfl, by decide, .inl T.g_ForkError⟩ (fun a oe cls d pn hz hf => ⟨_, (pss_one (ps_ret (pe_and (pe_callB (call_isEA hz hf) (by rfl) T.b_isinstance (by decide +kernel) (pa_cons (pv 1) (pa_cons (pe_glob (v := .ref _) rfl T.e_BadText.g rfl) pa_nil))) (pe_and (pe_callB (call_isEA hz hf) (by rfl) T.b_isinstance (by decide +kernel) (pa_cons (pv 1) (pa_cons (pe_bltn (v := .ty "ValueError") (by rfl) T.b_ValueError (by decide +kernel) rfl) pa_nil))) (pe_one (pe_cmpR op_eq (pe_xfA hz hf (pv 1)) (pv 0) (nomark _))))))), rfl⟩) .nil))
      (pss_one (ps_ret pe_bl))), ?_⟩
    walk_at "rd"
    refine ⟨bx.len, bx.fm, bx.each, bx.few, ?_⟩
    rw [bx.bad]
    intro d H' sH hd hx
    refine ⟨_, T.tf, fun _ ex hx' => ?_, fun q => absurd q (by decide)⟩
    walk_at "rd"
    have hdd : ∀ dd, some d = some dd → ∃ fs, H' dd = some (.xd fs) := fun dd e => by
      injection e with e
      subst e
      exact ⟨_, hx⟩
    refine ⟨T.e_BadText.a.2.1, _, _, _, rfl, (fun u r => r), T.k1, hdd, ?_⟩
    walk_at "rd"
    refine ⟨T.e_BadText.a.2.1, _, _, _, rfl, (fun u r => r), T.k2, hdd, ?_⟩
    walk_at "rd"
    refine ⟨T.e_BadText.a.1, T.e_BadText.a.2.2, ?_⟩
    walk_at "rd"
    refine ⟨d, _, _, rfl, hx, rfl, ?_⟩
    walk_at "rd"
    rw [show decide (V.str x = V.str x) = true from decide_eq_true rfl]
    exact k H' sH
abbrev s__law_spoilt : Stmt := top 30
theorem sc__law_spoilt : FnScope ["_law_words", "_law_k", "_law_way", "_law_name_here", "_law_number", "_law_bent"] ["_law_words", "_law_k", "_law_way"] (defScope s__law_spoilt) := ⟨rfl, rfl, rfl, by decide +kernel, rfl, by decide +kernel, by decide +kernel⟩
def spSpoilt : Sp := fun vs H Q _ => ∃ (p : Addr) (zs : List Str) (ns : List Int) (k way : Nat), vs = [.ref p, .int k, .int way] ∧ H p = some (.lst ((wordsOf zs ns).map V.str)) ∧ zs.length = ns.length ∧ zs.length ≤ 6 ∧ zs.Nodup ∧ (∀ z ∈ zs, Low z) ∧ (∀ n ∈ ns, n.natAbs < 10 ^ 35) ∧ k < zs.length ∧ way < 14 ∧ ∀ x H', Same H H' → Bad x → Q (.str x) H'
theorem ok_spoilt {f : Addr} {fd : FuncData} (F : Fun K "_law_spoilt" "_law_spoilt" s__law_spoilt f fd) (T : Bm mg) : FnOk P w K mg base CX0 1 f fd ["_law_words", "_law_k", "_law_way"] spSpoilt := by
  refine F.ok sc__law_spoilt (fun vs H Q E h => ?_) (fun cdv A outer s H vs Q E hr h => ?_)
  · obtain ⟨p, zs, ns, k, way, rfl, _⟩ := h
    rfl
  · obtain ⟨p, zs, ns, k, way, rfl, hp, hl, l6, hn, low, small, hk, hw, good⟩ := h
    refine ⟨_, (pss_cons (ps_set (i := 3) sc__law_spoilt.nd rfl (by first | exact Or.inl rfl | exact Or.inr rfl) (pe_slice sl_str (pe_ix ix_list (pv 0) (pv 1) (fun _ _ => rfl)) po_none (po_some (pe_bmS PySem.F.plainAttrs_str PySem.F.slot_str_index PySem.F.type_str_index (mt_indexX (W := fun _ _ _ _ => False) rfl Fx.none1) (pe_ix ix_list (pv 0) (pv 1) (fun _ _ => rfl)) (pa_cons pe_str pa_nil)))))
      (C8.pss_cut (ps_set (i := 4) sc__law_spoilt.nd rfl (by first | exact Or.inl rfl | exact Or.inr rfl) (pe_slice sl_str (pe_ix ix_list (pv 0) (pv 1) (fun _ _ => rfl)) (po_some (pe_op op_add (pe_callB call_len (by rfl) T.b_len PySem.boot_len (pa_cons (pv 3) pa_nil)) pe_int)) po_none))
      (C8.pss_cut (ps_if (pt_cmpR op_eq (pv 2) pe_int (nomark _)) (pss_one (ps_ret (pe_join pe_str (pe_op op_cat (pe_op op_cat (pe_slice sl_list (pv 0) po_none (po_some (pv 1))) (pe_lst (pa_cons pe_str pa_nil))) (pe_slice sl_list (pv 0) (po_some (pv 1)) po_none))))) pss_nil)
      (C8.pss_cut (ps_if (pt_cmpR op_eq (pv 2) pe_int (nomark _)) (pss_one (ps_ret (pe_op op_add_str (pe_join pe_str (pv 0)) pe_str))) pss_nil)
      (C8.pss_cut (ps_if (pt_cmpR op_eq (pv 2) pe_int (nomark _)) (pss_one (ps_ret (pe_op op_add_str (pe_join pe_str (pv 0)) pe_str))) pss_nil)
      (C8.pss_cut (ps_set (i := 5) sc__law_spoilt.nd rfl (by first | exact Or.inl rfl | exact Or.inr rfl) (pe_lst (pa_cons (pe_m0 PySem.F.slot_str_upper PySem.F.type_str_upper mt_upper (pe_ix ix_list (pv 0) (pv 1) (fun _ _ => rfl))) (pa_cons (pe_op op_add_str (pe_op op_add_str (pv 3) pe_str) (pv 4)) (pa_cons (pe_op op_add_str (pv 3) pe_str) (pa_cons (pe_op op_add_str (pe_op op_add_str (pv 3) pe_str) (pv 4)) (pa_cons (pe_op op_add_str (pe_op op_add_str (pe_ix ix_list (pv 0) (pv 1) (fun _ _ => rfl)) pe_str) (pe_ix ix_list (pv 0) (pv 1) (fun _ _ => rfl))) pa_nil)))))))
      (C8.pss_cut (ps_set (i := 5) sc__law_spoilt.nd rfl (by first | exact Or.inl rfl | exact Or.inr rfl) (pe_op op_cat (pv 5) (pe_lst (pa_cons (pe_op op_add_str (pv 3) (pv 4)) (pa_cons (pe_op op_add_str (pe_op op_add_str (pv 3) pe_str) (pv 4)) (pa_cons (pe_op op_add_str (pv 3) pe_str) (pa_cons (pe_op op_add_str pe_str (pv 4)) (pa_cons (pe_op op_add_str (pe_op op_add_str (pv 3) pe_str) (pe_op op_rep_str pe_str pe_int)) pa_nil))))))))
      (C8.pss_cut (ps_set (i := 5) sc__law_spoilt.nd rfl (by first | exact Or.inl rfl | exact Or.inr rfl) (pe_op op_cat (pv 5) (pe_lst (pa_cons (pe_op op_add_str pe_str (pe_ix ix_list (pv 0) (pv 1) (fun _ _ => rfl))) pa_nil))))
      (pss_one (ps_ret (pe_join pe_str (pe_op op_cat (pe_op op_cat (pe_slice sl_list (pv 0) po_none (po_some (pv 1))) (pe_lst (pa_cons (pe_ix ix_list (pv 5) (pe_op op_sub (pv 2) pe_int) (fun _ _ => rfl)) pa_nil))) (pe_slice sl_list (pv 0) (po_some (pe_op op_add (pv 1) pe_int)) po_none))))))))))))), ?_⟩
    have hz : zs[k]? = some zs[k] := List.getElem?_eq_getElem hk
    have hx : ns[k]? = some ns[k] := List.getElem?_eq_getElem (by omega)
    have mz := List.mem_of_getElem? hz
    have mx := List.mem_of_getElem? hx
    generalize zs[k] = z at *
    generalize ns[k] = x at *
    have hwk : (wordsOf zs ns)[k]? = some (word z x) := by
      unfold wordsOf
      rw [List.getElem?_map, show (zs.zip ns)[k]? = some (z, x) from List.getElem?_zip_eq_some.mpr ⟨hz, hx⟩]
      rfl
    have hvk : ((wordsOf zs ns).map V.str)[k]? = some (.str (word z x)) := by rw [List.getElem?_map, hwk]; rfl
    have gw : ∀ y ∈ wordsOf zs ns, GoodW y := words_good low (fun n h => Nat.lt_trans (small n h) (by decide +kernel))
    have ix : atI ((wordsOf zs ns).map V.str) (k : Int) = some (.str (word z x)) := at_of (j := k) rfl hvk
    walk_at "rd"
    have no := idx_at (n := x) (low z mz)
    refine ⟨fun j e => ?_, fun e => absurd (no.symm.trans e) (by simp)⟩
    obtain rfl : z.length = j := Option.some.inj (no.symm.trans e)
    clear e
    walk_at "rd"
    have w54 := word_len (low z mz) (Nat.lt_trans (small x mx) (by decide +kernel))
    refine ⟨Nat.le_trans w54 (by decide), ?_⟩
    rw [cut_name]
    walk_at "rd"
    refine ⟨fun σ' H1 => σ' = [some (.ref p), some (.int k), some (.int way), some (.str z), some (.str (Tx.dec x)), none] ∧ H = H1, ?_, ?_⟩
    · walk_at "rd"
      refine ⟨_, z.length, rfl, ⟨Nat.le_trans (low_asc (low z mz)).1 (by decide), rfl⟩, ?_⟩
      walk_at "rd"
      refine ⟨Nat.le_trans w54 (by decide), ?_⟩
      rw [cut_rest]
      exact ⟨rfl, rfl⟩
    rintro σ' H1 ⟨rfl, rfl⟩
    refine ⟨fun σ' H1 => σ' = [some (.ref p), some (.int k), some (.int way), some (.str z), some (.str (Tx.dec x)), none] ∧ H = H1 ∧ way ≠ 0, ?_, ?_⟩
    · walk_at "rd"
      refine ite2 (fun c => ?_) (fun c => ?_)
      · unfold tRet tM1 tC
        refine ⟨⟨_, rfl⟩, ?_⟩
        walk_at "rd"
        refine ⟨p, _, rfl, SqL.of hp, fun a1 n1 => ?_⟩
        rw [cut_to]
        have s1 := Same.new (o := .lst (((wordsOf zs ns).take k).map V.str)) (Same.refl H) n1
        have f1 : (upd H a1 (HO.lst (((wordsOf zs ns).take k).map V.str))) a1 = some (.lst (((wordsOf zs ns).take k).map V.str)) := upd_same
        generalize upd H a1 (HO.lst (((wordsOf zs ns).take k).map V.str)) = H1 at *
        walk_at "rd"
        refine ⟨by decide, fun a2 n2 => ?_⟩
        have s2 := Same.new (o := .lst [.str ""]) s1 n2
        have f1 := (upd_ne (o := .lst [.str ""]) (ne_of_none f1 n2)).trans f1
        have f2 : (upd H1 a2 (HO.lst [.str ""])) a2 = some (.lst [.str ""]) := upd_same
        generalize upd H1 a2 (HO.lst [.str ""]) = H2 at *
        have num := words_num zs ns
        refine ⟨a1, a2, _, _, rfl, rfl, f1, f2, ?_, fun a3 n3 => ?_⟩
        · rw [List.length_map, List.length_take]
          exact Nat.le_trans (show min k (wordsOf zs ns).length + 1 ≤ 7 by omega) (by decide)
        have s3 := Same.new (o := .lst (((wordsOf zs ns).take k).map V.str ++ [.str ""])) s2 n3
        have f3 : (upd H2 a3 (HO.lst (((wordsOf zs ns).take k).map V.str ++ [.str ""]))) a3 = some (.lst (((wordsOf zs ns).take k).map V.str ++ [.str ""])) := upd_same
        generalize upd H2 a3 (HO.lst (((wordsOf zs ns).take k).map V.str ++ [.str ""])) = H3 at *
        walk_at "rd"
        refine ⟨p, _, rfl, SqL.of (s3 _ _ hp), fun a4 n4 => ?_⟩
        rw [cut_from]
        have s4 := Same.new (o := .lst (((wordsOf zs ns).drop k).map V.str)) s3 n4
        have f3 := (upd_ne (o := .lst (((wordsOf zs ns).drop k).map V.str)) (ne_of_none f3 n4)).trans f3
        refine ⟨a3, a4, _, _, rfl, rfl, f3, upd_same, ?_, fun a5 n5 => ?_⟩
        · rw [List.length_append, List.length_map, List.length_map, List.length_take, List.length_drop]
          exact Nat.le_trans (show min k (wordsOf zs ns).length + 1 + ((wordsOf zs ns).length - k) ≤ 14 by omega) (by decide)
        have s5 := Same.new (o := .lst (((wordsOf zs ns).take k).map V.str ++ [.str ""] ++ ((wordsOf zs ns).drop k).map V.str)) s4 n5
        have b := bad_in (k := k) (x := "") (r := (wordsOf zs ns).drop k) hl l6 hn low small empty_good (empty_bad _) (fun y hy => gw y (List.drop_subset k _ hy)) (by rw [List.length_drop]; omega) ⟨word z x, List.mem_append_right _ (List.mem_cons_of_mem _ (List.mem_of_getElem? (i := 0) (by rw [List.getElem?_drop, Nat.add_zero]; exact hwk))), word_one z x⟩
        rw [← words_take] at b
        have gl : ∀ y ∈ (wordsOf zs ns).take k ++ (Str.ofString "") :: (wordsOf zs ns).drop k, GoodW y := fun y hy => by
          rcases List.mem_append.mp hy with hy | hy
          · exact gw y (List.mem_of_mem_take hy)
          · rcases List.mem_cons.mp hy with rfl | hy
            · exact empty_good
            · exact gw y (List.drop_subset k _ hy)
        refine ⟨_, a5, (wordsOf zs ns).take k ++ (Str.ofString "") :: (wordsOf zs ns).drop k, rfl, rfl, .inl (SqL.of (upd_same.trans ?_)), join_ok gl ?_, ?_⟩
        · rw [List.map_append, List.map_cons, List.append_assoc]
          rfl
        · rw [List.length_append, List.length_cons, List.length_take, List.length_drop]
          omega
        · rw [txt_join]
          exact good _ _ s5 b
      · exact ⟨rfl, rfl, fun e => c (by rw [e]; rfl)⟩
    rintro σ' H1 ⟨rfl, rfl, n0⟩
    refine ⟨fun σ' H1 => σ' = [some (.ref p), some (.int k), some (.int way), some (.str z), some (.str (Tx.dec x)), none] ∧ H = H1 ∧ way ≠ 1, ?_, ?_⟩
    · walk_at "rd"
      refine ite2 (fun c => ?_) (fun c => ?_)
      · unfold tRet tOp tM1 tC
        refine ⟨⟨_, rfl⟩, ?_⟩
        walk_at "rd"
        refine ⟨_, p, wordsOf zs ns, rfl, rfl, .inl (SqL.of hp), join_ok gw ?_, ?_⟩
        · have := words_num zs ns
          omega
        walk_at "rd"
        rw [txt_join]
        have few := words_num zs ns
        have jl := join_small gw (by omega)
        have one : Str.length (Str.ofString " ") = 1 := by decide +kernel
        refine ⟨Nat.le_trans (show _ ≤ 90000 by omega) (by decide), ?_⟩
        have b := bad_in (k := zs.length) (x := "") (r := []) hl l6 hn low small empty_good (empty_bad _) (fun y hy => by cases hy) (Nat.zero_le _) ⟨word z x, List.mem_append_left _ (by rw [List.take_length, hl, List.take_length]; exact List.mem_of_getElem? hwk), word_one z x⟩
        rw [List.take_length, show ns.take zs.length = ns by rw [hl, List.take_length], join_snoc _ _ (fun e => by rw [e] at hwk; cases hwk)] at b
        rw [show Str.ofString " " = ⟨#[32]⟩ from sp_is]
        have b : Bad (Str.join ⟨#[32]⟩ (wordsOf zs ns) ++ ⟨#[32]⟩) := by
          have e0 : Str.ofString "" = Str.empty := by decide +kernel
          have b : Bad (Str.join ⟨#[32]⟩ (wordsOf zs ns) ++ ⟨#[32]⟩ ++ Str.ofString "") := b
          rw [e0, Str.append_empty] at b
          exact b
        exact good _ _ (Same.refl H) b
      · exact ⟨rfl, rfl, fun e => c (by rw [e]; rfl)⟩
    rintro σ' H1 ⟨rfl, rfl, n1⟩
    refine ⟨fun σ' H1 => σ' = [some (.ref p), some (.int k), some (.int way), some (.str z), some (.str (Tx.dec x)), none] ∧ H = H1 ∧ way ≠ 2, ?_, ?_⟩
    · walk_at "rd"
      refine ite2 (fun c => ?_) (fun c => ?_)
      · unfold tRet tOp tM1 tC
        refine ⟨⟨_, rfl⟩, ?_⟩
        walk_at "rd"
        have few := words_num zs ns
        refine ⟨_, p, wordsOf zs ns, rfl, rfl, .inl (SqL.of hp), join_ok gw (by omega), ?_⟩
        walk_at "rd"
        rw [txt_join]
        have jl := join_small gw (by omega)
        have one : Str.length (Str.ofString "\n") = 1 := by decide +kernel
        refine ⟨Nat.le_trans (show _ ≤ 90000 by omega) (by decide), ?_⟩
        have hzm : zs[zs.length - 1]? = some zs[zs.length - 1] := List.getElem?_eq_getElem (by omega)
        have hxm : ns[zs.length - 1]? = some ns[zs.length - 1] := List.getElem?_eq_getElem (by omega)
        have mzm := List.mem_of_getElem? hzm
        have mxm := List.mem_of_getElem? hxm
        generalize zs[zs.length - 1] = zm at *
        generalize ns[zs.length - 1] = xm at *
        have sx := Nat.lt_trans (small xm mxm) (show 10 ^ 35 < 10 ^ 40 by decide +kernel)
        have ws : wordsOf zs ns = wordsOf (zs.take (zs.length - 1)) (ns.take (zs.length - 1)) ++ [word zm xm] := by
          have ez : zs = zs.take (zs.length - 1) ++ [zm] := by rw [← take_snoc hzm, show zs.length - 1 + 1 = zs.length by omega, List.take_length]
          have en : ns = ns.take (zs.length - 1) ++ [xm] := by rw [← take_snoc hxm, show zs.length - 1 + 1 = ns.length by omega, List.take_length]
          have e2 : wordsOf zs ns = wordsOf (zs.take (zs.length - 1) ++ [zm]) (ns.take (zs.length - 1) ++ [xm]) := by rw [← ez, ← en]
          rw [e2]
          unfold wordsOf
          rw [List.zip_append (by rw [List.length_take, List.length_take, hl]), List.map_append]
          rfl
        have nl : (Str.ofString "\n").cps.toList = [10] := by decide +kernel
        have wn : word zm xm ++ Str.ofString "\n" = zm ++ "=" ++ (Tx.dec xm ++ Str.ofString "\n") := by
          unfold word
          simp only [Str.append_assoc]
        have dl : (Tx.dec xm ++ Str.ofString "\n").cps.toList = (Tx.dec xm).cps.toList ++ [10] := by
          rw [Str.cps_append, Array.toList_append, nl]
        have gn : GoodW (word zm xm ++ Str.ofString "\n") := by
          rw [wn]
          refine odd_good (low zm mzm) (fun c hc => ?_) ?_
          · rw [dl] at hc
            rcases List.mem_append.mp hc with hc | hc
            · rcases Tx.dec_signs xm c hc with e | e <;> omega
            · rw [List.mem_singleton.mp hc]
              decide
          · have := Tx.dec_len sx
            rw [Str.length_append]
            omega
        have bn : BadW (zs.take (zs.length - 1)) (word zm xm ++ Str.ofString "\n") := by
          rw [wn]
          exact odd_bad (low zm mzm) (pitch_false (c := 10) (by rw [dl]; exact List.mem_append_right _ List.mem_cons_self) (by decide) (by decide +kernel))
        have b := bad_in (k := zs.length - 1) (x := word zm xm ++ Str.ofString "\n") (r := []) hl l6 hn low small gn bn (fun y hy => by cases hy) (Nat.zero_le _) ⟨_, List.mem_append_right _ List.mem_cons_self, by rw [Str.length_append]; omega⟩
        rw [← join_tail, ← ws] at b
        exact good _ _ (Same.refl H) b
      · exact ⟨rfl, rfl, fun e => c (by rw [e]; rfl)⟩
    rintro σ' H1 ⟨rfl, rfl, n2⟩
    have lz := (low_asc (low z mz)).1
    have ld := Tx.dec_len (Nat.lt_trans (small x mx) (show 10 ^ 35 < 10 ^ 40 by decide +kernel))
    have big : 10000 ≤ sizeLine := by decide
    have c1 : Str.length (Str.ofString "=+") = 2 := by decide +kernel
    have c2 : Str.length (Str.ofString "=-0") = 3 := by decide +kernel
    have c3 : Str.length (Str.ofString "=0") = 2 := by decide +kernel
    have c4 : Str.length (Str.ofString " ") = 1 := by decide +kernel
    have c5 : Str.length (Str.ofString "==") = 2 := by decide +kernel
    have c6 : Str.length (Str.ofString "=") = 1 := by decide +kernel
    have c7 : Str.length (Str.ofString "1") = 1 := by decide +kernel
    refine ⟨fun σ' H1 => ∃ b1 : Addr, σ' = [some (.ref p), some (.int k), some (.int way), some (.str z), some (.str (Tx.dec x)), some (.ref b1)] ∧ H1 b1 = some (.lst ((bent1 z x).map V.str)) ∧ Same H H1, ?_, ?_⟩
    · walk_at "rd"
      refine ⟨⟨_, rfl⟩, ?_⟩
      walk_at "rd"
      refine ⟨Nat.le_trans w54 (by decide), ?_⟩
      walk_at "rd"
      refine ⟨by omega, ?_⟩
      walk_at "rd"
      refine ⟨by rw [Str.length_append]; omega, ?_⟩
      walk_at "rd"
      refine ⟨by omega, ?_⟩
      walk_at "rd"
      refine ⟨by omega, ?_⟩
      walk_at "rd"
      refine ⟨by rw [Str.length_append]; omega, ?_⟩
      walk_at "rd"
      refine ⟨by omega, ?_⟩
      walk_at "rd"
      refine ⟨by rw [Str.length_append]; omega, ?_⟩
      walk_at "rd"
      refine ⟨by show 5 ≤ sizeLine; omega, fun a1 n1 => ?_⟩
      exact ⟨a1, rfl, upd_same, Same.new (Same.refl H) n1⟩
    rintro σ' H1 ⟨b1, rfl, hb1, sb1⟩
    have hp1 := sb1 _ _ hp
    refine ⟨fun σ' H2 => ∃ b2 : Addr, σ' = [some (.ref p), some (.int k), some (.int way), some (.str z), some (.str (Tx.dec x)), some (.ref b2)] ∧ H2 b2 = some (.lst ((bent1 z x ++ bent2 z x).map V.str)) ∧ Same H H2, ?_, ?_⟩
    · walk_at "rd"
      refine ⟨by omega, ?_⟩
      walk_at "rd"
      refine ⟨by omega, ?_⟩
      walk_at "rd"
      refine ⟨by rw [Str.length_append]; omega, ?_⟩
      walk_at "rd"
      refine ⟨by omega, ?_⟩
      walk_at "rd"
      refine ⟨by omega, ?_⟩
      walk_at "rd"
      refine ⟨by omega, ?_⟩
      walk_at "rd"
      refine ⟨by decide, by decide, by omega, by omega, ?_⟩
      walk_at "rd"
      have r41 : (repS "1" 41).length = 41 := by decide +kernel
      refine ⟨by
        show (z ++ Str.ofString "=").length + (repS "1" 41).length ≤ sizeLine
        rw [Str.length_append]
        omega, ?_⟩
      walk_at "rd"
      refine ⟨by show 5 ≤ sizeLine; omega, fun a1 n1 => ?_⟩
      have hb1 := (upd_ne (o := .lst ((bent2 z x).map V.str)) (ne_of_none hb1 n1)).trans hb1
      have s2 := Same.new (o := .lst ((bent2 z x).map V.str)) sb1 n1
      refine ⟨b1, a1, _, _, rfl, rfl, hb1, upd_same, by show 5 + 5 ≤ sizeLine; omega, fun a2 n2 => ?_⟩
      exact ⟨a2, rfl, upd_same, Same.new s2 n2⟩
    rintro σ' H2 ⟨b2, rfl, hb2, sb2⟩
    refine ⟨fun σ' H3 => ∃ b3 : Addr, σ' = [some (.ref p), some (.int k), some (.int way), some (.str z), some (.str (Tx.dec x)), some (.ref b3)] ∧ H3 b3 = some (.lst ((bents z x).map V.str)) ∧ Same H H3, ?_, ?_⟩
    · have hp2 := sb2 _ _ hp
      walk_at "rd"
      refine ⟨by omega, ?_⟩
      walk_at "rd"
      refine ⟨by show 1 ≤ sizeLine; omega, fun a1 n1 => ?_⟩
      have hb2 := (upd_ne (o := .lst [.str (" " ++ word z x)]) (ne_of_none hb2 n1)).trans hb2
      have s2 := Same.new (o := .lst [.str (" " ++ word z x)]) sb2 n1
      refine ⟨b2, a1, _, _, rfl, rfl, hb2, upd_same, by show 10 + 1 ≤ sizeLine; omega, fun a2 n2 => ?_⟩
      exact ⟨a2, rfl, upd_same, Same.new s2 n2⟩
    rintro σ' H3 ⟨b3, rfl, hb3, sb3⟩
    have hp3 := sb3 _ _ hp
    unfold tRet tM1 tC
    refine ⟨⟨_, rfl⟩, ?_⟩
    walk_at "rd"
    refine ⟨p, _, rfl, SqL.of hp3, fun a1 n1 => ?_⟩
    rw [cut_to]
    have s1 := Same.new (o := .lst (((wordsOf zs ns).take k).map V.str)) sb3 n1
    have hb3 := (upd_ne (o := .lst (((wordsOf zs ns).take k).map V.str)) (ne_of_none hb3 n1)).trans hb3
    have f1 : (upd H3 a1 (HO.lst (((wordsOf zs ns).take k).map V.str))) a1 = some (.lst (((wordsOf zs ns).take k).map V.str)) := upd_same
    generalize upd H3 a1 (HO.lst (((wordsOf zs ns).take k).map V.str)) = H1 at *
    have w3 : way - 3 < 11 := by omega
    obtain ⟨b, hb⟩ : ∃ b, (bents z x)[way - 3]? = some b := ⟨_, List.getElem?_eq_getElem (show way - 3 < (bents z x).length from w3)⟩
    have hbl : ((bents z x).map V.str)[way - 3]? = some (.str b) := by rw [List.getElem?_map, hb]; rfl
    walk_at "rd"
    refine ⟨b3, _, _, _, rfl, rfl, SqL.of hb3, at_of (j := way - 3) (by omega) hbl, ?_⟩
    walk_at "rd"
    have num := words_num zs ns
    refine ⟨by show 1 ≤ sizeLine; omega, fun a2 n2 => ?_⟩
    have s2 := Same.new (o := .lst [.str b]) s1 n2
    have f1 := (upd_ne (o := .lst [.str b]) (ne_of_none f1 n2)).trans f1
    have f2 : (upd H1 a2 (HO.lst [.str b])) a2 = some (.lst [.str b]) := upd_same
    generalize upd H1 a2 (HO.lst [.str b]) = H2 at *
    refine ⟨a1, a2, _, _, rfl, rfl, f1, f2, ?_, fun a3 n3 => ?_⟩
    · rw [List.length_map, List.length_take]
      exact Nat.le_trans (show min k (wordsOf zs ns).length + 1 ≤ 7 by omega) (by decide)
    have s3 := Same.new (o := .lst (((wordsOf zs ns).take k).map V.str ++ [.str b])) s2 n3
    have f3 : (upd H2 a3 (HO.lst (((wordsOf zs ns).take k).map V.str ++ [.str b]))) a3 = some (.lst (((wordsOf zs ns).take k).map V.str ++ [.str b])) := upd_same
    generalize upd H2 a3 (HO.lst (((wordsOf zs ns).take k).map V.str ++ [.str b])) = H4 at *
    walk_at "rd"
    refine ⟨p, _, rfl, SqL.of (s3 _ _ hp), fun a4 n4 => ?_⟩
    rw [show (k : Int) + 1 = ((k + 1 : Nat) : Int) by omega, cut_from]
    have s4 := Same.new (o := .lst (((wordsOf zs ns).drop (k + 1)).map V.str)) s3 n4
    have f3 := (upd_ne (o := .lst (((wordsOf zs ns).drop (k + 1)).map V.str)) (ne_of_none f3 n4)).trans f3
    refine ⟨a3, a4, _, _, rfl, rfl, f3, upd_same, ?_, fun a5 n5 => ?_⟩
    · rw [List.length_append, List.length_map, List.length_map, List.length_take, List.length_drop]
      exact Nat.le_trans (show min k (wordsOf zs ns).length + 1 + ((wordsOf zs ns).length - (k + 1)) ≤ 14 by omega) (by decide)
    have s5 := Same.new (o := .lst (((wordsOf zs ns).take k).map V.str ++ [.str b] ++ ((wordsOf zs ns).drop (k + 1)).map V.str)) s4 n5
    have bb := bad_bent hl l6 hn low small hz hx b (List.mem_of_getElem? hb)
    have bl : b.length ≤ 6000 := (bents_good (low z mz) (Nat.lt_trans (small x mx) (by decide +kernel)) b (List.mem_of_getElem? hb))
    refine ⟨_, a5, (wordsOf zs ns).take k ++ b :: (wordsOf zs ns).drop (k + 1), rfl, rfl, .inl (SqL.of (upd_same.trans ?_)), ?_, ?_⟩
    · rw [List.map_append, List.map_cons, List.append_assoc]
      rfl
    · have a := StrLaws.sumLen_le (B := 6000) ((wordsOf zs ns).take k ++ b :: (wordsOf zs ns).drop (k + 1)) fun y hy => by
        rcases List.mem_append.mp hy with hy | hy
        · exact (gw y (List.mem_of_mem_take hy)).len
        · rcases List.mem_cons.mp hy with rfl | hy
          · exact bl
          · exact (gw y (List.drop_subset _ _ hy)).len
      have l : ((wordsOf zs ns).take k ++ b :: (wordsOf zs ns).drop (k + 1)).length ≤ 14 := by
        rw [List.length_append, List.length_cons, List.length_take, List.length_drop]
        omega
      rw [c4]
      omega
    · rw [txt_join]
      exact good _ _ s5 bb
end
end Fk

namespace Fk
open PySem L2
local macro_rules | `(tactic| walk_at "rdc") => `(tactic| (first | exact Or.inl ⟨by decide, by decide⟩ | exact Or.inr ⟨by decide, by decide⟩ | exact ⟨by decide, by decide⟩ | exact Or.inl ⟨by omega, by omega⟩ | exact Or.inr ⟨by omega, by omega⟩ | ((show (0 : Int) < _); (first | decide | omega)) | exact ⟨by decide, by decide, by decide⟩ | exact ⟨by omega, by assumption⟩))
local macro_rules | `(tactic| walk_at "hp") => `(tactic| (first | exact upd_same | assumption | ((rw [upd_ne (by assumption)]); (first | exact upd_same | assumption | ((rw [upd_ne (by assumption)]); (first | exact upd_same | assumption | ((rw [upd_ne (by assumption)]); (first | exact upd_same | assumption))))))))
local macro_rules | `(tactic| walk_at "r1") => `(tactic| (first | refine ⟨_, rfl, ?_⟩ | refine ⟨_, _, rfl, rfl, ?_⟩ | refine ⟨_, _, rfl, ?_⟩ | refine Or.inl ⟨_, rfl, ?_⟩ | refine ⟨rfl, ?_⟩ | refine ⟨(by walk_at "rdc"), ?_⟩ | refine ⟨_, _, _, _, rfl, rfl, SqL.of (by walk_at "hp"), rfl, ?_⟩ | refine ⟨_, _, _, _, rfl, rfl, (by walk_at "hp"), rfl, ?_⟩ | refine ⟨_, _, _, _, rfl, rfl, SqL.of (by walk_at "hp"), by assumption, ?_⟩))
local macro_rules | `(tactic| walk_at "rd") => `(tactic| (repeat walk_at "r1"))
--#make Tuning
--#ty law _law_script=l _law_names_here=l _law_names_here[]=s _law_pitches=l _law_tuning=o _law_text=s _law_words=l _law_words[]=s _law_far=l _law_number=s _law_long=i
--#ret _law_is_tuning b
--#ret _law_refused b
--#ret _law_spoilt s
--#ret _law_names l
--#ret read o
--#statics read
--#cut law 1 2 3 4 5 6 7 8 9 10 11 12 13
section
variable {P : Program} {w : World} {K : PySem.W.Frag} {mg : Str → Option Value} {base : Heap}
theorem rep_len (z : Str) (n : Nat) : (repS z n).length = n * z.length := by
  rw [Tx.len_of, Tx.len_of z]
  show ((List.replicate n z.cps.toList).flatten).length = _
  rw [List.length_flatten, List.map_replicate, List.sum_replicate_nat]
theorem rep_mem {z : Str} {n c : Nat} (h : c ∈ (repS z n).cps.toList) : c ∈ z.cps.toList := by
  have h : c ∈ (List.replicate n z.cps.toList).flatten := h
  obtain ⟨l, hl, hc⟩ := List.mem_flatten.mp h
  rw [(List.mem_replicate.mp hl).2] at hc
  exact hc
theorem long_false {d : Str} (h : 42 ≤ d.length) : pitchB d = false := by
  have l : 41 ≤ (Txt.removeprefix d "-").length := by
    rw [StrLaws.removeprefix_eq]
    split
    · rw [Tx.len_of]
      show 41 ≤ ((d.cps.toList.drop (Str.length (Str.ofString "-"))).take (d.length - Str.length (Str.ofString "-"))).length
      rw [Tx.minus_is, List.length_take, List.length_drop, ← Tx.len_of]
      show 41 ≤ min (d.length - 1) (d.length - 1)
      omega
    · omega
  unfold pitchB numB
  rw [decide_eq_true (show (40 : Int) < ((Txt.removeprefix d "-").length : Int) by omega)]
  simp
theorem bad_number : ∀ d : Str, d ∈ (["-007", "-" ++ repS "1" 41, repS "9" 5000, "-" ++ repS "3" 5000, "--1", "-"] : List Str) → pitchB d = false ∧ d.length ≤ 5900 ∧ ∀ c ∈ d.cps.toList, c < 128 ∧ c ≠ 32 := by
  have m1 : Str.length (Str.ofString "-") = 1 := by decide +kernel
  have n1 : Str.length (Str.ofString "1") = 1 := by decide +kernel
  have n3 : Str.length (Str.ofString "3") = 1 := by decide +kernel
  have n9 : Str.length (Str.ofString "9") = 1 := by decide +kernel
  have r1 := rep_len "1" 41
  have r3 := rep_len "3" 5000
  have r9 := rep_len "9" 5000
  have cm : ∀ c ∈ (Str.ofString "-").cps.toList, c < 128 ∧ c ≠ 32 := by decide +kernel
  have c1 : ∀ c ∈ (Str.ofString "1").cps.toList, c < 128 ∧ c ≠ 32 := by decide +kernel
  have c3 : ∀ c ∈ (Str.ofString "3").cps.toList, c < 128 ∧ c ≠ 32 := by decide +kernel
  have c9 : ∀ c ∈ (Str.ofString "9").cps.toList, c < 128 ∧ c ≠ 32 := by decide +kernel
  intro d hd
  rcases List.mem_cons.mp hd with h | hd
  · rw [h]
    exact ⟨by decide +kernel, by decide +kernel, by decide +kernel⟩
  rcases List.mem_cons.mp hd with h | hd
  · rw [h]
    refine ⟨long_false (by rw [Str.length_append]; omega), by rw [Str.length_append]; omega, fun c hc => ?_⟩
    rcases cat_mem.mp hc with hc | hc
    · exact cm c hc
    · exact c1 c (rep_mem hc)
  rcases List.mem_cons.mp hd with h | hd
  · rw [h]
    exact ⟨long_false (by omega), by omega, fun c hc => c9 c (rep_mem hc)⟩
  rcases List.mem_cons.mp hd with h | hd
  · rw [h]
    refine ⟨long_false (by rw [Str.length_append]; omega), by rw [Str.length_append]; omega, fun c hc => ?_⟩
    rcases cat_mem.mp hc with hc | hc
    · exact cm c hc
    · exact c3 c (rep_mem hc)
  rcases List.mem_cons.mp hd with h | hd
  · rw [h]
    exact ⟨by decide +kernel, by decide +kernel, by decide +kernel⟩
  rcases List.mem_cons.mp hd with h | hd
  · rw [h]
    exact ⟨by decide +kernel, by decide +kernel, by decide +kernel⟩
  cases hd
theorem far_words {zs : List Str} {ns : List Int} {i : Nat} {z : Str} {x : Int} (hl : zs.length = ns.length) : (wordsOf zs ns).take i ++ word z x :: (wordsOf zs ns).drop i = wordsOf (zs.take i ++ z :: zs.drop i) (ns.take i ++ x :: ns.drop i) := by
  rw [words_take, words_drop]
  unfold wordsOf
  rw [List.zip_append (by rw [List.length_take, List.length_take, hl]), List.map_append]
  rfl
theorem far_bad {zs : List Str} {ns : List Int} {i : Nat} {z : Str} {x : Int} (hl : zs.length = ns.length) (l5 : zs.length ≤ 5) (low : ∀ z ∈ zs, Low z) (small : ∀ n ∈ ns, n.natAbs < 10 ^ 40) (hz : z ∈ zs) (hx : x ∈ ns) :
    (∀ y ∈ (wordsOf zs ns).take i ++ word z x :: (wordsOf zs ns).drop i, GoodW y) ∧ ((wordsOf zs ns).take i ++ word z x :: (wordsOf zs ns).drop i).length ≤ 14 ∧ Bad (Str.join ⟨#[32]⟩ ((wordsOf zs ns).take i ++ word z x :: (wordsOf zs ns).drop i)) := by
  have few := words_num zs ns
  have gw := words_good low small
  have g : ∀ y ∈ (wordsOf zs ns).take i ++ word z x :: (wordsOf zs ns).drop i, GoodW y := fun y hy => by
    rcases List.mem_append.mp hy with hy | hy
    · exact gw y (List.mem_of_mem_take hy)
    · rcases List.mem_cons.mp hy with rfl | hy
      · exact word_good (low z hz) (small x hx)
      · exact gw y (List.drop_subset _ _ hy)
  have n14 : ((wordsOf zs ns).take i ++ word z x :: (wordsOf zs ns).drop i).length ≤ 14 := by
    rw [List.length_append, List.length_cons, List.length_take, List.length_drop]
    omega
  refine ⟨g, n14, bad_join g n14 ⟨word z x, List.mem_append_right _ List.mem_cons_self, word_one z x⟩ ?_⟩
  rw [far_words hl]
  have lo : ∀ y ∈ zs.take i ++ z :: zs.drop i, y ∈ zs := fun y hy => by
    rcases List.mem_append.mp hy with hy | hy
    · exact List.mem_of_mem_take hy
    · rcases List.mem_cons.mp hy with rfl | hy
      · exact hz
      · exact List.drop_subset _ _ hy
  have lx : ∀ y ∈ ns.take i ++ x :: ns.drop i, y ∈ ns := fun y hy => by
    rcases List.mem_append.mp hy with hy | hy
    · exact List.mem_of_mem_take hy
    · rcases List.mem_cons.mp hy with rfl | hy
      · exact hx
      · exact List.drop_subset _ _ hy
  refine read_dup (a := []) (b := []) ?_ List.nodup_nil ?_ (fun y hy => low y (lo y hy)) (fun y hy => small y (lx y hy))
  · rw [List.length_append, List.length_append, List.length_cons, List.length_cons, List.length_take, List.length_take, List.length_drop, List.length_drop, hl]
  · intro hn
    have hn : (zs.take i ++ z :: zs.drop i).Nodup := hn
    have p := (List.perm_middle (l₁ := zs.take i) (l₂ := zs.drop i) (a := z)).nodup_iff.mp hn
    rw [List.take_append_drop] at p
    exact (List.nodup_cons.mp p).1 hz
theorem zye_eq : Str.ofString "zyzyzyzyzyzy=" = zyS ++ Str.ofString "=" := by decide +kernel
theorem end_bad {zs : List Str} {ns : List Int} {d : Str} (hl : zs.length = ns.length) (l5 : zs.length ≤ 5) (hn : zs.Nodup) (low : ∀ z ∈ zs, Low z) (small : ∀ n ∈ ns, n.natAbs < 10 ^ 35) (d1 : pitchB d = false) (d2 : d.length ≤ 5900) (d3 : ∀ c ∈ d.cps.toList, c < 128 ∧ c ≠ 32) :
    GoodW (Str.ofString "zyzyzyzyzyzy=" ++ d) ∧ Bad (Str.join ⟨#[32]⟩ (wordsOf zs ns ++ [Str.ofString "zyzyzyzyzyzy=" ++ d])) := by
  rw [zye_eq]
  have g := odd_good low_zy d3 d2
  refine ⟨g, ?_⟩
  have b := bad_in (k := zs.length) (r := []) hl (by omega) hn low small g (odd_bad low_zy d1) (fun y hy => by cases hy) (Nat.zero_le _) ⟨_, List.mem_append_right _ List.mem_cons_self, by
    have c6 : Str.length (Str.ofString "=") = 1 := by decide +kernel
    rw [Str.length_append, Str.length_append]
    show 1 ≤ _ + Str.length (Str.ofString "=") + _
    omega⟩
  rw [List.take_length, show ns.take zs.length = ns by rw [hl, List.take_length]] at b
  exact b
structure Tl (K : PySem.W.Frag) (mg : Str → Option Value) (C : Addr) : Prop where
  cls : Cls K C
  g_Tuning : mg "Tuning" = some (.ref C)
  b_len : mg "len" = none
  b_list : mg "list" = none
  b_range : mg "range" = none
  b_str : mg "str" = none
  b_int : mg "int" = none
  b_isinstance : mg "isinstance" = none
def spLaw (K : PySem.W.Frag) : Sp := fun vs H Q _ => ∃ (a : Addr) (ns : List Int), vs = [.ref a] ∧ SqL K H a (ns.map V.int) ∧ ns.length ≤ 63 ∧ ∀ H', Q (.bl true) H'
abbrev s_law : Stmt := top 31
theorem sc_law : FnScope ["_law_script", "_law_bag_here", "_law_names_here", "_law_pitches", "_law_k", "_law_words", "_law_text", "_law_far", "_law_number", "_law_long", "_law_tuning", "_law_name_here"] ["_law_script"] (defScope s_law) := ⟨rfl, rfl, rfl, by decide +kernel, rfl, by decide +kernel, by decide +kernel⟩
theorem ok_law {f C CT : Addr} {fd : FuncData} (F : Fun K "law" "law" s_law f fd) (T : Tl K mg C) (c__law_bag : C8.Cal P w K mg base 1 "_law_bag" (spBag K) []) (c__law_take : C8.Cal P w K mg base 2 "_law_take" spTake []) (c__law_names : C8.Cal P w K mg base 4 "_law_names" spNames []) (c__law_pitch : C8.Cal P w K mg base 3 "_law_pitch" spPitch [])
    (c__law_is_tuning : C8.Cal P w K mg base 3 "_law_is_tuning" (spIsTuning C) []) (c__law_refused : C8.Cal P w K mg base 8 "_law_refused" spRefused []) (c__law_spoilt : C8.Cal P w K mg base 1 "_law_spoilt" spSpoilt []) (r_read : Fx.SmX P w K mg base 7 C "read" (spRead C CT)) :
    FnOk P w K mg base CX0 10 f fd ["_law_script"] (spLaw K) := by
  refine F.ok sc_law (fun vs H Q E h => ?_) (fun cdv A outer s H vs Q E hr h => ?_)
  · obtain ⟨a, ns, rfl, _⟩ := h
    rfl
  · obtain ⟨a, ns, rfl, hS, hl, k⟩ := h
    refine ⟨_, (pss_cons (ps_set (i := 1) sc_law.nd rfl (by first | exact Or.inl rfl | exact Or.inr rfl) (C8.pe_c c__law_bag hr (by decide) rfl (pa_cons (pv 0) pa_nil)))
      (C8.pss_cut (ps_set (i := 2) sc_law.nd rfl (by first | exact Or.inl rfl | exact Or.inr rfl) (C8.pe_c c__law_names hr (by decide) rfl (pa_cons (pv 1) (pa_cons (pe_op op_add pe_int (C8.pe_c c__law_take hr (by decide) rfl (pa_cons (pv 1) (pa_cons pe_int pa_nil)))) pa_nil))))
      (C8.pss_cut (ps_set (i := 3) sc_law.nd rfl (by first | exact Or.inl rfl | exact Or.inr rfl) (pe_lc (own := [("_law_name_here", 11)]) (g := gName 11) (tt := tYes) rfl sc_law.nd (pi_list (pv 2)) (blkOk_by (own := [("_law_name_here", 11)]) (N := ["_law_script", "_law_bag_here", "_law_names_here", "_law_pitches", "_law_k", "_law_words", "_law_text", "_law_far", "_law_number", "_law_long", "_law_tuning", "_law_name_here"]) (sc := defScope s_law) (by decide +kernel)) (fun _ _ _ _ _ => pg_name (i := 11) sc_law.nd rfl (by first | exact Or.inl rfl | exact Or.inr rfl)) (fun _ _ _ _ _ => pts_nil) (fun _ _ _ _ _ => (C8.pe_c c__law_pitch hr (by decide) rfl (pa_cons (pv 1) pa_nil)))))
      (C8.pss_cut (ps_setLc (i := 5) (own := [("_law_k", 4)]) (g := gName 4) (tt := tYes) rfl sc_law.nd rfl rfl (sw_true rfl rfl rfl (by decide +kernel)) (pi_range1 (by rfl) T.b_range (pa_cons (pe_callB call_len (by rfl) T.b_len PySem.boot_len (pa_cons (pv 2) pa_nil)) pa_nil)) (blkOk_by (own := [("_law_k", 4)]) (N := ["_law_script", "_law_bag_here", "_law_names_here", "_law_pitches", "_law_k", "_law_words", "_law_text", "_law_far", "_law_number", "_law_long", "_law_tuning", "_law_name_here"]) (sc := defScope s_law) (by decide +kernel)) (fun _ _ _ _ _ => pg_name (i := 4) sc_law.nd rfl (by first | exact Or.inl rfl | exact Or.inr rfl)) (fun _ _ _ _ _ => pts_nil) (fun _ _ _ _ _ => (pe_op op_add_str (pe_op op_add_str (pe_ix (show IxR _ (rIxL K) from ix_list) (pv 2) (pv 4) (fun _ _ => rfl)) pe_str) (pe_callTy call_str_int (by rfl) T.b_str (by decide +kernel) (pa_cons (pe_ix (show IxR _ (rIxL K) from ix_list) (pv 3) (pv 4) (fun _ _ => rfl)) pa_nil)))))
      (C8.pss_cut (ps_set (i := 4) sc_law.nd rfl (by first | exact Or.inl rfl | exact Or.inr rfl) (C8.pe_c c__law_take hr (by decide) rfl (pa_cons (pv 1) (pa_cons (pe_callB call_len (by rfl) T.b_len PySem.boot_len (pa_cons (pv 5) pa_nil)) pa_nil))))
      (C8.pss_cut (ps_set (i := 6) sc_law.nd rfl (by first | exact Or.inl rfl | exact Or.inr rfl) (C8.pe_c c__law_spoilt hr (by decide) rfl (pa_cons (pv 5) (pa_cons (pv 4) (pa_cons (C8.pe_c c__law_take hr (by decide) rfl (pa_cons (pv 1) (pa_cons pe_int pa_nil))) pa_nil)))))
      (C8.pss_cut (ps_set (i := 7) sc_law.nd rfl (by first | exact Or.inl rfl | exact Or.inr rfl) (pe_slice sl_list (pv 5) po_none po_none))
      (C8.pss_cut (ps_expr (pe_bm PySem.F.plainAttrs_list PySem.F.slot_list_insert PySem.F.type_list_insert mt_insert (pv 7) (pa_cons (C8.pe_c c__law_take hr (by decide) rfl (pa_cons (pv 1) (pa_cons (pe_op op_add (pe_callB call_len (by rfl) T.b_len PySem.boot_len (pa_cons (pv 5) pa_nil)) pe_int) pa_nil))) (pa_cons (pe_ix ix_list (pv 5) (pv 4) (fun _ _ => rfl)) pa_nil))))
      (C8.pss_cut (ps_set (i := 8) sc_law.nd rfl (by first | exact Or.inl rfl | exact Or.inr rfl) (pe_ix ix_list (pe_lst (pa_cons pe_str (pa_cons (pe_op op_add_str pe_str (pe_op op_rep_str pe_str pe_int)) (pa_cons (pe_op op_rep_str pe_str pe_int) (pa_cons (pe_op op_add_str pe_str (pe_op op_rep_str pe_str pe_int)) (pa_cons pe_str (pa_cons pe_str pa_nil))))))) (C8.pe_c c__law_take hr (by decide) rfl (pa_cons (pv 1) (pa_cons pe_int pa_nil))) (fun _ _ => rfl)))
      (C8.pss_cut (ps_if (PW.pt (pw_or (pt_not (pt_val (C8.pe_c c__law_refused hr (by decide) rfl (pa_cons (pe_join pe_str (pv 7)) pa_nil)))) (pw_or1 (pt_not (pt_val (C8.pe_c c__law_refused hr (by decide) rfl (pa_cons (pe_join pe_str (pe_op op_cat (pv 5) (pe_lst (pa_cons (pe_op op_add_str pe_str (pv 8)) pa_nil)))) pa_nil))))))) (pss_one (ps_ret pe_bl)) pss_nil)
      (C8.pss_cut (ps_if (PW.pt (pw_or (pt_not (pt_val (C8.pe_c c__law_is_tuning hr (by decide) rfl (pa_cons (Fx.pe_smX r_read hr (by decide) Fx.none0 (pe_glob (v := .ref _) rfl T.g_Tuning rfl) (pa_cons (pe_join pe_str (pv 5)) pa_nil)) (pa_cons (pv 2) (pa_cons (pv 3) pa_nil)))))) (pw_or1 (pt_not (pt_val (C8.pe_c c__law_refused hr (by decide) rfl (pa_cons (pv 6) pa_nil))))))) (pss_one (ps_ret pe_bl)) pss_nil)
      (C8.pss_cut (ps_set (i := 9) sc_law.nd rfl (by first | exact Or.inl rfl | exact Or.inr rfl) (pe_callTy call_int_str (by rfl) T.b_int (by decide +kernel) (pa_cons (pe_op op_rep_str pe_str pe_int) pa_nil)))
      (C8.pss_cut (ps_set (i := 10) sc_law.nd rfl (by first | exact Or.inl rfl | exact Or.inr rfl) (Fx.pe_smX r_read hr (by decide) Fx.none0 (pe_glob (v := .ref _) rfl T.g_Tuning rfl) (pa_cons (pe_op op_add_str (pe_op op_add_str (pe_ix ix_list (pv 5) (pv 4) (fun _ _ => rfl)) pe_str) (pe_callTy call_str_int (by rfl) T.b_str (by decide +kernel) (pa_cons (pv 9) pa_nil))) pa_nil)))
      (C8.pss_cut (ps_if (pt_not (pt_val (C8.pe_c c__law_is_tuning hr (by decide) rfl (pa_cons (pv 10) (pa_cons (pe_lst (pa_cons (pe_ix ix_list (pv 2) (pv 4) (fun _ _ => rfl)) (pa_cons pe_str pa_nil))) (pa_cons (pe_lst (pa_cons (pe_ix ix_list (pv 3) (pv 4) (fun _ _ => rfl)) (pa_cons (pe_un un_neg (pv 9)) pa_nil))) pa_nil)))))) (pss_one (ps_ret pe_bl)) pss_nil)
      (pss_one (ps_ret (C8.pe_c c__law_is_tuning hr (by decide) rfl (pa_cons (Fx.pe_smX r_read hr (by decide) Fx.none0 (pe_glob (v := .ref _) rfl T.g_Tuning rfl) (pa_cons (pe_join pe_str (pv 5)) pa_nil)) (pa_cons (pv 2) (pa_cons (pv 3) pa_nil)))))))))))))))))))), ?_⟩
    walk_at "rd"
    refine ⟨a, ns, rfl, hS, hl, fun H1 b c hs1 hb1 => ?_⟩
    refine ⟨fun σ' H' => ∃ (q : Addr) (zs : List Str), σ' = [some (.ref a), some (.ref b), some (.ref q), none, none, none, none, none, none, none, none, none] ∧ H' q = some (.lst (zs.map V.str)) ∧ 1 ≤ zs.length ∧ zs.length ≤ 5 ∧ zyS ∉ zs ∧ zs.Nodup ∧ (∀ z ∈ zs, Low z) ∧ Bag H' b c, ?_, ?_⟩
    · walk_at "rd"
      refine ⟨b, c, _, rfl, hb1, by decide, fun r H2 hb2 hk2 r0 r1 => ?_⟩
      have r6 : r < 5 := by
        have e : max (1 : Int) 5 = 5 := by decide
        rw [e] at r1
        exact r1
      walk_at "rd"
      refine ⟨b, c, _, rfl, hb2, by omega, by omega, fun q zs H3 hb3 hk3 nq hq hzl hzn hlow => ?_⟩
      exact ⟨q, zs, rfl, hq, by omega, by omega, fun h => (hlow _ h).2 rfl, hzn, fun z hz => (hlow z hz).1, hb3⟩
    rintro σ' H4 ⟨q, zs, rfl, hq, zl0, zl1, nzy, hzn, hlow, hb4⟩
    clear hS hl ns hs1 hb1
    refine ⟨fun σ' H' => ∃ (pp : Addr) (ns : List Int), σ' = [some (.ref a), some (.ref b), some (.ref q), some (.ref pp), none, none, none, none, none, none, none, none] ∧ H' q = some (.lst (zs.map V.str)) ∧ H' pp = some (.lst (ns.map V.int)) ∧ zs.length = ns.length ∧ (∀ n ∈ ns, -(10 ^ 30) ≤ n ∧ n ≤ 10 ^ 30) ∧ Bag H' b c, ?_, ?_⟩
    · walk_at "rd"
      refine ⟨⟨_, SqL.of hq⟩, fun D nD => ?_⟩
      refine lc_draw V.str hb4 nD hq (hb4.ne_strs hq) (by omega) (fun i x H hi hb R S yes => ?_) (fun H' ns hD hn hr' hk hb' => ?_)
      · refine ⟨rfl, ?_⟩
        walk_at "rd"
        exact ⟨b, c, rfl, hb, yes⟩
      · exact ⟨D, ns, rfl, hk _ _ hq (hb4.ne_strs hq), hD, hn.symm, hr', hb'⟩
    rintro σ' H5 ⟨pp, ns, rfl, hq, hpp, nsl, nsr, hb5⟩
    have small : ∀ n ∈ ns, n.natAbs < 10 ^ 35 := fun n hn => by
      have := nsr n hn
      omega
    have s40 : ∀ n ∈ ns, n.natAbs < 10 ^ 40 := fun n hn => Nat.lt_trans (small n hn) (by decide +kernel)
    have psl : zs.length = (ns.map V.int).length := by rw [List.length_map]; exact nsl
    clear hb4 nsr
    have few := words_num zs ns
    refine ⟨fun σ' H' => ∃ wl : Addr, σ' = [some (.ref a), some (.ref b), some (.ref q), some (.ref pp), none, some (.ref wl), none, none, none, none, none, none] ∧ H' wl = some (.lst ((wordsOf zs ns).map V.str)) ∧ H' q = some (.lst (zs.map V.str)) ∧ H' pp = some (.lst (ns.map V.int)) ∧ Bag H' b c, ?_, ?_⟩
    · walk_at "rd"
      refine ⟨_, zs.length, rfl, .inl ⟨_, SqL.of hq, (List.length_map ..).symm⟩, ?_⟩
      walk_at "rd"
      refine ⟨by omega, by omega, fun D nD => ?_⟩
      refine lc_range (lo := 0) (n := zs.length) (fun i H' => H' D = some (.lst ((wordsOf (zs.take i) (ns.take i)).map V.str)) ∧ Same H5 H') ⟨upd_same, Same.new (Same.refl H5) nD⟩ (fun i H' hi hp => ?_) (fun H' hp => ?_)
      · obtain ⟨hD, sH⟩ := hp
        refine ⟨rfl, ?_⟩
        have hz : zs[i]? = some zs[i] := List.getElem?_eq_getElem hi
        have hx : ns[i]? = some ns[i] := List.getElem?_eq_getElem (by omega)
        have mz := List.mem_of_getElem? hz
        have mx := List.mem_of_getElem? hx
        have nxt : wordsOf (zs.take (i + 1)) (ns.take (i + 1)) = wordsOf (zs.take i) (ns.take i) ++ [word zs[i] ns[i]] := by
          unfold wordsOf
          rw [take_snoc hz, take_snoc hx, List.zip_append (by rw [List.length_take, List.length_take]; omega), List.map_append]
          rfl
        generalize zs[i] = z at *
        generalize ns[i] = x at *
        have hzl : (zs.map V.str)[i]? = some (.str z) := by rw [List.getElem?_map, hz]; rfl
        have hxl : (ns.map V.int)[i]? = some (.int x) := by rw [List.getElem?_map, hx]; rfl
        have zl := (low_asc (hlow z mz)).1
        have w54 := word_len (hlow z mz) (s40 x mx)
        have one : Str.length (Str.ofString "=") = 1 := by decide +kernel
        have big : 1000 ≤ sizeLine := by decide
        walk_at "rd"
        refine ⟨q, _, _, _, rfl, rfl, SqL.of (sH _ _ hq), at_of (j := i) (Int.zero_add _) hzl, ?_⟩
        walk_at "rd"
        refine ⟨by omega, ?_⟩
        walk_at "rd"
        refine ⟨pp, _, _, _, rfl, rfl, SqL.of (sH _ _ hpp), at_of (j := i) (Int.zero_add _) hxl, ?_⟩
        walk_at "rd"
        have e54 : (z ++ Str.ofString "=").length + (Tx.dec x).length ≤ sizeLine := by
          have := Str.length_append (z ++ Str.ofString "=") (Tx.dec x)
          have w54 : (z ++ Str.ofString "=" ++ Tx.dec x).length ≤ 54 := w54
          omega
        refine ⟨log_small (s40 x mx), ?_⟩
        walk_at "rd"
        refine ⟨e54, _, hD, ?_, ?_, ?_⟩
        · rw [List.length_map]
          unfold wordsOf
          rw [List.length_map, List.length_zip, List.length_take, List.length_take]
          exact small1000 (by omega)
        · rw [upd_same, nxt, List.map_append]
          rfl
        · intro y o e
          rw [upd_ne (ne_of_none e nD)]
          exact sH _ _ e
      · obtain ⟨hD, sH⟩ := hp
        rw [List.take_length, show ns.take zs.length = ns by rw [nsl, List.take_length]] at hD
        exact ⟨D, rfl, hD, sH _ _ hq, sH _ _ hpp, hb5.same sH⟩
    rintro σ' H6 ⟨wl, rfl, hw, hq, hpp, hb6⟩
    clear hb5
    have wsl : (wordsOf zs ns).length = zs.length := by
      unfold wordsOf
      rw [List.length_map, List.length_zip]
      omega
    refine ⟨fun σ' H' => ∃ k : Nat, σ' = [some (.ref a), some (.ref b), some (.ref q), some (.ref pp), some (.int k), some (.ref wl), none, none, none, none, none, none] ∧ k < zs.length ∧ H' wl = some (.lst ((wordsOf zs ns).map V.str)) ∧ H' q = some (.lst (zs.map V.str)) ∧ H' pp = some (.lst (ns.map V.int)) ∧ Bag H' b c, ?_, ?_⟩
    · walk_at "rd"
      refine ⟨_, (wordsOf zs ns).length, rfl, .inl ⟨_, SqL.of hw, (List.length_map ..).symm⟩, ?_⟩
      walk_at "rd"
      refine ⟨b, c, _, rfl, hb6, by omega, fun r H7 hb7 hk7 r0 r1 => ?_⟩
      have r2 : r < (zs.length : Int) := by
        rw [wsl] at r1
        omega
      obtain ⟨k0, rfl⟩ := Int.eq_ofNat_of_zero_le r0
      exact ⟨k0, rfl, by omega, hk7 _ _ hw (hb6.ne_strs hw), hk7 _ _ hq (hb6.ne_strs hq), hk7 _ _ hpp (hb6.ne_ints hpp), hb7⟩
    rintro σ' H7 ⟨k0, rfl, hk0, hw, hq, hpp, hb7⟩
    refine ⟨fun σ' H' => ∃ x : Str, σ' = [some (.ref a), some (.ref b), some (.ref q), some (.ref pp), some (.int k0), some (.ref wl), some (.str x), none, none, none, none, none] ∧ Bad x ∧ H' wl = some (.lst ((wordsOf zs ns).map V.str)) ∧ H' q = some (.lst (zs.map V.str)) ∧ H' pp = some (.lst (ns.map V.int)) ∧ Bag H' b c, ?_, ?_⟩
    · walk_at "rd"
      refine ⟨b, c, _, rfl, hb7, by decide, fun r H8 hb8 hk8 r0 r1 => ?_⟩
      have r14 : r < 14 := by
        have e : max (1 : Int) 14 = 14 := by decide
        rw [e] at r1
        exact r1
      obtain ⟨way, rfl⟩ := Int.eq_ofNat_of_zero_le r0
      have hw := hk8 _ _ hw (hb7.ne_strs hw)
      have hq := hk8 _ _ hq (hb7.ne_strs hq)
      have hpp := hk8 _ _ hpp (hb7.ne_ints hpp)
      walk_at "rd"
      refine ⟨wl, zs, ns, k0, way, rfl, hw, nsl, by omega, hzn, hlow, small, hk0, by omega, fun x H9 s9 bx => ?_⟩
      exact ⟨x, rfl, bx, s9 _ _ hw, s9 _ _ hq, s9 _ _ hpp, hb8.same s9⟩
    rintro σ' H8 ⟨x, rfl, bx, hw, hq, hpp, hb8⟩
    clear hb6 hb7
    have hz : zs[k0]? = some zs[k0] := List.getElem?_eq_getElem hk0
    have hx : ns[k0]? = some ns[k0] := List.getElem?_eq_getElem (by omega)
    have mz := List.mem_of_getElem? hz
    have mx := List.mem_of_getElem? hx
    generalize zs[k0] = z0 at *
    generalize ns[k0] = x0 at *
    have hwk : (wordsOf zs ns)[k0]? = some (word z0 x0) := by
      unfold wordsOf
      rw [List.getElem?_map, show (zs.zip ns)[k0]? = some (z0, x0) from List.getElem?_zip_eq_some.mpr ⟨hz, hx⟩]
      rfl
    have hvk : ((wordsOf zs ns).map V.str)[k0]? = some (.str (word z0 x0)) := by rw [List.getElem?_map, hwk]; rfl
    have ix : atI ((wordsOf zs ns).map V.str) (k0 : Int) = some (.str (word z0 x0)) := at_of (j := k0) rfl hvk
    refine ⟨fun σ' H' => ∃ fl : Addr, σ' = [some (.ref a), some (.ref b), some (.ref q), some (.ref pp), some (.int k0), some (.ref wl), some (.str x), some (.ref fl), none, none, none, none] ∧ H' fl = some (.lst ((wordsOf zs ns).map V.str)) ∧ fl ≠ wl ∧ fl ≠ q ∧ fl ≠ pp ∧ fl ≠ b ∧ fl ≠ c ∧ H' wl = some (.lst ((wordsOf zs ns).map V.str)) ∧ H' q = some (.lst (zs.map V.str)) ∧ H' pp = some (.lst (ns.map V.int)) ∧ Bag H' b c, ?_, ?_⟩
    · walk_at "rd"
      refine ⟨wl, _, rfl, SqL.of hw, fun fl nfl => ?_⟩
      have ec : cutV ((wordsOf zs ns).map V.str) none none = (wordsOf zs ns).map V.str := by
        unfold cutV
        rw [HT.sIx_none, HT.sIx_none, List.drop_zero, Nat.sub_zero, List.take_length]
      rw [ec]
      obtain ⟨o1, o2⟩ := hb8.off nfl
      have sf := Same.new (o := .lst ((wordsOf zs ns).map V.str)) (Same.refl H8) nfl
      exact ⟨fl, rfl, upd_same, (ne_of_none hw nfl).symm, (ne_of_none hq nfl).symm, (ne_of_none hpp nfl).symm, o1.symm, o2.symm, sf _ _ hw, sf _ _ hq, sf _ _ hpp, hb8.same sf⟩
    rintro σ' H9 ⟨fl, rfl, hf, f1, f2, f3, f4, f5, hw, hq, hpp, hb9⟩
    refine ⟨fun σ' H' => ∃ i : Nat, σ' = [some (.ref a), some (.ref b), some (.ref q), some (.ref pp), some (.int k0), some (.ref wl), some (.str x), some (.ref fl), none, none, none, none] ∧ H' fl = some (.lst (((wordsOf zs ns).take i ++ word z0 x0 :: (wordsOf zs ns).drop i).map V.str)) ∧ H' wl = some (.lst ((wordsOf zs ns).map V.str)) ∧ H' q = some (.lst (zs.map V.str)) ∧ H' pp = some (.lst (ns.map V.int)) ∧ Bag H' b c, ?_, ?_⟩
    · walk_at "rd"
      refine ⟨.inl ⟨rfl, _, SqL.of hf⟩, ?_⟩
      walk_at "rd"
      refine ⟨_, (wordsOf zs ns).length, rfl, .inl ⟨_, SqL.of hw, (List.length_map ..).symm⟩, ?_⟩
      walk_at "rd"
      refine ⟨b, c, _, rfl, hb9, by omega, fun r G hbG hkG r0 r1 => ?_⟩
      have r2 : r < 6 := by
        rw [wsl] at r1
        omega
      obtain ⟨i, rfl⟩ := Int.eq_ofNat_of_zero_le r0
      have hf := hkG _ _ hf (hb9.ne_strs hf)
      have hw := hkG _ _ hw (hb9.ne_strs hw)
      have hq := hkG _ _ hq (hb9.ne_strs hq)
      have hpp := hkG _ _ hpp (hb9.ne_ints hpp)
      walk_at "rd"
      refine ⟨fl, _, (i : Int), _, rfl, rfl, hf, ?_, by omega, by omega, ?_⟩
      · rw [List.length_map]
        exact small1000 (by omega)
      refine ⟨i, rfl, upd_same.trans ?_, (upd_ne f1.symm).trans hw, (upd_ne f2.symm).trans hq, (upd_ne f3.symm).trans hpp, hbG.set f4.symm f5.symm⟩
      rw [Int.toNat_natCast, List.map_append, List.map_cons, List.map_take, List.map_drop, List.append_assoc]
      rfl
    rintro σ' H10 ⟨i, rfl, hf, hw, hq, hpp, hb10⟩
    refine ⟨fun σ' H' => ∃ d : Str, σ' = [some (.ref a), some (.ref b), some (.ref q), some (.ref pp), some (.int k0), some (.ref wl), some (.str x), some (.ref fl), some (.str d), none, none, none] ∧ pitchB d = false ∧ d.length ≤ 5900 ∧ (∀ c ∈ d.cps.toList, c < 128 ∧ c ≠ 32) ∧ H' fl = some (.lst (((wordsOf zs ns).take i ++ word z0 x0 :: (wordsOf zs ns).drop i).map V.str)) ∧ H' wl = some (.lst ((wordsOf zs ns).map V.str)) ∧ H' q = some (.lst (zs.map V.str)) ∧ H' pp = some (.lst (ns.map V.int)), ?_, ?_⟩
    · walk_at "rd"
      have big : 10000 ≤ sizeLine := by decide
      have m1 : Str.length (Str.ofString "-") = 1 := by decide +kernel
      have n1 : Str.length (Str.ofString "1") = 1 := by decide +kernel
      have n3 : Str.length (Str.ofString "3") = 1 := by decide +kernel
      have n9 : Str.length (Str.ofString "9") = 1 := by decide +kernel
      have rl : ∀ (z : Str) (n : Nat), (repS z n).length = n * z.length := fun z n => by
        rw [Tx.len_of, Tx.len_of z]
        show ((List.replicate n z.cps.toList).flatten).length = _
        rw [List.length_flatten, List.map_replicate, List.sum_replicate_nat]
      refine ⟨by decide, by decide, by omega, by omega, ?_⟩
      walk_at "rd"
      refine ⟨by
        have := rl "1" 41
        show Str.length (Str.ofString "-") + (repS "1" 41).length ≤ sizeLine
        omega, ?_⟩
      walk_at "rd"
      refine ⟨by decide, by decide, by omega, by omega, ?_⟩
      walk_at "rd"
      refine ⟨by decide, by decide, by omega, by omega, ?_⟩
      walk_at "rd"
      refine ⟨by
        have := rl "3" 5000
        show Str.length (Str.ofString "-") + (repS "3" 5000).length ≤ sizeLine
        omega, ?_⟩
      walk_at "rd"
      refine ⟨by show 6 ≤ sizeLine; omega, fun p np => ?_⟩
      walk_at "rd"
      obtain ⟨o1, o2⟩ := hb10.off np
      refine ⟨b, c, _, rfl, hb10.new np, by decide, fun r G hbG hkG r0 r1 => ?_⟩
      have r6 : r < 6 := by
        have e : max (1 : Int) 6 = 6 := by decide
        rw [e] at r1
        exact r1
      obtain ⟨j, rfl⟩ := Int.eq_ofNat_of_zero_le r0
      have hP := hkG _ _ (upd_same (H := H10) (a := p) (o := .lst ((["-007", "-" ++ repS "1" 41, repS "9" 5000, "-" ++ repS "3" 5000, "--1", "-"] : List Str).map V.str))) o1.symm
      have up : ∀ (y : Addr) (o : HO), H10 y = some o → y ≠ b → G y = some o := fun y o e ne => hkG _ _ ((upd_ne (ne_of_none e np)).trans e) ne
      have hf := up _ _ hf (hb10.ne_strs hf)
      have hw := up _ _ hw (hb10.ne_strs hw)
      have hq := up _ _ hq (hb10.ne_strs hq)
      have hpp := up _ _ hpp (hb10.ne_ints hpp)
      obtain ⟨d, hd⟩ : ∃ d, (["-007", "-" ++ repS "1" 41, repS "9" 5000, "-" ++ repS "3" 5000, "--1", "-"] : List Str)[j]? = some d := ⟨_, List.getElem?_eq_getElem (show j < 6 by omega)⟩
      have hdl : ((["-007", "-" ++ repS "1" 41, repS "9" 5000, "-" ++ repS "3" 5000, "--1", "-"] : List Str).map V.str)[j]? = some (.str d) := by rw [List.getElem?_map, hd]; rfl
      refine ⟨p, _, _, _, rfl, rfl, SqL.of hP, at_of (j := j) rfl hdl, ?_⟩
      obtain ⟨d1, d2, d3⟩ := bad_number d (List.mem_of_getElem? hd)
      exact ⟨d, rfl, d1, d2, d3, hf, hw, hq, hpp⟩
    rintro σ' H11 ⟨d, rfl, dp, dl, dc, hf, hw, hq, hpp⟩
    clear hb10 hb9 hb8
    refine ⟨fun σ' H' => σ' = [some (.ref a), some (.ref b), some (.ref q), some (.ref pp), some (.int k0), some (.ref wl), some (.str x), some (.ref fl), some (.str d), none, none, none] ∧ Same H11 H', ?_, ?_⟩
    · obtain ⟨g1, n1, b1⟩ := far_bad (i := i) nsl zl1 hlow s40 mz mx
      obtain ⟨g2, b2⟩ := end_bad nsl zl1 hzn hlow small dp dl dc
      have gw := words_good hlow s40
      have g3 : ∀ y ∈ wordsOf zs ns ++ [Str.ofString "zyzyzyzyzyzy=" ++ d], GoodW y := fun y hy => by
        rcases List.mem_append.mp hy with hy | hy
        · exact gw y hy
        · rw [List.mem_singleton.mp hy]
          exact g2
      unfold tIfS tOr tNot tB tCall tCons tM1 tC
      refine ⟨⟨_, rfl⟩, ?_⟩
      walk_at "rd"
      refine ⟨_, fl, (wordsOf zs ns).take i ++ word z0 x0 :: (wordsOf zs ns).drop i, rfl, rfl, .inl (SqL.of hf), join_ok g1 n1, ?_⟩
      rw [txt_join]
      walk_at "rd"
      refine ⟨b1, fun G1 sg => ?_⟩
      have hw := sg _ _ hw
      walk_at "rd"
      refine ⟨⟨_, rfl⟩, ?_⟩
      walk_at "rd"
      have zl : (Str.ofString "zyzyzyzyzyzy=").length = 13 := by decide +kernel
      have big : 10000 ≤ sizeLine := by decide
      refine ⟨by omega, ?_⟩
      walk_at "rd"
      refine ⟨by show 1 ≤ sizeLine; omega, fun a1 n1 => ?_⟩
      have s1 := Same.new (o := .lst [.str ("zyzyzyzyzyzy=" ++ d)]) sg n1
      have hw := (upd_ne (o := .lst [.str ("zyzyzyzyzyzy=" ++ d)]) (ne_of_none hw n1)).trans hw
      refine ⟨wl, a1, _, _, rfl, rfl, hw, upd_same, by rw [List.length_map]; show _ + 1 ≤ _; omega, fun a2 n2 => ?_⟩
      have s2 := Same.new (o := .lst ((wordsOf zs ns).map V.str ++ [.str ("zyzyzyzyzyzy=" ++ d)])) s1 n2
      refine ⟨_, a2, wordsOf zs ns ++ [Str.ofString "zyzyzyzyzyzy=" ++ d], rfl, rfl, .inl (SqL.of (upd_same.trans (by rw [List.map_append]; rfl))), join_ok g3 (by rw [List.length_append]; show _ + 1 ≤ _; omega), ?_⟩
      rw [txt_join]
      walk_at "rd"
      refine ⟨b2, fun G2 sg2 => ?_⟩
      walk_at "rd"
      exact s2.trans sg2
    rintro σ' H12 ⟨rfl, s12⟩
    have hw := s12 _ _ hw
    have hq := s12 _ _ hq
    have hpp := s12 _ _ hpp
    clear s12 hf
    refine ⟨fun σ' H' => σ' = [some (.ref a), some (.ref b), some (.ref q), some (.ref pp), some (.int k0), some (.ref wl), some (.str x), some (.ref fl), some (.str d), none, none, none] ∧ Same H12 H', ?_, ?_⟩
    · walk_at "rd"
      unfold tCons tM1 tC
      refine ⟨⟨_, rfl⟩, ?_⟩
      walk_at "rd"
      refine ⟨_, wl, wordsOf zs ns, rfl, rfl, .inl (SqL.of hw), join_ok (words_good hlow s40) (by omega), ?_⟩
      walk_at "rd"
      refine due_ask nsl (by omega) hzn hlow s40 fun y1 G1 s1 n1 t1 => ?_
      walk_at "rd"
      refine ⟨y1, q, pp, zs, ns, rfl, t1, s1 _ _ hq, s1 _ _ hpp, nsl, by omega, low_ok hlow, fun G2 s2 => ?_⟩
      walk_at "rd"
      refine ⟨bx, fun G3 s3 => ?_⟩
      walk_at "rd"
      exact (s1.trans s2).trans s3
    rintro σ' H13 ⟨rfl, s13⟩
    have hw := s13 _ _ hw
    have hq := s13 _ _ hq
    have hpp := s13 _ _ hpp
    clear s13
    refine ⟨fun σ' H' => ∃ lg : Int, lg = 9999999999999999999999999999999999999999 ∧ σ' = [some (.ref a), some (.ref b), some (.ref q), some (.ref pp), some (.int k0), some (.ref wl), some (.str x), some (.ref fl), some (.str d), some (.int lg), none, none] ∧ Same H13 H', ?_, ?_⟩
    · walk_at "rd"
      have n9 : Str.length (Str.ofString "9") = 1 := by decide +kernel
      refine ⟨by decide, by decide, by omega, by omega, ?_⟩
      walk_at "rd"
      refine ⟨repS "9" 40, 9999999999999999999999999999999999999999, rfl, by decide +kernel, by decide +kernel, ?_⟩
      walk_at "rd"
      exact Same.refl H13
    rintro σ' H14 ⟨lg, hlg, rfl, s14⟩
    have hw := s14 _ _ hw
    have hq := s14 _ _ hq
    have hpp := s14 _ _ hpp
    clear s14
    refine ⟨fun σ' H' => ∃ y : Addr, σ' = [some (.ref a), some (.ref b), some (.ref q), some (.ref pp), some (.int k0), some (.ref wl), some (.str x), some (.ref fl), some (.str d), some (.int lg), some (.ref y), none] ∧ Same H14 H' ∧ Tun C H' y [z0, zyS] ([x0, -lg].map V.int), ?_, ?_⟩
    · walk_at "rd"
      have c14 : (Str.ofString " zyzyzyzyzyzy=-").length = 15 := by decide +kernel
      have w54 := word_len (hlow z0 mz) (s40 x0 mx)
      have big : 10000 ≤ sizeLine := by decide
      have dl : (Tx.dec lg).length = 40 := by rw [hlg]; decide +kernel
      refine ⟨by omega, ?_⟩
      walk_at "rd"
      refine ⟨by rw [hlg]; decide +kernel, ?_⟩
      walk_at "rd"
      refine ⟨by
        show (word z0 x0 ++ Str.ofString " zyzyzyzyzyzy=-").length + (Tx.dec lg).length ≤ sizeLine
        rw [Str.length_append]
        omega, ?_⟩
      walk_at "rd"
      have tx : word z0 x0 ++ Str.ofString " zyzyzyzyzyzy=-" ++ Str.ofString (toString lg) = due [z0, zyS] [x0, -lg] := by
        rw [due_join]
        show word z0 x0 ++ Str.ofString " zyzyzyzyzyzy=-" ++ Tx.dec lg = word z0 x0 ++ ⟨#[32]⟩ ++ word zyS (-lg)
        rw [Str.append_assoc, Str.append_assoc, show Str.ofString " zyzyzyzyzyzy=-" ++ Tx.dec lg = ⟨#[32]⟩ ++ word zyS (-lg) from by rw [hlg]; decide +kernel]
      rw [tx]
      refine due_ask (ws := [z0, zyS]) (ns := [x0, -lg]) rfl (by show 2 ≤ 40; decide) ?_ ?_ ?_ fun y1 G1 s1 n1 t1 => ?_
      · exact List.nodup_cons.mpr ⟨fun h => nzy (List.mem_singleton.mp h ▸ mz), by simp⟩
      · intro y hy
        rcases List.mem_cons.mp hy with rfl | hy
        · exact hlow _ mz
        · rw [List.mem_singleton.mp hy]
          exact low_zy
      · intro y hy
        rcases List.mem_cons.mp hy with rfl | hy
        · exact s40 _ mx
        · rw [List.mem_singleton.mp hy, hlg]
          decide +kernel
      walk_at "rd"
      exact ⟨s1, t1⟩
    rintro σ' H15 ⟨y, rfl, s15, ty⟩
    have hw := s15 _ _ hw
    have hq := s15 _ _ hq
    have hpp := s15 _ _ hpp
    clear s15
    refine ⟨fun σ' H' => σ' = [some (.ref a), some (.ref b), some (.ref q), some (.ref pp), some (.int k0), some (.ref wl), some (.str x), some (.ref fl), some (.str d), some (.int lg), some (.ref y), none] ∧ Same H15 H', ?_, ?_⟩
    · have hqk : (zs.map V.str)[k0]? = some (.str z0) := by rw [List.getElem?_map, hz]; rfl
      have hpk : (ns.map V.int)[k0]? = some (.int x0) := by rw [List.getElem?_map, hx]; rfl
      have big : 10000 ≤ sizeLine := by decide
      walk_at "rd"
      refine ⟨q, _, _, _, rfl, rfl, SqL.of hq, at_of (j := k0) rfl hqk, ?_⟩
      walk_at "rd"
      refine ⟨by show 2 ≤ sizeLine; omega, fun a1 n1 => ?_⟩
      have s1 := Same.new (o := .lst [.str z0, .str "zyzyzyzyzyzy"]) (Same.refl H15) n1
      have f1 : (upd H15 a1 (HO.lst [.str z0, .str "zyzyzyzyzyzy"])) a1 = some (.lst [.str z0, .str "zyzyzyzyzyzy"]) := upd_same
      have hpp1 := s1 _ _ hpp
      generalize upd H15 a1 (HO.lst [.str z0, .str "zyzyzyzyzyzy"]) = G at *
      walk_at "rd"
      refine ⟨pp, _, _, _, rfl, rfl, SqL.of hpp1, at_of (j := k0) rfl hpk, ?_⟩
      walk_at "rd"
      refine ⟨by show 2 ≤ sizeLine; omega, fun a2 n2 => ?_⟩
      have s2 := Same.new (o := .lst [.int x0, .int (-lg)]) s1 n2
      have f1 := (upd_ne (o := .lst [.int x0, .int (-lg)]) (ne_of_none f1 n2)).trans f1
      rw [show (V.str (Str.ofString "zyzyzyzyzyzy")) = V.str zyS by rw [zy_eq]] at f1
      refine ⟨y, a1, a2, [z0, zyS], [x0, -lg], rfl, ty.same s2, f1, upd_same, rfl, by show 2 ≤ 100; decide, ?_, fun G2 s3 => ?_⟩
      · intro y hy
        rcases List.mem_cons.mp hy with rfl | hy
        · exact (low_asc (hlow _ mz)).ok
        · rw [List.mem_singleton.mp hy]
          exact (low_asc low_zy).ok
      walk_at "rd"
      exact s2.trans s3
    rintro σ' H16 ⟨rfl, s16⟩
    have hw := s16 _ _ hw
    have hq := s16 _ _ hq
    have hpp := s16 _ _ hpp
    walk_at "rd"
    unfold tCons tM1 tC
    refine ⟨⟨_, rfl⟩, ?_⟩
    walk_at "rd"
    refine ⟨_, wl, wordsOf zs ns, rfl, rfl, .inl (SqL.of hw), join_ok (words_good hlow s40) (by omega), ?_⟩
    walk_at "rd"
    refine due_ask nsl (by omega) hzn hlow s40 fun y1 G1 s1 n1 t1 => ?_
    walk_at "rd"
    refine ⟨y1, q, pp, zs, ns, rfl, t1, s1 _ _ hq, s1 _ _ hpp, nsl, by omega, low_ok hlow, fun G2 s2 => ?_⟩
    walk_at "rd"
    exact k G2
end
end Fk

namespace PySem
namespace OwnX
open PySem.W PySem.HandSPX
/-- the facts of one class of errors, in one test -/
def clsB (K : Frag) (C fI : Addr) (fs : List Str) : Bool :=
  decide (ks_superIn K C C "__init__" = some (some (.builtin "ValueError.__init__"))) && (decide (mroIn K C (.ref C) = some true) && (decide (subIn K (.ref C) (.type "ValueError") = some true) && (decide (nsIn K cStatics "thirdparty.any" = some none) && (keepIn K (.ref C) &&
  (decide (subIn K (.ref C) (.type "BaseException") = some true) && (decide (typeIn K (.ref C) = some (.type "type")) && (decide (findIn K (.ref C) "__init__" = some (some (.ref fI))) && (decide (typeIn K (.ref fI) = some (.type "function")) &&
  (decide (findIn K (.ref C) "__setattr__" = some (some (.builtin "object.__setattr__"))) && (fs.all (fun f => decide (findIn K (.ref C) f = some none)) && (L2.xfB K C && (decide (findIn K (.ref C) "__class__" = some (some (.builtin "object.__class__"))) &&
  (decide (specialIn K (.builtin "object.__class__") "__get__" = some (some (.builtin "getset_descriptor.__get__"))) && (decide (takesIn K (.builtin "object.__class__") = some true) && decide (mroIn K C (.type "object") = some true)))))))))))))))
theorem err_of {P : Program} {K : Frag} {mg : Str → Option Value} {h : Heap} {x : Str} {C fI : Addr} {fs : List Str} {qual : Str} {st : Stmt} (X : K.In h) (G : h.Ns mainGlobals mg)
    {nm q : Str} {N : Addr} {bs bm : List Value} {sn : List Str} {sub : List Value} {ab : Bool} {col : Option Bool} {dd : Option Addr} {k0 k1 k2 k3 k5 : Option Value}
    {oc : Value} {od : Option Addr} {doc pm : Value} {an : Option Addr} {cda : Addr} {ct : Value} {cc : Addr} {osl : Array (Option Value)} {kV : Value}
    {ccl : Value} {cdd : Option Addr} {vs : Array Value} {ccs : Array (Option Value)} {file : Str} {tf : Tok} {cl : Value} {cld : Option Addr} {csl : Array (Option Value)}
    (aC : nsIn K mainGlobals x = some (some (.ref C))) (iC : findIn K (.ref C) "__init__" = some (some (.ref fI))) (lC : K.lookup C = some (excClassObj nm q C N bs bm true sn sub ab col dd k0 k1 k2 k3 k5 "ValueError.__new__")) (rV : refsVE bm = true)
    (lF : K.lookup fI = some ⟨oc, od, .func (ksFn "__init__" qual (L2.defArgs st) (L2.defBody st) (L2.defScope st) .none kV doc pm an (.ref cda) ct cc), osl⟩) (cF : codeIn K (.ref cda) qual = true)
    (lD : K.lookup cda = some ⟨ccl, cdd, .fields vs, ccs⟩) (vD : vs[2]? = some (.str file tf)) (fD : ((P.main.file : Str) == file) = true) (lL : K.lookup cc = some ⟨cl, cld, .cell (some (.ref C)), csl⟩)
    (B : clsB K C fI fs = true) (su : mg "super" = none) (tp : (P.main.scope.names.lookup ("super" : Str)).isSome = false) :
    L2.ErrA P K mg x C fI fs ∧ ErrF P K C fI qual (L2.defArgs st) (L2.defBody st) (L2.defScope st) := by
  unfold clsB at B
  simp only [Bool.and_eq_true, decide_eq_true_eq] at B
  obtain ⟨b1, b2, b3, b4, b5, b6, b7, b8, b9, b10, b11, b12, b13, b14, b15, b16⟩ := B
  have xf := L2.xfB_ok b12
  refine ⟨⟨⟨PySem.W.mg_of X G aC, ⟨⟨nm, q, N, bs, bm, sn, sub, ab, col, dd, k0, k1, k2, k3, k5, lC, rV⟩, b1, b2, b3, b4, tp⟩, b5, b6, b7, b8, b9, su⟩, ⟨b10, fun f hf => ?_⟩, xf, ⟨xf.ga, xf.gg, b6, xf.hdC, b13, b14, b15, b16⟩⟩,
    ⟨b8, b9, oc, od, doc, pm, an, cda, ct, cc, osl, kV, lF, cF, ⟨ccl, cdd, vs, ccs, file, tf, lD, vD, fD⟩, cl, cld, csl, lL⟩⟩
  exact of_decide_eq_true (List.all_eq_true.mp b11 f hf)
/-- the facts of a class of objects, in one test -/
def ownB (K : Frag) (C fI : Addr) (fs : List Str) : Bool :=
  plainGet K C Str.empty && (hasDictIn K C && (plainOver K C && (decide (findIn K (.ref C) "__setattr__" = some (some (.builtin "object.__setattr__"))) && (makesIn K C && (decide (findIn K (.ref C) "__init__" = some (some (.ref fI))) && (isFn K (.ref fI) && (keepIn K (.ref C) &&
  (decide (findIn K (.ref C) "__class__" = some (some (.builtin "object.__class__"))) && (decide (specialIn K (.builtin "object.__class__") "__get__" = some (some (.builtin "getset_descriptor.__get__"))) && (decide (takesIn K (.builtin "object.__class__") = some true) &&
  (decide (mroIn K C (.type "object") = some true) && (decide (kitOne K (.ref C) (.ref C) = some true) && fs.all (fun f => decide (findIn K (.ref C) f = some none))))))))))))))
structure OwnC (K : Frag) (C fI : Addr) (fs : List Str) : Prop where
  cls : L2.Cls K C
  made : L2.Mk K C fI
  no : ∀ f ∈ fs, L2.NoAttr K C f
  ty : ∀ {H : L2.Hp} {a dx : Addr} {fs : List (Str × L2.V)}, H a = some (.ins C dx fs) → L2.TyX K H (.ref a) (.ref C)
  kit : kitOne K (.ref C) (.ref C) = some true
theorem own_of {K : Frag} {C fI : Addr} {fs : List Str} (h : ownB K C fI fs = true) : OwnC K C fI fs := by
  unfold ownB at h
  simp only [Bool.and_eq_true, decide_eq_true_eq] at h
  obtain ⟨h1, h2, h3, h4, h5, h6, h7, h8, h9, h10, h11, h12, h13, h14⟩ := h
  have c : L2.Cls K C := ⟨h1, h2, h3, h4⟩
  exact ⟨c, ⟨h5, h6, h7, h8⟩, fun f hf => by have q := of_decide_eq_true (List.all_eq_true.mp h14 f hf); exact q, fun e => .base (.ins e c h9 h10 h11 h12), h13⟩
end OwnX
end PySem

namespace Fk
open PySem L2 PySem.OwnX
abbrev i_BadName : Stmt := inClass (top 3) 0
theorem sh_BadName : Sh1 i_BadName "name" (114) "BadName.__init__" := ⟨_, _, _, _, _, _, _, _, _, _, _, _, _, _, _, _, _, rfl, rfl, rfl, ⟨rfl, by decide +kernel⟩, ⟨fun _ _ _ _ _ _ _ _ _ => rfl⟩⟩
abbrev i_RepeatedFork : Stmt := inClass (top 5) 0
theorem sh_RepeatedFork : Sh1 i_RepeatedFork "name" (114) "RepeatedFork.__init__" := ⟨_, _, _, _, _, _, _, _, _, _, _, _, _, _, _, _, _, rfl, rfl, rfl, ⟨rfl, by decide +kernel⟩, ⟨fun _ _ _ _ _ _ _ _ _ => rfl⟩⟩
abbrev i_BadText : Stmt := inClass (top 6) 0
theorem sh_BadText : Sh1 i_BadText "text" (114) "BadText.__init__" := ⟨_, _, _, _, _, _, _, _, _, _, _, _, _, _, _, _, _, rfl, rfl, rfl, ⟨rfl, by decide +kernel⟩, ⟨fun _ _ _ _ _ _ _ _ _ => rfl⟩⟩
def rOk (o : Option (Option Value)) : Bool := match o with | some none => true | some (some (.ref _)) => true | _ => false
theorem rOk_of {o : Option (Option Value)} (h : rOk o = true) : ∃ rc, o = some rc ∧ (rc = none ∨ ∃ g : Addr, rc = some (.ref g)) := by
  unfold rOk at h
  split at h
  · exact ⟨_, rfl, .inl rfl⟩
  · exact ⟨_, rfl, .inr ⟨_, rfl⟩⟩
  · cases h
theorem all_mk {l : PySem.W.OpenLaw} {w : World} {K : PySem.W.Frag} {h : Heap} {mg : Str → Option Value} {fa C CF CB CR CT fI eCB eCR eCT : Addr} {t0 : Tok} (X : K.In h) (G : h.Ns mainGlobals mg) (hfa : mg "law" = some (.ref fa))
    (hCB : ErrA l.prog K mg "BadName" CB eCB ["name"] ∧ ErrF l.prog K CB eCB "BadName.__init__" (defArgs i_BadName) (defBody i_BadName) (defScope i_BadName))
    (hCR : ErrA l.prog K mg "RepeatedFork" CR eCR ["name"] ∧ ErrF l.prog K CR eCR "RepeatedFork.__init__" (defArgs i_RepeatedFork) (defBody i_RepeatedFork) (defScope i_RepeatedFork))
    (hCT : ErrA l.prog K mg "BadText" CT eCT ["text"] ∧ ErrF l.prog K CT eCT "BadText.__init__" (defArgs i_BadText) (defBody i_BadText) (defScope i_BadText))
    (gF : PySem.W.nsIn K mainGlobals "ForkError" = some (some (.ref CF))) (gC : PySem.W.nsIn K mainGlobals "Tuning" = some (some (.ref C))) (gM : PySem.W.nsIn K mainGlobals "MOST_LETTERS" = some (some (.int 12 t0)))
    (O : OwnC K C fI ["_table", "_names"]) (kx : (decide (rOk (PySem.W.findIn K (.ref C) "__radd__") = true) && (decide (PySem.W.selfFirst K C = true) && (decide ((PySem.W.findIn K (.type "int") "__add__").isSome = true) && (decide ((PySem.W.findIn K (.type "int") "__radd__").isSome = true) && (decide (PySem.W.subIn K (.type "int") (.ref C) = some false) && (decide (PySem.W.exmOne K (.ref CT) (.ref CF) = some true) && (decide (PySem.W.kitOne K (.ref CT) (.ref CT) = some true) && (decide (PySem.W.kitOne K (.ref CT) (.type "ValueError") = some true) && (decide (PySem.W.readsIn K C (.type "type") = true) && (decide (He.eqO (PySem.W.specialIn K (.ref C) "__getattribute__") (some (some (.builtin "type.__getattribute__"))) = true) && (decide (He5.wrapB K C "staticmethod" "staticmethod.__get__" "read" = true) && (decide (He5.wf K C "staticmethod" "read" = 205))))))))))))) = true)
    {a0 : Addr} {oc0 kV0 dc0 pm0 cd0 ct0 : Value} {od0 an0 : Option Addr} {sl0 : Array (Option Value)} (g0 : PySem.W.nsIn K mainGlobals "is_name" = some (some (.ref a0))) (l0 : K.lookup a0 = some ⟨oc0, od0, .func (PySem.W.fnOf "is_name" "is_name" (defArgs s_is_name) (defBody s_is_name) (defScope s_is_name) .none kV0 dc0 pm0 an0 cd0 ct0), sl0⟩) (c0 : PySem.W.codeIn K cd0 "is_name" = true) (k0 : PySem.W.keepIn K (.ref a0) = true)
    {a1 : Addr} {oc1 kV1 dc1 pm1 cd1 ct1 : Value} {od1 an1 : Option Addr} {sl1 : Array (Option Value)} (g1 : PySem.W.nsIn K mainGlobals "check_name" = some (some (.ref a1))) (l1 : K.lookup a1 = some ⟨oc1, od1, .func (PySem.W.fnOf "check_name" "check_name" (defArgs s_check_name) (defBody s_check_name) (defScope s_check_name) .none kV1 dc1 pm1 an1 cd1 ct1), sl1⟩) (c1 : PySem.W.codeIn K cd1 "check_name" = true) (k1 : PySem.W.keepIn K (.ref a1) = true)
    {a2 : Addr} {oc2 kV2 dc2 pm2 cd2 ct2 : Value} {od2 an2 : Option Addr} {sl2 : Array (Option Value)} (g2 : PySem.W.nsIn K mainGlobals "is_numeral" = some (some (.ref a2))) (l2 : K.lookup a2 = some ⟨oc2, od2, .func (PySem.W.fnOf "is_numeral" "is_numeral" (defArgs s_is_numeral) (defBody s_is_numeral) (defScope s_is_numeral) .none kV2 dc2 pm2 an2 cd2 ct2), sl2⟩) (c2 : PySem.W.codeIn K cd2 "is_numeral" = true) (k2 : PySem.W.keepIn K (.ref a2) = true)
    {a3 : Addr} {oc3 kV3 dc3 pm3 cd3 ct3 : Value} {od3 an3 : Option Addr} {sl3 : Array (Option Value)} (g3 : PySem.W.nsIn K mainGlobals "table_of" = some (some (.ref a3))) (l3 : K.lookup a3 = some ⟨oc3, od3, .func (PySem.W.fnOf "table_of" "table_of" (defArgs s_table_of) (defBody s_table_of) (defScope s_table_of) .none kV3 dc3 pm3 an3 cd3 ct3), sl3⟩) (c3 : PySem.W.codeIn K cd3 "table_of" = true) (k3 : PySem.W.keepIn K (.ref a3) = true)
    {a4 : Addr} {oc4 kV4 dc4 pm4 cd4 ct4 : Value} {od4 an4 : Option Addr} {sl4 : Array (Option Value)} (g4 : PySem.W.nsIn K mainGlobals "is_pitch" = some (some (.ref a4))) (l4 : K.lookup a4 = some ⟨oc4, od4, .func (PySem.W.fnOf "is_pitch" "is_pitch" (defArgs s_is_pitch) (defBody s_is_pitch) (defScope s_is_pitch) .none kV4 dc4 pm4 an4 cd4 ct4), sl4⟩) (c4 : PySem.W.codeIn K cd4 "is_pitch" = true) (k4 : PySem.W.keepIn K (.ref a4) = true)
    {a5 : Addr} {oc5 kV5 dc5 pm5 cd5 ct5 : Value} {od5 an5 : Option Addr} {sl5 : Array (Option Value)} (g5 : PySem.W.nsIn K mainGlobals "_law_bag" = some (some (.ref a5))) (l5 : K.lookup a5 = some ⟨oc5, od5, .func (PySem.W.fnOf "_law_bag" "_law_bag" (defArgs s__law_bag) (defBody s__law_bag) (defScope s__law_bag) .none kV5 dc5 pm5 an5 cd5 ct5), sl5⟩) (c5 : PySem.W.codeIn K cd5 "_law_bag" = true) (k5 : PySem.W.keepIn K (.ref a5) = true)
    {a6 : Addr} {oc6 kV6 dc6 pm6 cd6 ct6 : Value} {od6 an6 : Option Addr} {sl6 : Array (Option Value)} (g6 : PySem.W.nsIn K mainGlobals "_law_mixed" = some (some (.ref a6))) (l6 : K.lookup a6 = some ⟨oc6, od6, .func (PySem.W.fnOf "_law_mixed" "_law_mixed" (defArgs s__law_mixed) (defBody s__law_mixed) (defScope s__law_mixed) .none kV6 dc6 pm6 an6 cd6 ct6), sl6⟩) (c6 : PySem.W.codeIn K cd6 "_law_mixed" = true) (k6 : PySem.W.keepIn K (.ref a6) = true)
    {a7 : Addr} {oc7 kV7 dc7 pm7 cd7 ct7 : Value} {od7 an7 : Option Addr} {sl7 : Array (Option Value)} (g7 : PySem.W.nsIn K mainGlobals "_law_take" = some (some (.ref a7))) (l7 : K.lookup a7 = some ⟨oc7, od7, .func (PySem.W.fnOf "_law_take" "_law_take" (defArgs s__law_take) (defBody s__law_take) (defScope s__law_take) .none kV7 dc7 pm7 an7 cd7 ct7), sl7⟩) (c7 : PySem.W.codeIn K cd7 "_law_take" = true) (k7 : PySem.W.keepIn K (.ref a7) = true)
    {a8 : Addr} {oc8 kV8 dc8 pm8 cd8 ct8 : Value} {od8 an8 : Option Addr} {sl8 : Array (Option Value)} (g8 : PySem.W.nsIn K mainGlobals "_law_name" = some (some (.ref a8))) (l8 : K.lookup a8 = some ⟨oc8, od8, .func (PySem.W.fnOf "_law_name" "_law_name" (defArgs s__law_name) (defBody s__law_name) (defScope s__law_name) .none kV8 dc8 pm8 an8 cd8 ct8), sl8⟩) (c8 : PySem.W.codeIn K cd8 "_law_name" = true) (k8 : PySem.W.keepIn K (.ref a8) = true)
    {a9 : Addr} {oc9 kV9 dc9 pm9 cd9 ct9 : Value} {od9 an9 : Option Addr} {sl9 : Array (Option Value)} (g9 : PySem.W.nsIn K mainGlobals "_law_names" = some (some (.ref a9))) (l9 : K.lookup a9 = some ⟨oc9, od9, .func (PySem.W.fnOf "_law_names" "_law_names" (defArgs s__law_names) (defBody s__law_names) (defScope s__law_names) .none kV9 dc9 pm9 an9 cd9 ct9), sl9⟩) (c9 : PySem.W.codeIn K cd9 "_law_names" = true) (k9 : PySem.W.keepIn K (.ref a9) = true)
    {a10 : Addr} {oc10 kV10 dc10 pm10 cd10 ct10 : Value} {od10 an10 : Option Addr} {sl10 : Array (Option Value)} (g10 : PySem.W.nsIn K mainGlobals "_law_is_int" = some (some (.ref a10))) (l10 : K.lookup a10 = some ⟨oc10, od10, .func (PySem.W.fnOf "_law_is_int" "_law_is_int" (defArgs s__law_is_int) (defBody s__law_is_int) (defScope s__law_is_int) .none kV10 dc10 pm10 an10 cd10 ct10), sl10⟩) (c10 : PySem.W.codeIn K cd10 "_law_is_int" = true) (k10 : PySem.W.keepIn K (.ref a10) = true)
    {a11 : Addr} {oc11 kV11 dc11 pm11 cd11 ct11 : Value} {od11 an11 : Option Addr} {sl11 : Array (Option Value)} (g11 : PySem.W.nsIn K mainGlobals "_law_row" = some (some (.ref a11))) (l11 : K.lookup a11 = some ⟨oc11, od11, .func (PySem.W.fnOf "_law_row" "_law_row" (defArgs s__law_row) (defBody s__law_row) (defScope s__law_row) .none kV11 dc11 pm11 an11 cd11 ct11), sl11⟩) (c11 : PySem.W.codeIn K cd11 "_law_row" = true) (k11 : PySem.W.keepIn K (.ref a11) = true)
    {a12 : Addr} {oc12 kV12 dc12 pm12 cd12 ct12 : Value} {od12 an12 : Option Addr} {sl12 : Array (Option Value)} (g12 : PySem.W.nsIn K mainGlobals "_law_texts" = some (some (.ref a12))) (l12 : K.lookup a12 = some ⟨oc12, od12, .func (PySem.W.fnOf "_law_texts" "_law_texts" (defArgs s__law_texts) (defBody s__law_texts) (defScope s__law_texts) .none kV12 dc12 pm12 an12 cd12 ct12), sl12⟩) (c12 : PySem.W.codeIn K cd12 "_law_texts" = true) (k12 : PySem.W.keepIn K (.ref a12) = true)
    {a13 : Addr} {oc13 kV13 dc13 pm13 cd13 ct13 : Value} {od13 an13 : Option Addr} {sl13 : Array (Option Value)} (g13 : PySem.W.nsIn K mainGlobals "_law_pitch" = some (some (.ref a13))) (l13 : K.lookup a13 = some ⟨oc13, od13, .func (PySem.W.fnOf "_law_pitch" "_law_pitch" (defArgs s__law_pitch) (defBody s__law_pitch) (defScope s__law_pitch) .none kV13 dc13 pm13 an13 cd13 ct13), sl13⟩) (c13 : PySem.W.codeIn K cd13 "_law_pitch" = true) (k13 : PySem.W.keepIn K (.ref a13) = true)
    {a14 : Addr} {oc14 kV14 dc14 pm14 cd14 ct14 : Value} {od14 an14 : Option Addr} {sl14 : Array (Option Value)} (g14 : PySem.W.nsIn K mainGlobals "_law_is_tuning" = some (some (.ref a14))) (l14 : K.lookup a14 = some ⟨oc14, od14, .func (PySem.W.fnOf "_law_is_tuning" "_law_is_tuning" (defArgs s__law_is_tuning) (defBody s__law_is_tuning) (defScope s__law_is_tuning) .none kV14 dc14 pm14 an14 cd14 ct14), sl14⟩) (c14 : PySem.W.codeIn K cd14 "_law_is_tuning" = true) (k14 : PySem.W.keepIn K (.ref a14) = true)
    {a15 : Addr} {oc15 kV15 dc15 pm15 cd15 ct15 : Value} {od15 an15 : Option Addr} {sl15 : Array (Option Value)} (g15 : PySem.W.nsIn K mainGlobals "_law_refused" = some (some (.ref a15))) (l15 : K.lookup a15 = some ⟨oc15, od15, .func (PySem.W.fnOf "_law_refused" "_law_refused" (defArgs s__law_refused) (defBody s__law_refused) (defScope s__law_refused) .none kV15 dc15 pm15 an15 cd15 ct15), sl15⟩) (c15 : PySem.W.codeIn K cd15 "_law_refused" = true) (k15 : PySem.W.keepIn K (.ref a15) = true)
    {a16 : Addr} {oc16 kV16 dc16 pm16 cd16 ct16 : Value} {od16 an16 : Option Addr} {sl16 : Array (Option Value)} (g16 : PySem.W.nsIn K mainGlobals "_law_spoilt" = some (some (.ref a16))) (l16 : K.lookup a16 = some ⟨oc16, od16, .func (PySem.W.fnOf "_law_spoilt" "_law_spoilt" (defArgs s__law_spoilt) (defBody s__law_spoilt) (defScope s__law_spoilt) .none kV16 dc16 pm16 an16 cd16 ct16), sl16⟩) (c16 : PySem.W.codeIn K cd16 "_law_spoilt" = true) (k16 : PySem.W.keepIn K (.ref a16) = true)
    {a17 : Addr} {oc17 kV17 dc17 pm17 cd17 ct17 : Value} {od17 an17 : Option Addr} {sl17 : Array (Option Value)} (g17 : PySem.W.nsIn K mainGlobals "law" = some (some (.ref a17))) (l17 : K.lookup a17 = some ⟨oc17, od17, .func (PySem.W.fnOf "law" "law" (defArgs s_law) (defBody s_law) (defScope s_law) .none kV17 dc17 pm17 an17 cd17 ct17), sl17⟩) (c17 : PySem.W.codeIn K cd17 "law" = true) (k17 : PySem.W.keepIn K (.ref a17) = true)
     {oc100 kV100 dc100 pm100 cd100 ct100 : Value} {od100 an100 : Option Addr} {sl100 : Array (Option Value)} (l100 : K.lookup fI = some ⟨oc100, od100, .func (PySem.W.fnOf "__init__" "Tuning.__init__" (defArgs s_Tuning___init__) (defBody s_Tuning___init__) (defScope s_Tuning___init__) .none kV100 dc100 pm100 an100 cd100 ct100), sl100⟩) (c100 : PySem.W.codeIn K cd100 "Tuning.__init__" = true) (k100 : PySem.W.keepIn K (.ref fI) = true)
    {a101 : Addr} {oc101 kV101 dc101 pm101 cd101 ct101 : Value} {od101 an101 : Option Addr} {sl101 : Array (Option Value)} (g101 : PySem.W.findIn K (.ref C) "names" = some (some (.ref a101))) (i101 : PySem.W.isFn K (.ref a101) = true) (l101 : K.lookup a101 = some ⟨oc101, od101, .func (PySem.W.fnOf "names" "Tuning.names" (defArgs s_Tuning_names) (defBody s_Tuning_names) (defScope s_Tuning_names) .none kV101 dc101 pm101 an101 cd101 ct101), sl101⟩) (c101 : PySem.W.codeIn K cd101 "Tuning.names" = true) (k101 : PySem.W.keepIn K (.ref a101) = true)
    {a102 : Addr} {oc102 kV102 dc102 pm102 cd102 ct102 : Value} {od102 an102 : Option Addr} {sl102 : Array (Option Value)} (g102 : PySem.W.findIn K (.ref C) "pitches" = some (some (.ref a102))) (i102 : PySem.W.isFn K (.ref a102) = true) (l102 : K.lookup a102 = some ⟨oc102, od102, .func (PySem.W.fnOf "pitches" "Tuning.pitches" (defArgs s_Tuning_pitches) (defBody s_Tuning_pitches) (defScope s_Tuning_pitches) .none kV102 dc102 pm102 an102 cd102 ct102), sl102⟩) (c102 : PySem.W.codeIn K cd102 "Tuning.pitches" = true) (k102 : PySem.W.keepIn K (.ref a102) = true)
    {u0 : Tok} (gc0 : PySem.W.nsIn K mainGlobals "MOST_DIGITS" = some (some (.int 40 u0)))
    {ocR kVR dcR pmR cdR ctR : Value} {odR anR : Option Addr} {slR : Array (Option Value)} (lR : K.lookup 205 = some ⟨ocR, odR, .func (PySem.W.fnOf "read" "Tuning.read" (defArgs s_Tuning_read) (defBody s_Tuning_read) (defScope s_Tuning_read) .none kVR dcR pmR anR cdR ctR), slR⟩) (cR : PySem.W.codeIn K cdR "Tuning.read" = true) (kR : PySem.W.keepIn K (.ref 205) = true)
    (y0 : PySem.W.nsIn K mainGlobals "len" = some none) (y1 : PySem.W.nsIn K mainGlobals "abs" = some none) (y2 : PySem.W.nsIn K mainGlobals "max" = some none) (y3 : PySem.W.nsIn K mainGlobals "min" = some none) (y4 : PySem.W.nsIn K mainGlobals "int" = some none) (y5 : PySem.W.nsIn K mainGlobals "range" = some none) (y6 : PySem.W.nsIn K mainGlobals "zip" = some none) (y7 : PySem.W.nsIn K mainGlobals "isinstance" = some none) (y8 : PySem.W.nsIn K mainGlobals "bool" = some none) (y9 : PySem.W.nsIn K mainGlobals "tuple" = some none) (y10 : PySem.W.nsIn K mainGlobals "list" = some none) (y11 : PySem.W.nsIn K mainGlobals "str" = some none) (y12 : PySem.W.nsIn K mainGlobals "all" = some none) (y13 : PySem.W.nsIn K mainGlobals "ValueError" = some none) :
    ∃ fd : FuncData, (∀ (s : Shared) (v : Value), BindsTo s fd ⟨[v], []⟩ [("_law_script", v)]) ∧ ∀ base : Heap, K.In base → base.Ns mainGlobals mg → FnOk l.prog w K mg base CX0 10 fa fd ["_law_script"] (spLaw K) := by
  have e := hfa.symm.trans (PySem.W.mg_of X G g17)
  cases e
  have z_len := PySem.W.mg_none_of X G y0
  have z_abs := PySem.W.mg_none_of X G y1
  have z_max := PySem.W.mg_none_of X G y2
  have z_min := PySem.W.mg_none_of X G y3
  have z_int := PySem.W.mg_none_of X G y4
  have z_range := PySem.W.mg_none_of X G y5
  have z_zip := PySem.W.mg_none_of X G y6
  have z_isinstance := PySem.W.mg_none_of X G y7
  have z_bool := PySem.W.mg_none_of X G y8
  have z_tuple := PySem.W.mg_none_of X G y9
  have z_list := PySem.W.mg_none_of X G y10
  have z_str := PySem.W.mg_none_of X G y11
  have z_all := PySem.W.mg_none_of X G y12
  have z_ValueError := PySem.W.mg_none_of X G y13
  have nm : NmOk "name" := ⟨by decide +kernel, by decide +kernel, by decide +kernel, by decide +kernel, by decide +kernel⟩
  have nmtext : NmOk "text" := ⟨by decide +kernel, by decide +kernel, by decide +kernel, by decide +kernel, by decide +kernel⟩
  have ECB : Err1 l.prog K mg "BadName" CB "name" 114 := ⟨⟨_, _, i_BadName, hCB.1, hCB.2, sh_BadName⟩, nm⟩
  have ECR : Err1 l.prog K mg "RepeatedFork" CR "name" 114 := ⟨⟨_, _, i_RepeatedFork, hCR.1, hCR.2, sh_RepeatedFork⟩, nm⟩
  have ECT : Err1 l.prog K mg "BadText" CT "text" 114 := ⟨⟨_, _, i_BadText, hCT.1, hCT.2, sh_BadText⟩, nmtext⟩
  have gT := PySem.W.mg_of X G gC
  have gM0 := PySem.W.mg_of X G gM
  have gF0 := PySem.W.mg_of X G gF
  simp only [Bool.and_eq_true, decide_eq_true_eq] at kx
  obtain ⟨f_radd, f_first, f_i1, f_i2, f_s1, f_tf, f_k1, f_k2, kr1, kr2, kr3, kr4⟩ := kx
  have B : Bn mg := ⟨z_len, z_abs, z_max, z_int, z_range⟩
  have M : Bm mg := ⟨z_range, z_len, z_isinstance, z_int, z_bool, z_tuple, z_list, z_str, z_all⟩
  have Tw : Tw l.prog K mg CB CR t0 := ⟨z_len, gM0, ECB, ECR, z_zip⟩
  have Tc : Tc K mg C := ⟨O.cls, O.no _ (by simp), O.no _ (by simp), z_list, z_tuple⟩
  have badd : Fx.BinT K C "__add__" "__radd__" := ⟨f_first, rOk_of f_radd, Option.isSome_iff_exists.mp f_i1, Option.isSome_iff_exists.mp f_i2, f_s1⟩
  have To : To K mg C := ⟨O.cls, O.no _ (by simp), O.no _ (by simp), gT, z_isinstance, z_max, z_min, O.ty, O.kit, f_first, badd⟩
  have Tm : Tm mg u0 := ⟨z_len, PySem.W.mg_of X G gc0⟩
  have Tr : Tr l.prog K mg C CT := ⟨gT, ECT, z_list, z_int⟩
  have Tq : Tq l.prog K mg C CT CF := ⟨gT, gF0, ECT, z_isinstance, z_ValueError, f_tf, f_k1, f_k2⟩
  have Tl : Tl K mg C := ⟨O.cls, gT, z_len, z_list, z_range, z_str, z_int, z_isinstance⟩
  have F0 := fun_mk (st := s_is_name) l0 c0 k0
  have b0 := F0.binds (ps := ["word"]) fun _ _ _ _ _ _ us hl => match us, hl with | [_], _ => rfl
  have F1 := fun_mk (st := s_check_name) l1 c1 k1
  have b1 := F1.binds (ps := ["word"]) fun _ _ _ _ _ _ us hl => match us, hl with | [_], _ => rfl
  have F2 := fun_mk (st := s_is_numeral) l2 c2 k2
  have b2 := F2.binds (ps := ["word", "most"]) fun _ _ _ _ _ _ us hl => match us, hl with | [_, _], _ => rfl
  have F3 := fun_mk (st := s_table_of) l3 c3 k3
  have b3 := F3.binds (ps := ["names", "pitches"]) fun _ _ _ _ _ _ us hl => match us, hl with | [_, _], _ => rfl
  have F4 := fun_mk (st := s_is_pitch) l4 c4 k4
  have b4 := F4.binds (ps := ["word"]) fun _ _ _ _ _ _ us hl => match us, hl with | [_], _ => rfl
  have F5 := fun_mk (st := s__law_bag) l5 c5 k5
  have b5 := F5.binds (ps := ["_law_script"]) fun _ _ _ _ _ _ us hl => match us, hl with | [_], _ => rfl
  have F6 := fun_mk (st := s__law_mixed) l6 c6 k6
  have b6 := F6.binds (ps := ["_law_cell", "_law_turn"]) fun _ _ _ _ _ _ us hl => match us, hl with | [_, _], _ => rfl
  have F7 := fun_mk (st := s__law_take) l7 c7 k7
  have b7 := F7.binds (ps := ["_law_bag_here", "_law_many"]) fun _ _ _ _ _ _ us hl => match us, hl with | [_, _], _ => rfl
  have F8 := fun_mk (st := s__law_name) l8 c8 k8
  have b8 := F8.binds (ps := ["_law_bag_here", "_law_names_here"]) fun _ _ _ _ _ _ us hl => match us, hl with | [_, _], _ => rfl
  have F9 := fun_mk (st := s__law_names) l9 c9 k9
  have b9 := F9.binds (ps := ["_law_bag_here", "_law_many"]) fun _ _ _ _ _ _ us hl => match us, hl with | [_, _], _ => rfl
  have F10 := fun_mk (st := s__law_is_int) l10 c10 k10
  have b10 := F10.binds (ps := ["_law_thing"]) fun _ _ _ _ _ _ us hl => match us, hl with | [_], _ => rfl
  have F11 := fun_mk (st := s__law_row) l11 c11 k11
  have b11 := F11.binds (ps := ["_law_thing", "_law_due"]) fun _ _ _ _ _ _ us hl => match us, hl with | [_, _], _ => rfl
  have F12 := fun_mk (st := s__law_texts) l12 c12 k12
  have b12 := F12.binds (ps := ["_law_thing", "_law_due"]) fun _ _ _ _ _ _ us hl => match us, hl with | [_, _], _ => rfl
  have F13 := fun_mk (st := s__law_pitch) l13 c13 k13
  have b13 := F13.binds (ps := ["_law_bag_here"]) fun _ _ _ _ _ _ us hl => match us, hl with | [_], _ => rfl
  have F14 := fun_mk (st := s__law_is_tuning) l14 c14 k14
  have b14 := F14.binds (ps := ["_law_thing", "_law_names_here", "_law_pitches"]) fun _ _ _ _ _ _ us hl => match us, hl with | [_, _, _], _ => rfl
  have F15 := fun_mk (st := s__law_refused) l15 c15 k15
  have b15 := F15.binds (ps := ["_law_text"]) fun _ _ _ _ _ _ us hl => match us, hl with | [_], _ => rfl
  have F16 := fun_mk (st := s__law_spoilt) l16 c16 k16
  have b16 := F16.binds (ps := ["_law_words", "_law_k", "_law_way"]) fun _ _ _ _ _ _ us hl => match us, hl with | [_, _, _], _ => rfl
  have F17 := fun_mk (st := s_law) l17 c17 k17
  have F100 := fun_mk (st := s_Tuning___init__) l100 c100 k100
  have b100 := F100.binds (ps := ["self", "names", "pitches"]) fun _ _ _ _ _ _ us hl => match us, hl with | [_, _, _], _ => rfl
  have F101 := fun_mk (st := s_Tuning_names) l101 c101 k101
  have b101 := F101.binds (ps := ["self"]) fun _ _ _ _ _ _ us hl => match us, hl with | [_], _ => rfl
  have F102 := fun_mk (st := s_Tuning_pitches) l102 c102 k102
  have b102 := F102.binds (ps := ["self"]) fun _ _ _ _ _ _ us hl => match us, hl with | [_], _ => rfl
  refine ⟨PySem.W.fnOf "law" "law" (defArgs s_law) (defBody s_law) (defScope s_law) .none kV17 dc17 pm17 an17 cd17 ct17, fun s v => .of_eq rfl, fun base _ _ => ?_⟩
  have m0 : C8.Cal l.prog w K mg base 1 "is_name" spIsName [] := ⟨_, _, _, [], ok_is_name F0 Tw, PySem.W.mg_of X G g0, k0, b0, .nil⟩
  have m1 : CalX l.prog w K mg base 3 "check_name" (spCheck CB) := ⟨_, _, _, ok_check_name F1 Tw m0, PySem.W.mg_of X G g1, k1, b1⟩
  have m2 : C8.Cal l.prog w K mg base 1 "is_numeral" spNumeral [] := ⟨_, _, _, [], ok_numeral F2 Tm, PySem.W.mg_of X G g2, k2, b2, .nil⟩
  have m3 : CalX l.prog w K mg base 4 "table_of" (spTable CB CR) := ⟨_, _, _, ok_table_of F3 Tw m1, PySem.W.mg_of X G g3, k3, b3⟩
  have m4 : C8.Cal l.prog w K mg base 2 "is_pitch" spPitchB [] := ⟨_, _, _, [], ok_pitchB F4 Tm m2, PySem.W.mg_of X G g4, k4, b4, .nil⟩
  have k_Tuning : Fx.MkX l.prog w K mg base 5 "Tuning" C (spInit C CB CR) := ⟨_, _, _, O.made, ok_init F100 Tc m3, gT, b100⟩
  have q_names : Fx.MethC l.prog w K mg base 1 C "names" (spNamesM C) := ⟨_, _, _, ⟨g101, i101, k101⟩, ok_names F101 Tc, b101⟩
  have q_pitches : Fx.MethC l.prog w K mg base 1 C "pitches" (spPitches C) := ⟨_, _, _, ⟨g102, i102, k102⟩, ok_pitches F102 Tc, b102⟩
  have cr : ClX.CRead K C (.type "type") := ⟨kr1, He.eqO_ok kr2⟩
  have sm : Fx.SMet K C (.type "type") "read" (He.ma K C "read") 205 := ⟨(He5.wrapB_ok kr3).1, kr4 ▸ (He5.wrapB_ok kr3).2, kR⟩
  have FR := fun_mk (st := s_Tuning_read) lR cR kR
  have bR := FR.binds (ps := ["text"]) fun _ _ _ _ _ _ us hl => match us, hl with | [_], _ => rfl
  have r_read : Fx.SmX l.prog w K mg base 7 C "read" (spRead C CT) := ⟨_, _, _, _, _, cr, sm, ok_read FR Tr m0 m4 k_Tuning, bR⟩
  have m5 : C8.Cal l.prog w K mg base 1 "_law_bag" (spBag K) [] := ⟨_, _, _, [], ok_bag F5 B, PySem.W.mg_of X G g5, k5, b5, .nil⟩
  have m6 : C8.Cal l.prog w K mg base 1 "_law_mixed" spMixed [] := ⟨_, _, _, [], ok_mixed F6 B, PySem.W.mg_of X G g6, k6, b6, .nil⟩
  have m7 : C8.Cal l.prog w K mg base 2 "_law_take" spTake [] := ⟨_, _, _, [], ok_take F7 B m6, PySem.W.mg_of X G g7, k7, b7, .nil⟩
  have m8 : C8.Cal l.prog w K mg base 3 "_law_name" spName [] := ⟨_, _, _, [], ok_name F8 B m7, PySem.W.mg_of X G g8, k8, b8, .nil⟩
  have m9 : C8.Cal l.prog w K mg base 4 "_law_names" spNames [] := ⟨_, _, _, [], ok_law_names F9 M m7 m8, PySem.W.mg_of X G g9, k9, b9, .nil⟩
  have m10 : C8.Cal l.prog w K mg base 1 "_law_is_int" spIsInt [] := ⟨_, _, _, [], ok_is_int F10 M, PySem.W.mg_of X G g10, k10, b10, .nil⟩
  have m11 : C8.Cal l.prog w K mg base 2 "_law_row" spRow [] := ⟨_, _, _, [], ok_row F11 M m10, PySem.W.mg_of X G g11, k11, b11, .nil⟩
  have m12 : C8.Cal l.prog w K mg base 2 "_law_texts" spTexts [] := ⟨_, _, _, [], ok_texts F12 M, PySem.W.mg_of X G g12, k12, b12, .nil⟩
  have m13 : C8.Cal l.prog w K mg base 3 "_law_pitch" spPitch [] := ⟨_, _, _, [], ok_pitch F13 m7, PySem.W.mg_of X G g13, k13, b13, .nil⟩
  have m14 : C8.Cal l.prog w K mg base 3 "_law_is_tuning" (spIsTuning C) [] := ⟨_, _, _, [], ok_is_tuning F14 ⟨O.cls, gT, M.b_isinstance, M.b_tuple, O.ty, O.kit⟩ m12 m11 q_names q_pitches, PySem.W.mg_of X G g14, k14, b14, .nil⟩
  have m15 : C8.Cal l.prog w K mg base 8 "_law_refused" spRefused [] := ⟨_, _, _, [], ok_refused F15 Tq r_read, PySem.W.mg_of X G g15, k15, b15, .nil⟩
  have m16 : C8.Cal l.prog w K mg base 1 "_law_spoilt" spSpoilt [] := ⟨_, _, _, [], ok_spoilt F16 M, PySem.W.mg_of X G g16, k16, b16, .nil⟩
  exact ok_law F17 Tl m5 m7 m9 m13 m14 m15 m16 r_read
end Fk

open PySem PySem.W PyProof.Rows
set_option maxHeartbeats 0
open_top head for PySem.Challenge.rw_forkbeats_k06_tuning_text_refused
theorem PySem.Challenge.cw_forkbeats_k06_tuning_text_refused_holds : PySem.Challenge.rw_forkbeats_k06_tuning_text_refused.Holds := by
  refine head ?_
  k_fill
  refine L2.walk_of (l := PySem.Challenge.rw_forkbeats_k06_tuning_text_refused) (n := 63) (k := 10) (x := "_law_script") (CX := fun _ => L2.CX0) (sp := fun w => Fk.spLaw _) rfl (by decide) rfl ⟨rfl, by decide, by decide⟩ (fun w h Y => PySem.W.kIn_of Y) ?F (fun _ _ a ns hl _ hS => ⟨a, ns, rfl, hS, hl, fun _ => rfl⟩) fun _ _ _ _ _ z => z
  case F =>
    intro w mg fa h KX G hmg
    have su : mg "super" = none := by
      refine PySem.W.mg_none_of KX G ?z
      (case z => k_is)
    have hBadName : ∃ fI, L2.ErrA PySem.Challenge.rw_forkbeats_k06_tuning_text_refused.prog (head.heap_39 w.params) mg "BadName" 53 fI ["name"] ∧ PySem.OwnX.ErrF PySem.Challenge.rw_forkbeats_k06_tuning_text_refused.prog (head.heap_39 w.params) 53 fI "BadName.__init__" (L2.defArgs Fk.i_BadName) (L2.defBody Fk.i_BadName) (L2.defScope Fk.i_BadName) := by
      refine' ⟨_, PySem.OwnX.err_of (st := Fk.i_BadName) KX G ?aC ?iC ?lC ?rV ?lF ?cF ?lD ?vD ?fD ?lL ?B su ?tp⟩
      (case aC => k_is); (case iC => k_is); (case lC => k_is); (case rV => kernel_rfl); (case lF => k_is); (case cF => k_is); (case lD => k_is); (case vD => rfl); (case fD => kernel_rfl); (case lL => k_is); (case B => kernel_rfl); (case tp => kernel_rfl)
    obtain ⟨fBadName, hBadName⟩ := hBadName
    have hRepeatedFork : ∃ fI, L2.ErrA PySem.Challenge.rw_forkbeats_k06_tuning_text_refused.prog (head.heap_39 w.params) mg "RepeatedFork" 95 fI ["name"] ∧ PySem.OwnX.ErrF PySem.Challenge.rw_forkbeats_k06_tuning_text_refused.prog (head.heap_39 w.params) 95 fI "RepeatedFork.__init__" (L2.defArgs Fk.i_RepeatedFork) (L2.defBody Fk.i_RepeatedFork) (L2.defScope Fk.i_RepeatedFork) := by
      refine' ⟨_, PySem.OwnX.err_of (st := Fk.i_RepeatedFork) KX G ?aC ?iC ?lC ?rV ?lF ?cF ?lD ?vD ?fD ?lL ?B su ?tp⟩
      (case aC => k_is); (case iC => k_is); (case lC => k_is); (case rV => kernel_rfl); (case lF => k_is); (case cF => k_is); (case lD => k_is); (case vD => rfl); (case fD => kernel_rfl); (case lL => k_is); (case B => kernel_rfl); (case tp => kernel_rfl)
    obtain ⟨fRepeatedFork, hRepeatedFork⟩ := hRepeatedFork
    have hBadText : ∃ fI, L2.ErrA PySem.Challenge.rw_forkbeats_k06_tuning_text_refused.prog (head.heap_39 w.params) mg "BadText" 116 fI ["text"] ∧ PySem.OwnX.ErrF PySem.Challenge.rw_forkbeats_k06_tuning_text_refused.prog (head.heap_39 w.params) 116 fI "BadText.__init__" (L2.defArgs Fk.i_BadText) (L2.defBody Fk.i_BadText) (L2.defScope Fk.i_BadText) := by
      refine' ⟨_, PySem.OwnX.err_of (st := Fk.i_BadText) KX G ?aC ?iC ?lC ?rV ?lF ?cF ?lD ?vD ?fD ?lL ?B su ?tp⟩
      (case aC => k_is); (case iC => k_is); (case lC => k_is); (case rV => kernel_rfl); (case lF => k_is); (case cF => k_is); (case lD => k_is); (case vD => rfl); (case fD => kernel_rfl); (case lL => k_is); (case B => kernel_rfl); (case tp => kernel_rfl)
    obtain ⟨fBadText, hBadText⟩ := hBadText
    refine' Fk.all_mk (fI := 188) KX G hmg hBadName hRepeatedFork hBadText ?gF ?gC ?gM (PySem.OwnX.own_of ?O) ?kx ?g0 ?l0 ?c0 ?k0 ?g1 ?l1 ?c1 ?k1 ?g2 ?l2 ?c2 ?k2 ?g3 ?l3 ?c3 ?k3 ?g4 ?l4 ?c4 ?k4 ?g5 ?l5 ?c5 ?k5 ?g6 ?l6 ?c6 ?k6 ?g7 ?l7 ?c7 ?k7 ?g8 ?l8 ?c8 ?k8 ?g9 ?l9 ?c9 ?k9 ?g10 ?l10 ?c10 ?k10 ?g11 ?l11 ?c11 ?k11 ?g12 ?l12 ?c12 ?k12 ?g13 ?l13 ?c13 ?k13 ?g14 ?l14 ?c14 ?k14 ?g15 ?l15 ?c15 ?k15 ?g16 ?l16 ?c16 ?k16 ?g17 ?l17 ?c17 ?k17 ?l100 ?c100 ?k100 ?g101 ?i101 ?l101 ?c101 ?k101 ?g102 ?i102 ?l102 ?c102 ?k102 ?gc0 ?lR ?cR ?kR ?y0 ?y1 ?y2 ?y3 ?y4 ?y5 ?y6 ?y7 ?y8 ?y9 ?y10 ?y11 ?y12 ?y13
    (case gF => k_is); (case gC => k_is); (case gM => k_is); (case O => kernel_rfl); (case kx => kernel_rfl)
    (case g0 => k_is); (case l0 => k_is); (case c0 => k_is); (case k0 => k_is)
    (case g1 => k_is); (case l1 => k_is); (case c1 => k_is); (case k1 => k_is)
    (case g2 => k_is); (case l2 => k_is); (case c2 => k_is); (case k2 => k_is)
    (case g3 => k_is); (case l3 => k_is); (case c3 => k_is); (case k3 => k_is)
    (case g4 => k_is); (case l4 => k_is); (case c4 => k_is); (case k4 => k_is)
    (case g5 => k_is); (case l5 => k_is); (case c5 => k_is); (case k5 => k_is)
    (case g6 => k_is); (case l6 => k_is); (case c6 => k_is); (case k6 => k_is)
    (case g7 => k_is); (case l7 => k_is); (case c7 => k_is); (case k7 => k_is)
    (case g8 => k_is); (case l8 => k_is); (case c8 => k_is); (case k8 => k_is)
    (case g9 => k_is); (case l9 => k_is); (case c9 => k_is); (case k9 => k_is)
    (case g10 => k_is); (case l10 => k_is); (case c10 => k_is); (case k10 => k_is)
    (case g11 => k_is); (case l11 => k_is); (case c11 => k_is); (case k11 => k_is)
    (case g12 => k_is); (case l12 => k_is); (case c12 => k_is); (case k12 => k_is)
    (case g13 => k_is); (case l13 => k_is); (case c13 => k_is); (case k13 => k_is)
    (case g14 => k_is); (case l14 => k_is); (case c14 => k_is); (case k14 => k_is)
    (case g15 => k_is); (case l15 => k_is); (case c15 => k_is); (case k15 => k_is)
    (case g16 => k_is); (case l16 => k_is); (case c16 => k_is); (case k16 => k_is)
    (case g17 => k_is); (case l17 => k_is); (case c17 => k_is); (case k17 => k_is)
    (case l100 => k_is); (case c100 => k_is); (case k100 => k_is)
    (case g101 => k_is); (case i101 => k_is)
    (case l101 => k_is); (case c101 => k_is); (case k101 => k_is)
    (case g102 => k_is); (case i102 => k_is)
    (case l102 => k_is); (case c102 => k_is); (case k102 => k_is)
    (case gc0 => k_is)
    (case lR => k_is); (case cR => k_is); (case kR => k_is)
    (case y0 => k_is); (case y1 => k_is); (case y2 => k_is); (case y3 => k_is); (case y4 => k_is); (case y5 => k_is); (case y6 => k_is); (case y7 => k_is); (case y8 => k_is); (case y9 => k_is); (case y10 => k_is); (case y11 => k_is); (case y12 => k_is); (case y13 => k_is)
#print axioms PySem.Challenge.cw_forkbeats_k06_tuning_text_refused_holds
