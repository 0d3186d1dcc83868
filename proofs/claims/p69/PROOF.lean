import PyProof.Rows.All
import Wide.All
import OpenK.AllK
import Wide.FinOn
import HandS.ForMost
import HandS.Walk
import KE.GoesEnum
import KE.GoesMore
import HandS.More
import HandS.Wide
import HandS.Codes
import HandS.IsInst
import HandS.SortInts
import HandS.Style
import PySem.Challenge.RW_forkbeats_k69_beats_of
set_option Elab.async false
set_option linter.all false
set_option maxRecDepth 100000
set_option maxHeartbeats 4000000
namespace Fx
open PySem PySem.Spec L2
/-! ### a comprehension of two clauses -/
/-- the inner loop's turns, from which Nx is reached -/
def InL (J1 : It) (D : Addr) (g1 : TG) (tt1 : TT) (te : TE) (vs1 : List Nat) (σ2 : St) (H4 : Hp) (Nx : Hp → Prop) : Prop :=
  ∃ W1 : Nat → Nat → Hp → Prop, (∃ m, W1 0 m H4) ∧ ∀ j k H, W1 j k H →
      (J1.stop j H ∧ Nx H) ∨ (J1.go j H ∧ ∃ Nx1 : Hp → Prop, (∀ H', Nx1 H' → ∃ k', k' < k ∧ W1 (j + 1) k' H') ∧ ∀ x H', J1.yld j H x H' → g1 x (wipe σ2 vs1) H' fun σ3 H5 => wipe σ3 vs1 = wipe σ2 vs1 ∧ tt1 σ3 H5 fun b H6 =>
        if b = true then te σ3 H6 fun y H7 => ∃ acc, H7 D = some (.lst acc) ∧ acc.length < sizeLine ∧ Nx1 (upd H7 D (.lst (acc ++ [y]))) else Nx1 H6)
section
variable {J : It} {n : Nat} {G : Hp → Prop} {Y : Nat → Hp → V → Hp → Prop}
theorem in_it (w : Walk J n G Y) {D : Addr} {g1 : TG} {tt1 : TT} {te : TE} {vs1 : List Nat} {σ2 : St} {H4 : Hp} {Nx : Hp → Prop} (Pv : Nat → Hp → Prop) (h0 : Pv 0 H4) (hG : ∀ i H, i ≤ n → Pv i H → G H)
    (hs : ∀ i x H H', i < n → Pv i H → Y i H x H' → g1 x (wipe σ2 vs1) H' fun σ3 H5 => wipe σ3 vs1 = wipe σ2 vs1 ∧ tt1 σ3 H5 fun b H6 =>
      if b = true then te σ3 H6 fun y H7 => ∃ acc, H7 D = some (.lst acc) ∧ acc.length < sizeLine ∧ Pv (i + 1) (upd H7 D (.lst (acc ++ [y]))) else Pv (i + 1) H6) (hd : ∀ H, Pv n H → Nx H) : InL J D g1 tt1 te vs1 σ2 H4 Nx := by
  refine ⟨fun i m H => m = n - i ∧ i ≤ n ∧ Pv i H, ⟨n, by simp, Nat.zero_le _, h0⟩, ?_⟩
  rintro i m H ⟨rfl, hi, p⟩
  have q := hG i H hi p
  by_cases hlt : i < n
  · refine .inr ⟨w.goes i H hlt q, Pv (i + 1), fun H' p' => ⟨n - (i + 1), by omega, rfl, hlt, p'⟩, fun x H' y => hs i x H H' hlt p (w.yields i H x H' hlt q y)⟩
  · have e : i = n := by omega
    subst e
    exact .inl ⟨w.stops H q, hd H p⟩
theorem lc2_it (w : Walk J n G Y) {g : TG} {tt : TT} {wi1 : TI} {g1 : TG} {tt1 : TT} {te : TE} {vs vs1 : List Nat} {σ : St} {H1 : Hp} {D : Addr} {Qd : Hp → Prop} (Pv : Nat → Hp → Prop) (h0 : Pv 0 (upd H1 D (.lst []))) (hG : ∀ i H, i ≤ n → Pv i H → G H)
    (hs : ∀ i x H H', i < n → Pv i H → Y i H x H' → g x (wipe σ vs) H' fun σ2 H2 => wipe σ2 vs = wipe σ vs ∧ tt σ2 H2 fun b H3 =>
      if b = true then wi1 σ2 H3 fun J1 H4 => InL J1 D g1 tt1 te vs1 σ2 H4 (Pv (i + 1)) else Pv (i + 1) H3) (hd : ∀ H, Pv n H → Qd H) :
    ∃ W : Nat → Nat → Hp → Prop, (∃ m, W 0 m (upd H1 D (.lst []))) ∧ ∀ i m H, W i m H →
      (J.stop i H ∧ Qd H) ∨ (J.go i H ∧ ∃ Nx : Hp → Prop, (∀ H', Nx H' → ∃ m', m' < m ∧ W (i + 1) m' H') ∧ ∀ x H', J.yld i H x H' → g x (wipe σ vs) H' fun σ2 H2 => wipe σ2 vs = wipe σ vs ∧ tt σ2 H2 fun b H3 =>
        if b = true then wi1 σ2 H3 fun J1 H4 => InL J1 D g1 tt1 te vs1 σ2 H4 Nx else Nx H3) := by
  refine ⟨fun i m H => m = n - i ∧ i ≤ n ∧ Pv i H, ⟨n, by simp, Nat.zero_le _, h0⟩, ?_⟩
  rintro i m H ⟨rfl, hi, p⟩
  have q := hG i H hi p
  by_cases hlt : i < n
  · refine .inr ⟨w.goes i H hlt q, Pv (i + 1), fun H' p' => ⟨n - (i + 1), by omega, rfl, hlt, p'⟩, fun x H' y => hs i x H H' hlt p (w.yields i H x H' hlt q y)⟩
  · have e : i = n := by omega
    subst e
    exact .inl ⟨w.stops H q, hd H p⟩
end
/-! ### what is walked is a list or a tuple -/
def SqA (K : PySem.W.Frag) (H : Hp) (a : Addr) (xs : List V) : Prop := SqL K H a xs ∨ SqT K H a xs
end Fx
namespace Fx
open PySem L2
/-! ### what a loop keeps: the list that grows at D, all else stands -/
def Gro (D : Addr) (H1 : Hp) (out : Nat → List V) (i : Nat) (H : Hp) : Prop := H D = some (.lst (out i)) ∧ Same H1 H
theorem Gro.start {D : Addr} {H1 : Hp} {out : Nat → List V} (nD : H1 D = none) (e : out 0 = []) : Gro D H1 out 0 (upd H1 D (.lst [])) := by
  refine ⟨by rw [upd_same, e], fun a o h => ?_⟩
  rw [upd_ne (ne_of_none h nD)]
  exact h
theorem Gro.put {D : Addr} {H1 H4 : Hp} {out : Nat → List V} {i : Nat} {y : V} (nD : H1 D = none) (hD : H4 D = some (.lst (out i))) (hs : Same H1 H4) (hl : (out i).length < sizeLine) (e : out (i + 1) = out i ++ [y]) :
    ∃ acc, H4 D = some (.lst acc) ∧ acc.length < sizeLine ∧ Gro D H1 out (i + 1) (upd H4 D (.lst (acc ++ [y]))) := by
  refine ⟨_, hD, hl, by rw [upd_same, e], fun a o h => ?_⟩
  rw [upd_ne (ne_of_none h nD)]
  exact hs a o h
end Fx
namespace Fx
open PySem PySem.Spec L2
theorem Same.seqT {K : PySem.W.Frag} {H H' : Hp} {a : Addr} {xs : List V} (e : Same H H') (h : SqT K H a xs) : SqT K H' a xs := by
  rcases h with (h | ⟨o, h⟩) | h
  · exact .inl (.inl (e _ _ h))
  · exact .inl (.inr ⟨o, e _ _ h⟩)
  · exact .inr h
theorem SqA.same {K : PySem.W.Frag} {H H' : Hp} {a : Addr} {xs : List V} (h : SqA K H a xs) (s : Same H H') : SqA K H' a xs := by
  rcases h with h | h
  · exact .inl (s.seq h)
  · exact .inr (Same.seqT s h)
def iSeq (K : PySem.W.Frag) (tl : TE) : TI := fun σ H R => tl σ H fun x H1 => ∃ (a : Addr) (xs : List V) (H0 : Hp), x = .ref a ∧ SqA K H0 a xs ∧ Same H0 H1 ∧ ∀ J, Walk J xs.length (Same H0) (YAt xs) → R J H1
theorem pi_seq {X : Cx} {tg l : Expr} {tl : TE} (hl : PE X l tl) : PI X tg l (iSeq X.K tl) := by
  refine ⟨fun pins s σ H R I h => ?_⟩
  refine thn (hl.run pins s σ H _ I h) fun v s1 ⟨x, H1, I1, r1, q1⟩ => ?_
  obtain ⟨a, xs, H0, e, hq, sm, q⟩ := q1
  subst e
  cases r1
  have fin : ∀ b ∈ [s1.heap.objs.size], FpOk X pins H1 b := fun b hb => by
    have e : b = s1.heap.objs.size := by simpa using hb
    subst e
    exact I1.fpOk (Nat.le_refl _) (I1.hok.fresh (Nat.le_refl _))
  rcases hq with hq | hq
  · obtain ⟨its, rv, p, hz⟩ := I1.list (sm.seq hq)
    refine wpAny_pyIter_list p.isList ?_
    exact ⟨s1.heap.objs.size, [s1.heap.objs.size], _, _, H1, rfl, I1.kept (t' := s1.toks) fun b o e => Heap.get?_push_of_some _ e, turn_list a _, ⟨_, Heap.get?_push_size _ rfl, rfl, rfl⟩, fin, q _ (walk_list.mono (fun H e => e.seq hq) fun _ _ _ _ _ _ y => y)⟩
  · obtain ⟨its, rv, p, hz⟩ := I1.tuple (Same.seqT sm hq)
    refine wpAny_pyIter_tuple (show s1.heap.IsTuple a its.toArray from p) ?_
    exact ⟨s1.heap.objs.size, [s1.heap.objs.size], _, _, H1, rfl, I1.kept (t' := s1.toks) fun b o e => Heap.get?_push_of_some _ e, turn_tuple a _, ⟨_, Heap.get?_push_size _ rfl, rfl, rfl⟩, fin, q _ (walk_tup.mono (fun H e => Same.seqT e hq) fun _ _ _ _ _ _ y => y)⟩
theorem cutV_to (xs : List V) (k : Nat) : cutV xs none (some (k : Int)) = xs.take k := by
  unfold cutV
  rw [HT.sIx_none, HT.sIx_nat, List.drop_zero, Nat.sub_zero]
  by_cases h : k ≤ xs.length
  · rw [Nat.min_eq_left h]
  · rw [Nat.min_eq_right (by omega), List.take_of_length_le (Nat.le_refl _), List.take_of_length_le (by omega)]
end Fx

namespace Fx
open PySem PySem.Spec
/-! ### enumerate of a tuple -/
abbrev enO (n : Addr) : Obj := { cls := .type "enumerate", data := .fields #[.none, .bool false, .ref n, rawInt 0, .none, .none] }
/-- a new enumerate over what begins at v -/
theorem en_meets {v : Value} {o : Obj} {H : Heap → Prop} (B : Begins v o H) :
    Meets (Builtin.«enumerate.__new__» ⟨[.type "enumerate", v], []⟩) (fun _ R s => H s.heap ∧ R (.ok (.ret (.ref (s.heap.push o).objs.size))) { s with heap := (s.heap.push o).push (enO s.heap.objs.size) }) := by
  refine .of_wp ?_
  rintro prog w A R ⟨hp, g, d, tk, os⟩ ⟨hH, h⟩
  have hsub := sub_enumerate
  have it : ∀ {A' : Around} {E : Value → Shared → Prop} {Q : Value → Shared → Prop}, Q (.ref hp.objs.size) ⟨hp.push o, g, d, tk, os⟩ → wpAny (model prog w) A' (pyIter v) Q E ⟨hp, g, d, tk, os⟩ := by
    intro A' E Q q
    exact B.iter prog w _ _ ⟨hp, g, d, tk, os⟩ _ hH q
  wp_walk using it
  refine wpAny_stack_any ?_
  intro st
  refine wpAny_pure ?_
  split
  next c _ _ _ _ _ =>
    cases (c == Value.type "enumerate") <;> (wp_walk using it) <;> exact ⟨_, rfl, h⟩
  next =>
    wp_walk using it
    exact ⟨_, rfl, h⟩
theorem en_call {prog : Program} {w : World} {A : Around} {E : Value → Shared → Prop} {s : Shared} {v : Value} {o : Obj} {H : Heap → Prop} {Q : Value → Shared → Prop} (B : Begins v o H) (hH : H s.heap)
    (h : ∀ h', IsEnum h' (s.heap.objs.size + 1) s.heap.objs.size 0 .none → h'.get? s.heap.objs.size = some o → (∀ b ob, s.heap.get? b = some ob → h'.get? b = some ob) → Q (.ref (s.heap.objs.size + 1)) { s with heap := h' }) :
    wpAny (model prog w) A (call (.type "enumerate") [v]) Q E s := by
  refine callType_new F.called_enumerate (by decide) (F.typeCall_enumerate_1 _) (F.newCall_enumerate_1 _) (fun obj => F.args_object_init_2 obj _) F.entry_enumerate_new (en_meets B) ⟨hH, ?_⟩
  have sz : (s.heap.push o).objs.size = s.heap.objs.size + 1 := Heap.size_push ..
  have top : ((s.heap.push o).push (enO s.heap.objs.size)).get? (s.heap.objs.size + 1) = some (enO s.heap.objs.size) := by
    have e := Heap.get?_push_size (s.heap.push o) (o := enO s.heap.objs.size) rfl
    rwa [sz] at e
  show _ ∧ _
  rw [sz]
  exact ⟨⟨_, top, rfl⟩, h _ top (Heap.get?_push_of_some _ (Heap.get?_push_size _ B.free)) fun b ob e => Heap.get?_push_of_some _ (Heap.get?_push_of_some _ e)⟩
end Fx
namespace Fx
open PySem PySem.Spec L2
open PyProof.Rows (boot_enumerate)
/-- the tuple at a as it stands at each turn, each item in a new pair -/
def IteT (K : PySem.W.Frag) (a : Addr) : It :=
  ⟨fun i H => ∃ (xs : List V) (x : V), SqT K H a xs ∧ xs[i]? = some x, fun i H v H' => ∃ T x, v = .ref T ∧ H T = none ∧ H' = upd H T (.tup [.int (i : Nat), x]) ∧ ∀ xs, SqT K H a xs → xs[i]? = some x, fun i H => ∃ xs : List V, SqT K H a xs ∧ xs.length = i⟩
theorem turn_enT {P : Program} {w : World} {K : PySem.W.Frag} {elts : List Expr} {kk : Nat} {tpos : Pos} (a e it : Addr) :
    Turn P w K (.Tuple elts kk tpos) (IteT K a) [e, it] e (fun i h => (∃ old, IsEnum h e it ((i : Nat) : Int) old) ∧ h.IsTupleIter it a i ∧ e ≠ it) where
  mem := List.mem_cons_self
  obj := by
    rintro i h ⟨⟨old, he⟩, ⟨o, ho, hc, hd⟩, _⟩ b hb
    rcases List.mem_cons.mp hb with rfl | hb
    · exact ⟨_, he, fun v q => nomatch q⟩
    · obtain rfl := List.mem_singleton.mp hb
      exact ⟨o, ho, fun v q => by rw [hd] at q; cases q⟩
  keep := by
    rintro i h h' ⟨⟨old, he⟩, hi, hne⟩ k
    exact ⟨⟨old, k e List.mem_cons_self _ he⟩, hi.at fun o q => k it (List.mem_cons_of_mem _ List.mem_cons_self) o q, hne⟩
  item := by
    rintro X rfl rfl rfl hc i pins s σ H E I hf ⟨⟨old, he⟩, hit, hne⟩ ⟨xs, x, hq, hx⟩
    obtain ⟨its, rv, p, hz⟩ := I.tuple hq
    have p : s.heap.IsTuple a its.toArray := p
    obtain ⟨u, hu, ru⟩ := rv.get hx
    have hel : e < s.heap.objs.size := Heap.lt_size he
    have hil : it < s.heap.objs.size := by
      obtain ⟨_, q, _⟩ := hit
      exact Heap.lt_size q
    have hal : a < s.heap.objs.size := by
      obtain ⟨_, q, _⟩ := p
      exact Heap.lt_size q
    have hai : a ≠ it := by
      rintro rfl
      obtain ⟨o1, q1, c1, _⟩ := p
      obtain ⟨o2, q2, c2, _⟩ := hit
      rw [q1] at q2
      obtain rfl := Option.some.inj q2
      exact absurd (Value.type.inj (c1.symm.trans c2)) (by decide)
    have hea : e ≠ a := by
      rintro rfl
      obtain ⟨o1, q1, c1, _⟩ := p
      have he' := (show s.heap.get? e = _ from he).symm.trans q1
      obtain rfl := Option.some.inj he'
      exact absurd (Value.type.inj c1) (by decide)
    have sz : i < its.toArray.size := by
      have := (List.getElem?_eq_some_iff.mp hx).1
      have := rv.length
      simp
      omega
    have D := Draws.tuple (prog := X.prog) (w := X.w) (A := X.A.in1) (show X.A.in1.handled = none from I.ok.hd hc) it a hai its.toArray
    refine wpAny_pyNext_enum_itemD D he ⟨hit, p⟩ sz hne (by simp [hne, hea]) fun y h' tk py ho st' hT hsz hk => ?_
    have y1 : y = u := by
      have q : its[i]? = some y := by simpa using py
      exact Option.some.inj (q.symm.trans hu)
    subst y1
    refine ⟨_, rfl, wpAny_letOwnedTupleGo_enum (s := { s with heap := h', toks := tk + 1 }) ho fun h'' he' sb => ?_⟩
    have hT2 : h''.get? s.heap.objs.size = some { cls := .type "tuple", data := .seq #[.int i tk, y] } := (sb.2 _ (Nat.ne_of_gt hel)).trans hT
    have new : ObjOk X.prog X.w (upd H s.heap.objs.size (.tup [.int (i : Nat), x])) h'' s.heap.objs.size (.tup [.int (i : Nat), x]) := by
      refine ⟨by show 2 ≤ sizeLine; decide, [.int i tk, y], .cons ⟨_, rfl⟩ (.cons ru .nil), ⟨_, hT2, rfl, _, rfl⟩⟩
    have I1 : Inv X pins σ (upd H s.heap.objs.size (.tup [.int (i : Nat), x])) { s with heap := h'', toks := tk + 1 } := by
      refine I.turnedNew (ch := [e, it]) (fun b ob hb q => ?_) hf (Nat.le_refl _) new
      have b1 : b ≠ e := fun z => hb (by simp [z])
      have b2 : b ≠ it := fun z => hb (by simp [z])
      exact (sb.2 b b1).trans (hk b ob b1 b2 q)
    refine ⟨.ref s.heap.objs.size, _, I1, rfl, ⟨_, x, rfl, I.hok.fresh (Nat.le_refl _), rfl, fun ys hy => by rw [I.tuple_inj hy hq]; exact hx⟩, ⟨⟨y, ?_⟩, st'.1.at fun o q => (sb.2 it hne.symm).trans q, hne⟩, fun b hb => ?_⟩
    · rw [show ((i + 1 : Nat) : Int) = (i : Int) + 1 by omega]
      exact he'
    · have small : b < s.heap.objs.size := by
        rcases List.mem_cons.mp hb with rfl | hb
        · exact hel
        · rw [List.mem_singleton.mp hb]
          exact hil
      rw [upd_ne (Nat.ne_of_lt small)]
      exact (hf b (by simpa using hb)).1
  done := by
    rintro X rfl rfl rfl hc i pins s σ H E I hf ⟨⟨old, he⟩, hit, hne⟩ ⟨xs, hq, hx⟩
    obtain ⟨its, rv, p, hz⟩ := I.tuple hq
    have p : s.heap.IsTuple a its.toArray := p
    have hai : a ≠ it := by
      rintro rfl
      obtain ⟨o1, q1, c1, _⟩ := p
      obtain ⟨o2, q2, c2, _⟩ := hit
      rw [q1] at q2
      obtain rfl := Option.some.inj q2
      exact absurd (Value.type.inj (c1.symm.trans c2)) (by decide)
    obtain ⟨f0, f1, f2, f3, f4, f5⟩ := hf it (by simp)
    have hl : i = its.toArray.size := by
      have := rv.length
      simp
      omega
    have D := Draws.tuple (prog := X.prog) (w := X.w) (A := X.A.in1) (show X.A.in1.handled = none from I.ok.hd hc) it a hai its.toArray
    refine wpAny_pyNext_enum_endD (E := E) D he (by rw [← hl]; exact ⟨hit, p⟩) fun h' eb => ?_
    exact ⟨rfl, I.turned (t' := s.toks) (fun b o hb q => eb b o hb q) f0 f1 f3 f4 f5⟩
  self := fun A i s Q E st h => let ⟨⟨_, he⟩, _⟩ := st; wpAny_pyIter_enum he h
def iEnumA (K : PySem.W.Frag) (ta : TA) : TI := fun σ H R => ta σ H fun vs H1 => ∃ (a : Addr) (xs : List V) (H0 : Hp), vs = [.ref a] ∧ SqA K H0 a xs ∧ Same H0 H1 ∧ ∀ J, Walk J xs.length (Same H0) (YPair (fun i => some (.int (i : Nat))) (fun i => xs[i]?)) → R J H1
theorem pi_enumA {X : Cx} {e : Expr} {ta : TA} {p pos tpos : Pos} {elts : List Expr} {kk : Nat} (hg : Gl X "enumerate") (hm : X.mg "enumerate" = none) (ha : PA X [e] ta) (hs : starEach [e] X.env = [(false, eval e X.env)] := by rfl) :
    PI X (.Tuple elts kk tpos) (.Call (.Name "enumerate" p) [e] [] pos) (iEnumA X.K ta) := by
  refine ⟨fun pins s σ H R I h => ?_⟩
  refine PyProof.Rows.Call_ (ld_blt I hg hm boot_enumerate (PyProof.Rows.callWith_type1 (thn (ha.run pos pins s σ H _ I h) fun us s1 ⟨vs, H1, I1, r1, q1⟩ => ?_) hs rfl))
  obtain ⟨a, xs, H0, rfl, hq, sm, q⟩ := q1
  obtain ⟨u, rfl, hu⟩ : ∃ u, us = [u] ∧ RelV (.ref a) u := by
    cases r1 with
    | cons r rr =>
      cases rr
      exact ⟨_, rfl, r⟩
  cases hu
  have fresh : ∀ b ∈ [s1.heap.objs.size + 1, s1.heap.objs.size], FpOk X pins H1 b := fun b hb => by
    have hle : s1.heap.objs.size ≤ b := by
      rcases List.mem_cons.mp hb with rfl | hb
      · exact Nat.le_add_right _ _
      · rw [List.mem_singleton.mp hb]
        exact Nat.le_refl _
    exact I1.fpOk hle (I1.hok.fresh hle)
  rcases hq with hq | hq
  · obtain ⟨its, rv, p', hz⟩ := I1.list (sm.seq hq)
    refine en_call (begins_list a its.toArray) p'.isList fun h' he hit hk => wpAny_pyIter_enum he ?_
    have I2 : Inv X pins σ H1 { s1 with heap := h' } := I1.kept (t' := s1.toks) hk
    exact ⟨s1.heap.objs.size + 1, _, _, _, H1, rfl, I2, turn_enum a (s1.heap.objs.size + 1) s1.heap.objs.size, ⟨⟨.none, he⟩, ⟨_, hit, rfl, rfl⟩, Nat.succ_ne_self _⟩, fresh,
      q _ (walk_enum.mono (fun H e => e.seq hq) fun _ _ _ _ _ _ y => y)⟩
  · obtain ⟨its, rv, p', hz⟩ := I1.tuple (Same.seqT sm hq)
    refine en_call (begins_tuple a its.toArray) (show s1.heap.IsTuple a its.toArray from p') fun h' he hit hk => wpAny_pyIter_enum he ?_
    have I2 : Inv X pins σ H1 { s1 with heap := h' } := I1.kept (t' := s1.toks) hk
    refine ⟨s1.heap.objs.size + 1, _, _, _, H1, rfl, I2, turn_enT a (s1.heap.objs.size + 1) s1.heap.objs.size, ⟨⟨.none, he⟩, ⟨_, hit, rfl, rfl⟩, Nat.succ_ne_self _⟩, fresh, q _ ⟨fun i H hi s => ?_, fun H s => ?_, fun i H v H' hi s y => ?_⟩⟩
    · exact ⟨xs, xs[i], Same.seqT s hq, by simp [hi]⟩
    · exact ⟨xs, Same.seqT s hq, rfl⟩
    · obtain ⟨T, x, h1, h2, h3, h4⟩ := y
      exact ⟨T, .int (i : Nat), x, h1, h2, h3, rfl, h4 xs (Same.seqT s hq)⟩
/-! ### a slice of a list or a tuple -/
def rSlA (K : PySem.W.Frag) : V → Option Int → Option Int → Hp → VK → Prop := fun x lo hi H Q => rSlL K x lo hi H Q ∨ rSlT K x lo hi H Q
theorem sl_seq {X : Cx} : SlR X (rSlA X.K) := SlR.or sl_list sl_tup
/-- p alone -/
def only (p : Addr) (o : HO) : Hp := fun b => if b = p then some o else none
theorem only_same {p : Addr} {o : HO} {H : Hp} (h : H p = some o) : Same (only p o) H := fun b u e => by
  unfold only at e
  split at e
  · next q => rw [q, ← e]; exact h
  · cases e
theorem only_seq {K : PySem.W.Frag} {p : Addr} {o : HO} {xs : List V} (h : o = .lst xs ∨ o = .tup xs) : SqA K (only p o) p xs := by
  have e : only p o p = some o := if_pos rfl
  rcases h with rfl | rfl
  · exact .inl (SqL.of e)
  · exact .inr (SqT.of e)
/-- t[:k] of a list or a tuple, k below its length -/
theorem cut_seq {K : PySem.W.Frag} {H H0 : Hp} {a : Addr} {xs : List V} {k : Nat} {Q : VK} (h : SqA K H0 a xs) (s : Same H0 H) (hk : k < xs.length) (q : ∀ p o, H p = none → (o = .lst (xs.take k) ∨ o = .tup (xs.take k)) → Q (.ref p) (upd H p o)) :
    rSlA K (.ref a) none (some (k : Int)) H Q := by
  rcases h with h | h
  · refine .inl ⟨a, xs, rfl, s.seq h, fun p hp => ?_⟩
    rw [cutV_to]
    exact q p _ hp (.inl rfl)
  · refine .inr ⟨a, xs, rfl, Same.seqT s h, ?_, fun p hp => ?_⟩
    · rw [HT.sIx_none, HT.sIx_nat]
      omega
    · rw [cutV_to]
      exact q p _ hp (.inr rfl)
end Fx

namespace Fx
open PySem L2
/-! ### lists and tuples of ints as data -/
def dis (ns : List Int) : List PyData := ns.map PyData.int
theorem dis_dp {K : PySem.W.Frag} {H : Hp} : ∀ ns : List Int, DpAll K H (ns.map V.int) (dis ns)
  | [] => .nil
  | n :: ns => .cons (.int n) (dis_dp ns)
theorem dis_lay : ∀ ns : List Int, PyData.canLayAll0 (dis ns) = true ∧ PyData.depthAll (dis ns) = 0
  | [] => ⟨rfl, rfl⟩
  | n :: ns => by
    obtain ⟨a, b⟩ := dis_lay ns
    exact ⟨by simp [dis, PyData.canLayAll0, PyData.canLay0] at a ⊢; exact a, by simp [dis, PyData.depthAll, PyData.depth] at b ⊢; exact b⟩
theorem dis_eqv : ∀ ns ms : List Int, PyData.eqvAll (dis ns) (dis ms) = decide (ns = ms)
  | [], [] => by simp [dis, PyData.eqvAll]
  | [], _ :: _ => by simp [dis, PyData.eqvAll]
  | _ :: _, [] => by simp [dis, PyData.eqvAll]
  | n :: ns, m :: ms => by
    have ih := dis_eqv ns ms
    unfold dis at ih ⊢
    rw [List.map_cons, List.map_cons, PyData.eqvAll, ih]
    by_cases h : n = m
    · subst h
      simp [PyData.eqv]
    · simp [PyData.eqv, h]
theorem diL_sh (ns : List Int) : SeqAt.shaped (.list (dis ns)) = true := by
  obtain ⟨a, b⟩ := dis_lay ns
  simp [SeqAt.shaped, PyData.canLay0, PyData.depth, a, b]
theorem diT_sh (ns : List Int) : SeqAt.shaped (.tuple (dis ns)) = true := by
  obtain ⟨a, b⟩ := dis_lay ns
  simp [SeqAt.shaped, PyData.canLay0, PyData.depth, a, b]
theorem diL_eqv (ns ms : List Int) : PyData.eqv (.list (dis ns)) (.list (dis ms)) = decide (ns = ms) := by
  rw [PyData.eqv, dis_eqv]
theorem diT_eqv (ns ms : List Int) : PyData.eqv (.tuple (dis ns)) (.tuple (dis ms)) = decide (ns = ms) := by
  rw [PyData.eqv, dis_eqv]
section
variable {K : PySem.W.Frag} {H : Hp} {a b : Addr} {ns ms : List Int} {Q : VK}
/-- the reading of a == b for two lists of ints -/
theorem eq_ints (ha : SqL K H a (ns.map V.int)) (hb : SqL K H b (ms.map V.int)) (q : Q (.bl (decide (ns = ms))) H) : rEqD K (.ref a) (.ref b) H Q :=
  ⟨_, _, .lst ha (dis_dp ns), .lst hb (dis_dp ms), diL_sh ns, diL_sh ms, by rw [diL_eqv]; exact q⟩
theorem ne_ints (ha : SqL K H a (ns.map V.int)) (hb : SqL K H b (ms.map V.int)) (q : Q (.bl (decide (ns ≠ ms))) H) : rNeD K (.ref a) (.ref b) H Q :=
  ⟨_, _, .lst ha (dis_dp ns), .lst hb (dis_dp ms), diL_sh ns, diL_sh ms, by
    rw [diL_eqv, show (!decide (ns = ms)) = decide (ns ≠ ms) by simp]
    exact q⟩
theorem eq_intsT (ha : SqT K H a (ns.map V.int)) (hb : SqT K H b (ms.map V.int)) (q : Q (.bl (decide (ns = ms))) H) : rEqD K (.ref a) (.ref b) H Q :=
  ⟨_, _, .tup ha (dis_dp ns), .tup hb (dis_dp ms), diT_sh ns, diT_sh ms, by rw [diT_eqv]; exact q⟩
end
end Fx

/-! lists of ints: sorted lists, the distances of all pairs -/
namespace Far
abbrev Up (l : List Int) : Prop := l.Pairwise (· ≤ ·)
theorem up_unique : ∀ {l m : List Int}, l.Perm m → Up l → Up m → l = m
  | [], m, p, _, _ => (List.Perm.nil_eq p)
  | a :: l, [], p, _, _ => absurd p.length_eq (by simp)
  | a :: l, b :: m, p, hl, hm => by
    have e : a = b := by
      have h1 : a ∈ b :: m := p.subset List.mem_cons_self
      have h2 : b ∈ a :: l := p.symm.subset List.mem_cons_self
      have hl' := List.pairwise_cons.mp hl
      have hm' := List.pairwise_cons.mp hm
      rcases List.mem_cons.mp h1 with h | h
      · exact h
      · rcases List.mem_cons.mp h2 with g | g
        · exact g.symm
        · have := hm'.1 a h
          have := hl'.1 b g
          omega
    subst e
    rw [up_unique (List.Perm.cons_inv p) (List.pairwise_cons.mp hl).2 (List.pairwise_cons.mp hm).2]
def srt (l : List Int) : List Int := l.mergeSort (fun a b => decide (a ≤ b))
theorem srt_perm (l : List Int) : (srt l).Perm l := List.mergeSort_perm l _
theorem srt_up (l : List Int) : Up (srt l) := by
  have h := List.pairwise_mergeSort (le := fun a b : Int => decide (a ≤ b)) (by intro a b c h1 h2; simp at h1 h2 ⊢; omega) (by intro a b; simp; omega) l
  exact h.imp (by intro a b h; simpa using h)
theorem srt_of {l r : List Int} (p : r.Perm l) (h : Up r) : r = srt l := up_unique (p.trans (srt_perm l).symm) h (srt_up l)
theorem srt_congr {l m : List Int} (p : l.Perm m) : srt l = srt m := srt_of ((srt_perm l).trans p) (srt_up l)
theorem srt_len (l : List Int) : (srt l).length = l.length := (srt_perm l).length_eq
/-! permutations by counting -/
theorem perm_of_count {l m : List Int} (h : ∀ a, l.count a = m.count a) : l.Perm m := List.perm_iff_count.mpr h
theorem count_flat {α : Type} (f : α → List Int) (a : Int) : ∀ l : List α, (l.flatMap f).count a = (l.map fun x => (f x).count a).sum
  | [] => rfl
  | x :: l => by rw [List.flatMap_cons, List.count_append, count_flat f a l]; rfl
theorem flat_add {α : Type} (f g : α → List Int) : ∀ l : List α, (l.flatMap fun x => f x ++ g x).Perm (l.flatMap f ++ l.flatMap g)
  | [] => .nil
  | x :: l => by
    have ih := flat_add f g l
    refine perm_of_count fun a => ?_
    have := ih.count_eq a
    simp only [List.flatMap_cons, List.count_append] at this ⊢
    omega
theorem flat_congr {α : Type} {f g : α → List Int} : ∀ {l : List α}, (∀ x ∈ l, (f x).Perm (g x)) → (l.flatMap f).Perm (l.flatMap g)
  | [], _ => .nil
  | x :: l, h => by
    rw [List.flatMap_cons, List.flatMap_cons]
    exact (h x List.mem_cons_self).append (flat_congr fun y hy => h y (List.mem_cons_of_mem _ hy))
theorem flat_one {α : Type} (f : α → Int) : ∀ l : List α, (l.flatMap fun x => [f x]) = l.map f
  | [] => rfl
  | x :: l => by rw [List.flatMap_cons, flat_one f l]; rfl
theorem flat_none {α : Type} : ∀ l : List α, (l.flatMap fun _ => ([] : List Int)) = []
  | [] => rfl
  | x :: l => by rw [List.flatMap_cons, flat_none l]; rfl
theorem flat_swap {α β : Type} (f : α → β → Int) (m : List β) : ∀ l : List α, (l.flatMap fun a => m.map (f a)).Perm (m.flatMap fun b => l.map fun a => f a b)
  | [] => by simp
  | x :: l => by
    rw [List.flatMap_cons]
    refine ((flat_swap f m l).append_left _).trans ?_
    have h := flat_add (fun b => [f x b]) (fun b => l.map fun a => f a b) m
    refine List.Perm.trans ?_ h.symm
    rw [flat_one]
/-! distances -/
def ds (x y : Int) : Int := if x - y < 0 then -(x - y) else x - y
theorem ds_comm (x y : Int) : ds x y = ds y x := by unfold ds; split <;> split <;> omega
/-- pairs by their first -/
def farR : List Int → List Int
  | [] => []
  | x :: l => l.map (ds x) ++ farR l
/-- as the program goes: each with those ahead of it -/
def farA (d : List Int) : List Int → List Int
  | [] => []
  | x :: l => d.map (ds x) ++ farA (d ++ [x]) l
def far (l : List Int) : List Int := farA [] l
theorem farA_snoc (x : Int) : ∀ (l d : List Int), farA d (l ++ [x]) = farA d l ++ (d ++ l).map (ds x)
  | [], d => by simp [farA]
  | y :: l, d => by
    show d.map (ds y) ++ farA (d ++ [y]) (l ++ [x]) = _
    rw [farA_snoc x l (d ++ [y])]
    simp [farA, List.append_assoc]
theorem far_snoc (l : List Int) (x : Int) : far (l ++ [x]) = far l ++ l.map (ds x) := by
  have h := farA_snoc x l []
  simpa [far] using h
theorem farA_perm : ∀ (l d : List Int), (farA d l).Perm ((l.flatMap fun x => d.map (ds x)) ++ farR l)
  | [], d => .nil
  | x :: l, d => by
    have ih := farA_perm l (d ++ [x])
    have h := flat_add (fun y => d.map (ds y)) (fun y => [ds y x]) l
    have e : l.flatMap (fun y => [ds y x]) = l.map (ds x) := by
      rw [flat_one]
      exact List.map_congr_left fun z _ => ds_comm z x
    have e2 : (fun y => List.map (ds y) (d ++ [x])) = fun y => d.map (ds y) ++ [ds y x] := by
      funext y
      rw [List.map_append]
      rfl
    rw [e2] at ih
    rw [e] at h
    refine perm_of_count fun a => ?_
    have c1 := ih.count_eq a
    have c2 := h.count_eq a
    simp only [farA, farR, List.flatMap_cons, List.count_append] at c1 c2 ⊢
    omega
theorem far_farR (l : List Int) : (far l).Perm (farR l) := by
  have h := farA_perm l []
  have e : (l.flatMap fun x => ([] : List Int).map (ds x)) = [] := flat_none l
  rw [e] at h
  exact h
theorem farR_congr {l m : List Int} (p : l.Perm m) : (farR l).Perm (farR m) := by
  induction p with
  | nil => exact .nil
  | cons x p ih => exact (p.map _).append ih
  | swap x y l =>
    refine perm_of_count fun a => ?_
    simp only [farR, List.map_cons, List.count_cons, List.count_append, List.cons_append, ds_comm x y]
    omega
  | trans _ _ h1 h2 => exact h1.trans h2
theorem far_congr {l m : List Int} (p : l.Perm m) : (far l).Perm (far m) := ((far_farR l).trans (farR_congr p)).trans (far_farR m).symm
def cross (l m : List Int) : List Int := l.flatMap fun x => m.map (ds x)
theorem farR_app : ∀ (l m : List Int), (farR (l ++ m)).Perm (farR l ++ farR m ++ cross l m)
  | [], m => by simp [farR, cross]
  | x :: l, m => by
    have ih := farR_app l m
    refine perm_of_count fun a => ?_
    have c := ih.count_eq a
    simp only [farR, cross, List.cons_append, List.map_append, List.flatMap_cons, List.count_append] at c ⊢
    omega
/-! sums and differences -/
def sumsL (A B : List Int) : List Int := A.flatMap fun x => B.map fun y => x + y
def diffL (A B : List Int) : List Int := A.flatMap fun x => B.map fun y => x - y
theorem farR_shift (x : Int) : ∀ B : List Int, farR (B.map fun y => x + y) = farR B
  | [] => rfl
  | y :: B => by
    have ih := farR_shift x B
    simp only [List.map_cons, farR, ih, List.map_map]
    congr 1
    refine List.map_congr_left fun z _ => ?_
    simp only [Function.comp, ds]
    have : x + y - (x + z) = y - z := by omega
    rw [this]
theorem farR_turn (x : Int) : ∀ B : List Int, farR (B.map fun y => x - y) = farR B
  | [] => rfl
  | y :: B => by
    have ih := farR_turn x B
    simp only [List.map_cons, farR, ih, List.map_map]
    congr 1
    refine List.map_congr_left fun z _ => ?_
    simp only [Function.comp, ds]
    split <;> split <;> omega
theorem cross_flat {α : Type} (l : List Int) (f : α → List Int) (A : List α) : (cross l (A.flatMap f)).Perm (A.flatMap fun x => cross l (f x)) := by
  induction A with
  | nil =>
    simp only [List.flatMap_nil, cross, List.map_nil]
    induction l with
    | nil => exact .nil
    | cons x l ih => simpa using ih
  | cons x A ih =>
    rw [List.flatMap_cons, List.flatMap_cons]
    refine List.Perm.trans ?_ (ih.append_left _)
    have h := flat_add (fun y => (f x).map (ds y)) (fun y => (A.flatMap f).map (ds y)) l
    refine List.Perm.trans ?_ h
    unfold cross
    simp only [List.map_append]
    exact .refl _
theorem cross_same (x x' : Int) (B : List Int) : (cross (B.map fun y => x + y) (B.map fun y => x' + y)).Perm (cross (B.map fun y => x - y) (B.map fun y => x' - y)) := by
  have e1 : cross (B.map fun y => x + y) (B.map fun y => x' + y) = B.flatMap fun y => B.map fun z => ds (x + y) (x' + z) := by
    simp only [cross, List.flatMap_map, List.map_map]
    rfl
  have e2 : cross (B.map fun y => x - y) (B.map fun y => x' - y) = B.flatMap fun y => B.map fun z => ds (x - y) (x' - z) := by
    simp only [cross, List.flatMap_map, List.map_map]
    rfl
  rw [e1, e2]
  refine (flat_swap (fun y z => ds (x + y) (x' + z)) B B).trans (flat_congr fun y _ => ?_)
  refine List.Perm.of_eq (List.map_congr_left fun z _ => ?_)
  unfold ds
  have : x + z - (x' + y) = x - y - (x' - z) := by omega
  rw [this]
theorem far_sums : ∀ A B : List Int, (farR (sumsL A B)).Perm (farR (diffL A B))
  | [], B => .refl _
  | x :: A, B => by
    have ih := far_sums A B
    have h1 := farR_app (B.map fun y => x + y) (sumsL A B)
    have h2 := farR_app (B.map fun y => x - y) (diffL A B)
    have h3 := cross_flat (B.map fun y => x + y) (fun x' => B.map fun y => x' + y) A
    have h4 := cross_flat (B.map fun y => x - y) (fun x' => B.map fun y => x' - y) A
    have h5 := flat_congr (l := A) (f := fun x' => cross (B.map fun y => x + y) (B.map fun y => x' + y)) (g := fun x' => cross (B.map fun y => x - y) (B.map fun y => x' - y)) fun x' _ => cross_same x x' B
    rw [farR_shift] at h1
    rw [farR_turn] at h2
    refine perm_of_count fun a => ?_
    have c1 := h1.count_eq a
    have c2 := h2.count_eq a
    have c3 := h3.count_eq a
    have c4 := h4.count_eq a
    have c5 := h5.count_eq a
    have c6 := ih.count_eq a
    have u1 : sumsL (x :: A) B = (B.map fun y => x + y) ++ sumsL A B := rfl
    have u2 : diffL (x :: A) B = (B.map fun y => x - y) ++ diffL A B := rfl
    rw [u1, u2]
    unfold sumsL at c1 c6
    unfold diffL at c2 c6
    unfold sumsL diffL
    simp only [List.count_append] at c1 c2
    omega
theorem far_alike (A B : List Int) : srt (far (srt (sumsL A B))) = srt (far (srt (diffL A B))) :=
  srt_congr ((far_congr (srt_perm _)).trans (((far_farR _).trans ((far_sums A B).trans (far_farR _).symm)).trans (far_congr (srt_perm _).symm)))
theorem flat_len {α : Type} (f : α → List Int) (n : Nat) (h : ∀ x, (f x).length = n) : ∀ l : List α, (l.flatMap f).length = l.length * n
  | [] => by simp
  | x :: l => by rw [List.flatMap_cons, List.length_append, flat_len f n h l, h, List.length_cons, Nat.succ_mul, Nat.add_comm]
theorem sums_len (A B : List Int) : (sumsL A B).length = A.length * B.length := flat_len _ _ (fun x => by simp) A
theorem diff_len (A B : List Int) : (diffL A B).length = A.length * B.length := flat_len _ _ (fun x => by simp) A
theorem flat_perm {α : Type} {f : α → List Int} {l m : List α} (p : l.Perm m) : (l.flatMap f).Perm (m.flatMap f) := p.flatMap_right f
theorem sums_congr {A A' B B' : List Int} (p : A.Perm A') (q : B.Perm B') : (sumsL A B).Perm (sumsL A' B') :=
  (flat_perm p).trans (flat_congr fun x _ => q.map _)
theorem flat_flat {α β : Type} (f : α → List β) (g : β → List Int) : ∀ l : List α, (l.flatMap f).flatMap g = l.flatMap fun x => (f x).flatMap g
  | [] => rfl
  | x :: l => by simp only [List.flatMap_cons, List.flatMap_append, flat_flat f g l]
theorem sums_assoc (A B C : List Int) : sumsL (sumsL A B) C = sumsL A (sumsL B C) := by
  unfold sumsL
  rw [flat_flat]
  congr 1
  funext x
  rw [List.flatMap_map, List.map_flatMap]
  congr 1
  funext y
  rw [List.map_map]
  refine List.map_congr_left fun z _ => ?_
  simp only [Function.comp]
  omega
theorem sums_comm (A B : List Int) : (sumsL A B).Perm (sumsL B A) := by
  refine (flat_swap (fun x y => x + y) B A).trans (flat_congr fun y _ => List.Perm.of_eq (List.map_congr_left fun x _ => ?_))
  omega
theorem diff_turn (A B : List Int) : (diffL B A).Perm ((diffL A B).map fun x => -x) := by
  refine (flat_swap (fun x y => x - y) A B).trans ?_
  unfold diffL
  rw [List.map_flatMap]
  refine flat_congr fun y _ => ?_
  rw [List.map_map]
  refine List.Perm.of_eq (List.map_congr_left fun x _ => ?_)
  simp only [Function.comp]
  omega
theorem srt_turn (A B : List Int) : srt (diffL B A) = ((srt (diffL A B)).reverse).map fun x => -x := by
  refine (srt_of (((List.reverse_perm _).map _).trans (((srt_perm _).map _).trans (diff_turn A B).symm)) ?_).symm
  have h := srt_up (diffL A B)
  refine List.Pairwise.map (R := fun a b : Int => b ≤ a) _ (fun a b h => by omega) ?_
  exact List.pairwise_reverse.mpr h
theorem sums_three (A B C : List Int) : srt (sumsL (srt (sumsL A B)) C) = srt (sumsL A (srt (sumsL B C))) :=
  srt_congr (((sums_congr (srt_perm _) (.refl C)).trans (.of_eq (sums_assoc A B C))).trans (sums_congr (.refl A) (srt_perm _).symm))
end Far

--#ty _law_bag _law_script=l _law_cells=l
--#ty _law_take _law_bag_here=l _law_bag_here[4]=l
--#wide _law_take op_fdivW | _law_bag_here[1] // _law_many
namespace Fk
open PySem L2
/-! short words: rdc closes a side condition, r1 one step of a reading, rd as many as there are -/
local macro_rules | `(tactic| walk_at "rdc") => `(tactic| (first | exact Or.inl ⟨by decide, by decide⟩ | exact Or.inr ⟨by decide, by decide⟩ | exact ⟨by decide, by decide⟩ | exact Or.inl ⟨by omega, by omega⟩ | exact Or.inr ⟨by omega, by omega⟩ | ((show (0 : Int) < _); (first | decide | omega)) | exact ⟨by decide, by decide, by decide⟩ | exact ⟨by omega, by assumption⟩))
local macro_rules | `(tactic| walk_at "hp") => `(tactic| (first | exact upd_same | assumption | ((rw [upd_ne (by assumption)]); (first | exact upd_same | assumption | ((rw [upd_ne (by assumption)]); (first | exact upd_same | assumption | ((rw [upd_ne (by assumption)]); (first | exact upd_same | assumption))))))))
local macro_rules | `(tactic| walk_at "r1") => `(tactic| (first | refine ⟨_, rfl, ?_⟩ | refine ⟨_, _, rfl, rfl, ?_⟩ | refine ⟨_, _, rfl, ?_⟩ | refine Or.inl ⟨_, rfl, ?_⟩ | refine ⟨rfl, ?_⟩ | refine ⟨(by walk_at "rdc"), ?_⟩ | refine ⟨_, _, _, _, rfl, rfl, SqL.of (by walk_at "hp"), rfl, ?_⟩ | refine ⟨_, _, _, _, rfl, rfl, (by walk_at "hp"), rfl, ?_⟩ | refine ⟨_, _, _, _, rfl, rfl, SqL.of (by walk_at "hp"), by assumption, ?_⟩))
local macro_rules | `(tactic| walk_at "rd") => `(tactic| (repeat walk_at "r1"))
def top (i : Nat) : Stmt := PySem.Challenge.pw_forkbeats_k69_beats_of.main.body.getD i (.Pass ⟨0, 0, 0, 0⟩)
/-- all that was tracked stands, but for b -/
def Keep (H H' : Hp) (b : Addr) : Prop := ∀ a o, H a = some o → a ≠ b → H' a = some o
theorem Keep.refl (H : Hp) (b : Addr) : Keep H H b := fun _ _ h _ => h
theorem Keep.trans {H H1 H2 : Hp} {b : Addr} (x : Keep H H1 b) (y : Keep H1 H2 b) : Keep H H2 b := fun a o h n => y a o (x a o h n) n
theorem Keep.upd {H H1 : Hp} {b : Addr} {o : HO} (x : Keep H H1 b) : Keep H (upd H1 b o) b := fun a u h n => by
  rw [upd_ne n]
  exact x a u h n
theorem Keep.new {H H1 : Hp} {b p : Addr} {o : HO} (x : Keep H H1 b) (hp : H1 p = none) : Keep H (L2.upd H1 p o) b := fun a u h n => by
  have q := x a u h n
  rw [upd_ne (ne_of_none q hp)]
  exact q
/-- a bag of draws at b -/
def BagIs (H : Hp) (b : Addr) (n acc pos base : Int) (c : Addr) (cells : List Int) : Prop :=
  H b = some (.lst [.int n, .int acc, .int pos, .int base, .ref c]) ∧ H c = some (.lst (cells.map V.int)) ∧ b ≠ c ∧ 0 ≤ acc ∧ 0 ≤ pos ∧ 0 ≤ base ∧ base < 2147483647 ∧ (∀ x ∈ cells, 0 ≤ x) ∧ cells.length ≤ 63
def Bag (H : Hp) (b c : Addr) : Prop := ∃ n acc pos base cells, BagIs H b n acc pos base c cells
theorem Bag.keep {H H' : Hp} {b c d : Addr} (h : Bag H b c) (k : Keep H H' d) (e1 : b ≠ d) (e2 : c ≠ d) : Bag H' b c := by
  obtain ⟨n, acc, pos, base, cells, h1, h2, r⟩ := h
  exact ⟨n, acc, pos, base, cells, k _ _ h1 e1, k _ _ h2 e2, r⟩
theorem Bag.at1 {H : Hp} {b c : Addr} (h : Bag H b c) : ∃ o, H b = some o := by
  obtain ⟨n, acc, pos, base, cells, h1, h2, r⟩ := h
  exact ⟨_, h1⟩
theorem Bag.at2 {H : Hp} {b c : Addr} (h : Bag H b c) : ∃ o, H c = some o := by
  obtain ⟨n, acc, pos, base, cells, h1, h2, r⟩ := h
  exact ⟨_, h2⟩
theorem Bag.off {H : Hp} {b c p : Addr} (h : Bag H b c) (hp : H p = none) : b ≠ p ∧ c ≠ p := by
  obtain ⟨o, e⟩ := h.at1
  obtain ⟨o2, e2⟩ := h.at2
  exact ⟨ne_of_none e hp, ne_of_none e2 hp⟩
theorem Bag.set {H : Hp} {b c d : Addr} {o : HO} (h : Bag H b c) (e1 : b ≠ d) (e2 : c ≠ d) : Bag (upd H d o) b c := by
  obtain ⟨n, acc, pos, base, cells, h1, h2, r⟩ := h
  exact ⟨n, acc, pos, base, cells, (upd_ne e1).trans h1, (upd_ne e2).trans h2, r⟩
/-- the built-ins by their names -/
structure Bn (mg : Str → Option Value) : Prop where
  b_len : mg "len" = none
  b_abs : mg "abs" = none
  b_max : mg "max" = none
  b_int : mg "int" = none
  b_range : mg "range" = none
theorem cut_ints (ns : List Int) (lo hi : Option Int) : ∃ ms : List Int, cutV (ns.map V.int) lo hi = ms.map V.int ∧ ms.length ≤ ns.length := by
  refine ⟨(ns.drop (HT.sIx ns.length 0 lo)).take (HT.sIx ns.length ns.length hi - HT.sIx ns.length 0 lo), ?_, ?_⟩
  · unfold cutV
    rw [List.length_map, List.map_take, List.map_drop]
  · rw [List.length_take, List.length_drop]
    omega
theorem ints_at {ns : List Int} {i : Nat} {y : V} (h : (ns.map V.int)[i]? = some y) : ∃ z, ns[i]? = some z ∧ y = V.int z := by
  rw [List.getElem?_map] at h
  cases e : ns[i]? with
  | none =>
    rw [e] at h
    cases h
  | some z =>
    rw [e] at h
    exact ⟨z, rfl, (Option.some.inj h).symm⟩
theorem map_snoc (l : List Int) (z : Int) : l.map V.int ++ [V.int z] = (l ++ [z]).map V.int := by
  rw [List.map_append]
  rfl
theorem Same.new {H H1 : Hp} {p : Addr} {o : HO} (x : Same H H1) (hp : H1 p = none) : Same H (upd H1 p o) := fun a u h => by
  have q := x a u h
  rw [upd_ne (ne_of_none q hp)]
  exact q
theorem Same.set {H H1 : Hp} {D : Addr} {o : HO} (x : Same H H1) (hD : H D = none) : Same H (upd H1 D o) := fun a u h => by
  rw [upd_ne (ne_of_none h hD)]
  exact x a u h
theorem Bag.same {H H' : Hp} {b c : Addr} (h : Bag H b c) (k : Same H H') : Bag H' b c := by
  obtain ⟨n, acc, pos, bs, cells, h1, h2, r⟩ := h
  exact ⟨n, acc, pos, bs, cells, k _ _ h1, k _ _ h2, r⟩
theorem Keep.same {H H1 H2 : Hp} {b : Addr} (x : Keep H H1 b) (k : Same H1 H2) : Keep H H2 b := fun a o h n => k a o (x a o h n)
section
variable {P : Program} {w : World} {K : PySem.W.Frag} {mg : Str → Option Value} {base : Heap}
/-! ### _law_bag -/
abbrev s__law_bag : Stmt := top 6
theorem sc__law_bag : FnScope ["_law_script", "_law_cell", "_law_cells", "_law_base"] ["_law_script"] (defScope s__law_bag) := ⟨rfl, rfl, rfl, by decide +kernel, rfl, by decide +kernel, by decide +kernel⟩
def spBag (K : PySem.W.Frag) : Sp := fun vs H Q _ => ∃ (a : Addr) (ns : List Int), vs = [.ref a] ∧ SqL K H a (ns.map V.int) ∧ ns.length ≤ 63 ∧
  ∀ H' b c, Same H H' → Bag H' b c → Q (.ref b) H'
theorem ok_bag {f : Addr} {fd : FuncData} (F : Fun K "_law_bag" "_law_bag" s__law_bag f fd) (T : Bn mg) : FnOk P w K mg base CX0 1 f fd ["_law_script"] (spBag K) := by
  refine F.ok sc__law_bag (fun vs H Q E h => ?_) (fun cdv A outer s H vs Q E hr h => ?_)
  · obtain ⟨a, ns, rfl, _⟩ := h
    rfl
  · obtain ⟨a, ns, rfl, hS, hl, k⟩ := h
    refine ⟨_, (pss_cons (ps_setLc (i := 2) (own := [("_law_cell", 1)]) (g := gName 1) (tt := tYes) rfl sc__law_bag.nd rfl rfl (sw_true rfl rfl rfl (by decide +kernel)) (pi_list (pe_slice sl_list (pv 0) po_none (po_some pe_int))) (blkOk_by (own := [("_law_cell", 1)]) (N := ["_law_script", "_law_cell", "_law_cells", "_law_base"]) (sc := defScope s__law_bag) (by decide +kernel)) (fun _ _ _ _ _ => pg_name (i := 1) sc__law_bag.nd rfl (by first | exact Or.inl rfl | exact Or.inr rfl)) (fun _ _ _ _ _ => pts_nil) (fun _ _ _ _ _ => (pe_callB call_abs (by rfl) T.b_abs (by decide +kernel) (pa_cons (pe_callTy call_int1 (by rfl) T.b_int (by decide +kernel) (pa_cons (pv 1) pa_nil)) pa_nil))))
      (pss_cons (ps_set (i := 3) sc__law_bag.nd rfl (by first | exact Or.inl rfl | exact Or.inr rfl) pe_int)
      (pss_cons (ps_for PassesOwn.never rfl (pi_list (pv 2)) (pg_name (i := 1) sc__law_bag.nd rfl (by first | exact Or.inl rfl | exact Or.inr rfl)) (pss_one (ps_set (i := 3) sc__law_bag.nd rfl (by first | exact Or.inl rfl | exact Or.inr rfl) (pe_op op_mod (pe_callTy call_int1 (by rfl) T.b_int (by decide +kernel) (pa_cons (pe_op op_add (pe_op op_mul (pv 3) pe_int) (pv 1)) pa_nil)) pe_int))))
      (pss_one (ps_ret (pe_lst (pa_cons pe_int (pa_cons pe_int (pa_cons pe_int (pa_cons (pv 3) (pa_cons (pv 2) pa_nil))))))))))), ?_⟩
    walk_at "rd"
    refine ⟨a, _, rfl, hS, fun p np => ?_⟩
    refine ⟨_, rfl, ⟨_, SqL.of upd_same⟩, fun D nD => ?_⟩
    obtain ⟨ms, em, hml⟩ := cut_ints ns none (some 63)
    rw [em] at nD ⊢
    have npD : p ≠ D := fun z => by
      rw [← z, upd_same] at nD
      cases nD
    have nD0 : H D = none := by
      rw [upd_ne npD.symm] at nD
      exact nD
    refine lc_list (K := K) (a := p) (xs := ms.map V.int) (fun i H' => ∃ acc : List Int, H' D = some (.lst (acc.map V.int)) ∧ acc.length = i ∧ (∀ x ∈ acc, 0 ≤ x) ∧ H' p = some (.lst (ms.map V.int)) ∧ Same H H' ∧ ∀ b, H' b = none → H b = none) ?_ ?_ ?_ ?_
    · refine ⟨[], upd_same, rfl, (fun _ z => nomatch z), ?_, ?_, ?_⟩
      · rw [upd_ne npD]
        exact upd_same
      · exact Same.new (Same.new (Same.refl H) np) nD
      · intro b hb
        exact (Same.new (Same.new (Same.refl H) np) nD).free hb
    · rintro i H' _ ⟨acc, _, _, _, h, _⟩
      exact SqL.of h
    · rintro i x H' hi ⟨acc, hD, hl', hpos, hp', hs, hf⟩
      obtain ⟨z, hz, rfl⟩ := ints_at hi
      have hi63 : i < ms.length := (List.getElem?_eq_some_iff.mp hz).1
      refine ⟨rfl, ?_⟩
      walk_at "rd"
      have hDp : p ≠ D := npD
      refine ⟨_, hD, ?_, acc ++ [if z < 0 then -z else z], ?_, ?_, ?_, ?_, ?_, ?_⟩
      · rw [List.length_map, hl']
        exact small1000 (by omega)
      · rw [upd_same, map_snoc]
      · rw [List.length_append, hl']
        rfl
      · intro x hx
        rcases List.mem_append.mp hx with h | h
        · exact hpos x h
        · have e : x = (if z < 0 then -z else z) := by simpa using h
          rw [e]
          split <;> omega
      · rw [upd_ne npD]
        exact hp'
      · intro b o e
        rw [upd_ne (fun z => by rw [z, nD0] at e; cases e)]
        exact hs b o e
      · intro b hb
        by_cases hbD : b = D
        · rw [hbD]
          exact nD0
        · rw [upd_ne hbD] at hb
          exact hf b hb
    · rintro H' ⟨acc, hD, hl', hpos, hp', hs, hf⟩
      rw [List.length_map] at hl'
      walk_at "rd"
      refine ⟨⟨_, SqL.of hD⟩, ?_⟩
      refine for_list (K := K) (a := D) (xs := acc.map V.int) (fun i σ H2 => H2 = H' ∧ ∃ (v : Option V) (bs : Int), σ = [some (.ref a), v, some (.ref D), some (.int bs)] ∧ 0 ≤ bs ∧ bs < 2147483647)
        ⟨rfl, none, 0, rfl, by decide, by decide⟩ (fun i σ H2 _ e => by rw [e.1]; exact SqL.of hD) ?_ ?_
      · rintro i y σ H2 hi ⟨rfl, v, bs, rfl, h0, h1⟩
        obtain ⟨z, hz, rfl⟩ := ints_at hi
        walk_at "rd"
        exact ⟨Int.emod_nonneg _ (by decide), Int.emod_lt_of_pos _ (by decide)⟩
      · rintro σ H2 ⟨rfl, v, bs, rfl, h0, h1⟩
        walk_at "rd"
        refine ⟨by show 5 ≤ sizeLine; decide, fun q hq => ?_⟩
        refine k _ q D (Same.new hs hq) ⟨0, 0, 0, bs, acc, upd_same, ?_, ?_, by decide, by decide, h0, h1, hpos, by omega⟩
        · rw [upd_ne (ne_of_none hD hq)]
          exact hD
        · exact (ne_of_none hD hq).symm
/-! ### _law_mixed -/
abbrev s__law_mixed : Stmt := top 7
theorem sc__law_mixed : FnScope ["_law_cell", "_law_turn", "_law_number"] ["_law_cell", "_law_turn"] (defScope s__law_mixed) := ⟨rfl, rfl, rfl, by decide +kernel, rfl, by decide +kernel, by decide +kernel⟩
def spMixed : Sp := fun vs H Q _ => ∃ x t : Int, vs = [.int x, .int t] ∧ 0 ≤ x ∧ x < 2 ^ 64 ∧ ∀ r : Int, 0 ≤ r → Q (.int r) H
theorem ok_mixed {f : Addr} {fd : FuncData} (F : Fun K "_law_mixed" "_law_mixed" s__law_mixed f fd) (T : Bn mg) : FnOk P w K mg base CX0 1 f fd ["_law_cell", "_law_turn"] spMixed := by
  refine F.ok sc__law_mixed (fun vs H Q E h => ?_) (fun cdv A outer s H vs Q E hr h => ?_)
  · obtain ⟨x, t, rfl, _⟩ := h
    rfl
  · obtain ⟨x, t, rfl, h0, h1, k⟩ := h
    refine ⟨_, (pss_cons (ps_set (i := 2) sc__law_mixed.nd rfl (by first | exact Or.inl rfl | exact Or.inr rfl) (pe_op op_mod (pe_callTy call_int1 (by rfl) T.b_int (by decide +kernel) (pa_cons (pe_op op_mul (pv 0) (pe_op op_add (pe_op op_mul pe_int (pv 1)) pe_int)) pa_nil)) pe_int))
      (pss_cons (ps_set (i := 2) sc__law_mixed.nd rfl (by first | exact Or.inl rfl | exact Or.inr rfl) (pe_op op_mod (pe_callTy call_int1 (by rfl) T.b_int (by decide +kernel) (pa_cons (pe_op op_add (pe_op op_mul (pv 2) pe_int) (pe_op op_fdiv (pv 2) pe_int)) pa_nil)) pe_int))
      (pss_one (ps_ret (pe_op op_fdiv (pv 2) pe_int))))), ?_⟩
    walk_at "rd"
    exact k _ (Int.ediv_nonneg (Int.emod_nonneg _ (by decide)) (by decide))
/-! ### _law_take -/
abbrev s__law_take : Stmt := top 8
theorem sc__law_take : FnScope ["_law_bag_here", "_law_many", "_law_cell", "_law_digit"] ["_law_bag_here", "_law_many"] (defScope s__law_take) := ⟨rfl, rfl, rfl, by decide +kernel, rfl, by decide +kernel, by decide +kernel⟩
def spTake : Sp := fun vs H Q _ => ∃ (b c : Addr) (m : Int), vs = [.ref b, .int m] ∧ Bag H b c ∧ m < 2 ^ 200 ∧
  ∀ (r : Int) H', Bag H' b c → Keep H H' b → 0 ≤ r → r < max 1 m → Q (.int r) H'
theorem ok_take {f : Addr} {fd : FuncData} (F : Fun K "_law_take" "_law_take" s__law_take f fd) (T : Bn mg) (c__law_mixed : C8.Cal P w K mg base 1 "_law_mixed" spMixed []) : FnOk P w K mg base CX0 2 f fd ["_law_bag_here", "_law_many"] spTake := by
  refine F.ok sc__law_take (fun vs H Q E h => ?_) (fun cdv A outer s H vs Q E hr h => ?_)
  · obtain ⟨b, c, m, rfl, _⟩ := h
    rfl
  · obtain ⟨b, c, m, rfl, hb, hm, k⟩ := h
    refine ⟨_, (pss_cons (ps_set (i := 1) sc__law_take.nd rfl (by first | exact Or.inl rfl | exact Or.inr rfl) (pe_callB (call_max2 rfl) (by rfl) T.b_max (by decide +kernel) (pa_cons pe_int (pa_cons (pv 1) pa_nil))))
      (pss_cons (ps_asg (pe_op op_add (pe_ix ix_list (pv 0) pe_int (fun _ _ => rfl)) pe_int) (pg_sub (pv 0) pe_int set_list))
      (pss_cons (ps_if (PW.pt (pw_and (pt_cmpR op_lt (pe_ix ix_list (pv 0) pe_int (fun _ _ => rfl)) (pv 1) (nomark _)) (pw_and1 (pt_cmpR op_lt (pe_ix ix_list (pv 0) pe_int (fun _ _ => rfl)) (pe_callB call_len (by rfl) T.b_len PySem.boot_len (pa_cons (pe_ix ix_list (pv 0) pe_int (fun _ _ => rfl)) pa_nil)) (nomark _))))) (pss_cons (ps_set (i := 2) sc__law_take.nd rfl (by first | exact Or.inl rfl | exact Or.inr rfl) (pe_ix ix_list (pe_ix ix_list (pv 0) pe_int (fun _ _ => rfl)) (pe_ix ix_list (pv 0) pe_int (fun _ _ => rfl)) (fun _ _ => rfl)))
      (pss_cons (ps_asg (pe_op op_add (pe_ix ix_list (pv 0) pe_int (fun _ _ => rfl)) pe_int) (pg_sub (pv 0) pe_int set_list))
      (pss_cons (ps_if (pt_cmpR op_lt (pv 2) (pe_op op_pow pe_int pe_int) (nomark _)) (pss_one (ps_ret (pe_op op_mod (pe_callTy call_int1 (by rfl) T.b_int (by decide +kernel) (pa_cons (C8.pe_c c__law_mixed hr (by decide) rfl (pa_cons (pv 2) (pa_cons (pe_ix ix_list (pv 0) pe_int (fun _ _ => rfl)) pa_nil))) pa_nil)) (pv 1)))) pss_nil)
      (pss_one (ps_asg (pv 2) (pg_sub (pv 0) pe_int set_list)))))) pss_nil)
      (pss_cons (ps_if (pt_cmpR op_ge (pe_ix ix_list (pv 0) pe_int (fun _ _ => rfl)) (pv 1) (nomark _)) (pss_cons (ps_set (i := 3) sc__law_take.nd rfl (by first | exact Or.inl rfl | exact Or.inr rfl) (pe_op op_mod (pe_callTy call_int1 (by rfl) T.b_int (by decide +kernel) (pa_cons (pe_ix ix_list (pv 0) pe_int (fun _ _ => rfl)) pa_nil)) (pv 1)))
      (pss_cons (ps_asg (pe_op op_fdivW (pe_ix ix_list (pv 0) pe_int (fun _ _ => rfl)) (pv 1)) (pg_sub (pv 0) pe_int set_list))
      (pss_one (ps_ret (pv 3))))) pss_nil)
      (pss_one (ps_ret (pe_op op_mod (pe_callTy call_int1 (by rfl) T.b_int (by decide +kernel) (pa_cons (C8.pe_c c__law_mixed hr (by decide) rfl (pa_cons (pe_ix ix_list (pv 0) pe_int (fun _ _ => rfl)) (pa_cons (pe_ix ix_list (pv 0) pe_int (fun _ _ => rfl)) pa_nil))) pa_nil)) (pv 1)))))))), ?_⟩
    obtain ⟨n, acc, pos, bs, cells, h1, h2, hbc, ha, hp, hbs, hbs2, hcs, hl⟩ := hb
    have hcb : c ≠ b := hbc.symm
    have kk : ∀ (r n' acc' pos' : Int) (H' : Hp), H' b = some (.lst [.int n', .int acc', .int pos', .int bs, .ref c]) → Keep H H' b → 0 ≤ acc' → 0 ≤ pos' → 0 ≤ r → r < max 1 m → Q (.int r) H' :=
      fun r n' acc' pos' H' e kp e1 e2 e3 e4 => k r H' ⟨n', acc', pos', bs, cells, e, kp _ _ h2 hcb, hbc, e1, e2, hbs, hbs2, hcs, hl⟩ kp e3 e4
    walk_at "rd"
    have hM1 : (if m > 1 then m else 1) = max 1 m := by omega
    rw [hM1]
    have hMa : 1 ≤ max 1 m := by omega
    have hMb : (max 1 m).natAbs.log2 < 9000 := Nat.lt_of_lt_of_le (PySem.Flt.log2_lt_of (show 0 < 200 by decide) (show (max 1 m).natAbs < 2 ^ 200 by omega)) (show 200 ≤ 9000 by decide)
    generalize max 1 m = M at *
    have kp0 : ∀ l : List V, Keep H (upd H b (.lst l)) b := fun l => (Keep.refl H b).upd
    have tail1 : ∀ (r n' acc' pos' : Int) (H' : Hp), H' b = some (.lst [.int n', .int acc', .int pos', .int bs, .ref c]) → Keep H H' b → 0 ≤ acc' → 0 ≤ pos' → 0 ≤ r → Q (.int (r % M)) H' :=
      fun r n' acc' pos' H' e kp e1 e2 e3 => kk _ n' acc' pos' H' e kp e1 e2 (Int.emod_nonneg _ (by omega)) (Int.emod_lt_of_pos _ (by omega))
    refine ite2 (fun c1 => ?_) (fun c1 => ?_)
    · walk_at "rd"
      refine ⟨_, _, rfl, .inl ⟨_, SqL.of (by walk_at "hp"), rfl⟩, ?_⟩
      walk_at "rd"
      refine ite2 (fun c2 => ?_) (fun c2 => ?_)
      · have c2' := of_decide_eq_true c2
        rw [List.length_map] at c2'
        obtain ⟨x, hx⟩ : ∃ x, cells[pos.toNat]? = some x := ⟨_, List.getElem?_eq_getElem (by omega)⟩
        have hx0 : 0 ≤ x := hcs x (List.mem_of_getElem? hx)
        have hat : atI (cells.map V.int) pos = some (V.int x) := at_of (j := pos.toNat) (by omega) (by rw [List.getElem?_map, hx]; rfl)
        walk_at "rd"
        refine ite2 (fun c3 => ?_) (fun c3 => ?_)
        · have c3' : x < 10 ^ (18 : Int).toNat := of_decide_eq_true c3
          have c3'' : x < 1000000000000000000 := c3'
          walk_at "rd"
          refine ⟨hx0, by omega, fun r hr0 => ?_⟩
          walk_at "rd"
          exact tail1 r _ _ _ _ upd_same (Keep.refl H b).upd.upd ha (by omega) hr0
        · walk_at "rd"
          refine ite2 (fun c4 => ?_) (fun c4 => ?_)
          · walk_at "rd"
            exact tail1 x _ _ _ _ upd_same (Keep.refl H b).upd.upd.upd.upd (Int.ediv_nonneg hx0 (by omega)) (by omega) hx0
          · walk_at "rd"
            refine ⟨hbs, by omega, fun r hr0 => ?_⟩
            walk_at "rd"
            exact tail1 r _ _ _ _ (by walk_at "hp") (Keep.refl H b).upd.upd.upd hx0 (by omega) hr0
      · walk_at "rd"
        refine ite2 (fun c4 => ?_) (fun c4 => ?_)
        · walk_at "rd"
          exact tail1 acc _ _ _ _ upd_same (Keep.refl H b).upd.upd (Int.ediv_nonneg ha (by omega)) hp ha
        · walk_at "rd"
          refine ⟨hbs, by omega, fun r hr0 => ?_⟩
          walk_at "rd"
          exact tail1 r _ _ _ _ (by walk_at "hp") (Keep.refl H b).upd ha hp hr0
    · walk_at "rd"
      refine ite2 (fun c4 => ?_) (fun c4 => ?_)
      · walk_at "rd"
        exact tail1 acc _ _ _ _ upd_same (Keep.refl H b).upd.upd (Int.ediv_nonneg ha (by omega)) hp ha
      · walk_at "rd"
        refine ⟨hbs, by omega, fun r hr0 => ?_⟩
        walk_at "rd"
        exact tail1 r _ _ _ _ (by walk_at "hp") (Keep.refl H b).upd ha hp hr0
end
end Fk

namespace Fk
open PySem L2
local macro_rules | `(tactic| walk_at "rdc") => `(tactic| (first | exact Or.inl ⟨by decide, by decide⟩ | exact Or.inr ⟨by decide, by decide⟩ | exact ⟨by decide, by decide⟩ | exact Or.inl ⟨by omega, by omega⟩ | exact Or.inr ⟨by omega, by omega⟩ | ((show (0 : Int) < _); (first | decide | omega)) | exact ⟨by decide, by decide, by decide⟩ | exact ⟨by omega, by assumption⟩))
local macro_rules | `(tactic| walk_at "hp") => `(tactic| (first | exact upd_same | assumption | ((rw [upd_ne (by assumption)]); (first | exact upd_same | assumption | ((rw [upd_ne (by assumption)]); (first | exact upd_same | assumption | ((rw [upd_ne (by assumption)]); (first | exact upd_same | assumption))))))))
local macro_rules | `(tactic| walk_at "r1") => `(tactic| (first | refine ⟨_, rfl, ?_⟩ | refine ⟨_, _, rfl, rfl, ?_⟩ | refine ⟨_, _, rfl, ?_⟩ | refine Or.inl ⟨_, rfl, ?_⟩ | refine ⟨rfl, ?_⟩ | refine ⟨(by walk_at "rdc"), ?_⟩ | refine ⟨_, _, _, _, rfl, rfl, SqL.of (by walk_at "hp"), rfl, ?_⟩ | refine ⟨_, _, _, _, rfl, rfl, (by walk_at "hp"), rfl, ?_⟩ | refine ⟨_, _, _, _, rfl, rfl, SqL.of (by walk_at "hp"), by assumption, ?_⟩))
local macro_rules | `(tactic| walk_at "rd") => `(tactic| (repeat walk_at "r1"))
--#ty beats_of pitches=q
--#ty sums first=q second=q
--#ty differences first=q second=q
--#ty alike_in_beats first=q second=q
--#ty _law_ints _law_thing=l _law_due=l
--#ty _law_far_all _law_row=l _law_found=l
--#ret beats_of l
--#ret sums l
--#ret differences l
--#ret _law_far_all l
--#ret _law_is_int b
theorem ints_take {ns : List Int} {i : Nat} {z : Int} (h : ns[i]? = some z) : ns.take (i + 1) = ns.take i ++ [z] := by
  rw [List.take_add_one, h]
  rfl
theorem far_take {ns : List Int} {i : Nat} {z : Int} (h : ns[i]? = some z) : Far.far (ns.take (i + 1)) = Far.far (ns.take i) ++ (ns.take i).map (Far.ds z) := by
  rw [ints_take h, Far.far_snoc]
theorem tri_le : ∀ (l d : List Int), (Far.farA d l).length ≤ l.length * (d.length + l.length)
  | [], d => by simp [Far.farA]
  | x :: l, d => by
    have ih := tri_le l (d ++ [x])
    simp only [Far.farA, List.length_append, List.length_map, List.length_cons, List.length_nil] at ih ⊢
    have e : (l.length + 1) * (d.length + (l.length + 1)) = l.length * (d.length + (0 + 1) + l.length) + (d.length + (l.length + 1)) := by
      rw [Nat.add_mul, Nat.one_mul]
      congr 2
      omega
    omega
theorem far_small {ns : List Int} (h : ns.length ≤ 100) : (Far.far ns).length ≤ 10000 := by
  have q := tri_le ns []
  refine Nat.le_trans q ?_
  rw [List.length_nil, Nat.zero_add]
  exact Nat.le_trans (Nat.mul_le_mul h h) (by decide)
theorem small4 {n : Nat} (h : n ≤ 100000) : n < sizeLine := Nat.lt_of_le_of_lt h (by decide)
section
variable {P : Program} {w : World} {K : PySem.W.Frag} {mg : Str → Option Value} {base : Heap}
structure Bs (mg : Str → Option Value) : Prop where
  b_sorted : mg "sorted" = none
  b_enumerate : mg "enumerate" = none
  b_abs : mg "abs" = none
  b_isinstance : mg "isinstance" = none
  b_int : mg "int" = none
  b_bool : mg "bool" = none
  b_list : mg "list" = none
  b_len : mg "len" = none
  b_all : mg "all" = none
  b_range : mg "range" = none
/-! ### sums and differences -/
def spTwo (K : PySem.W.Frag) (f : List Int → List Int → List Int) : Sp := fun vs H Q _ => ∃ (a b : Addr) (A B : List Int), vs = [.ref a, .ref b] ∧ Fx.SqA K H a (A.map V.int) ∧ Fx.SqA K H b (B.map V.int) ∧ A.length ≤ 20 ∧ B.length ≤ 20 ∧
  ∀ (p : Addr) H', Same H H' → H p = none → H' p = some (.lst ((Far.srt (f A B)).map V.int)) → Q (.ref p) H'

abbrev s_sums : Stmt := top 3
theorem sc_sums : FnScope ["first", "second", "x", "y"] ["first", "second"] (defScope s_sums) := ⟨rfl, rfl, rfl, by decide +kernel, rfl, by decide +kernel, by decide +kernel⟩
theorem ok_sums {f : Addr} {fd : FuncData} (F : Fun K "sums" "sums" s_sums f fd) (T : Bs mg) : FnOk P w K mg base CX0 1 f fd ["first", "second"] (spTwo K Far.sumsL) := by
  refine F.ok sc_sums (fun vs H Q E h => ?_) (fun cdv A outer s H vs Q E hr h => ?_)
  · obtain ⟨a, b, A, B, rfl, _⟩ := h
    rfl
  · obtain ⟨a, b, A, B, rfl, ha, hb, la, lb, k⟩ := h
    refine ⟨_, (pss_one (ps_ret (pe_callB cr_sortedI (by rfl) T.b_sorted (by decide +kernel) (pa_cons (pe_lc2 (own := [("x", 2), ("y", 3)]) (vs1 := [3]) (g := (gName 2)) (g1 := (gName 3)) (tt := tYes) (tt1 := tYes) rfl sc_sums.nd (Fx.pi_seq (pv 0)) (blkOk_by (own := [("x", 2), ("y", 3)]) (N := ["first", "second", "x", "y"]) (sc := defScope s_sums) (by decide +kernel)) (by decide) (fun _ _ _ _ _ => (pg_name (i := 2) sc_sums.nd rfl (by first | exact Or.inl rfl | exact Or.inr rfl))) (fun _ _ _ _ _ => pts_nil) (fun _ _ _ _ _ => (show PI _ _ _ (Fx.iSeq K _) from Fx.pi_seq (pv 1))) (fun _ _ _ _ _ => (pg_name (i := 3) sc_sums.nd rfl (by first | exact Or.inl rfl | exact Or.inr rfl))) (fun _ _ _ _ _ => pts_nil) (fun _ _ _ _ _ => (pe_op op_add (pv 2) (pv 3)))) pa_nil)))), ?_⟩
    refine ⟨_, rfl, a, _, H, rfl, ha, Same.refl H, fun J wJ D nD => ?_⟩
    have bnd : ∀ i, (Far.sumsL (A.take i) B).length ≤ 400 := fun i => by
      rw [Far.sums_len, List.length_take]
      exact Nat.le_trans (Nat.mul_le_mul (show min i A.length ≤ 20 by omega) lb) (by decide)
    refine Fx.lc2_it wJ (Fx.Gro D H fun i => (Far.sumsL (A.take i) B).map V.int) (Fx.Gro.start nD rfl) (fun i H' _ p => p.2) ?_ ?_
    · rintro i x H1 _ hi ⟨hD, hs⟩ ⟨rfl, hx⟩
      obtain ⟨z, hz, rfl⟩ := ints_at hx
      refine ⟨rfl, ?_⟩
      refine ⟨_, rfl, b, _, H, rfl, hb, hs, fun J1 wJ1 => ?_⟩
      have step : (Far.sumsL (A.take (i + 1)) (B)) = Far.sumsL (A.take i) B ++ B.map fun y => z + y := by
        rw [ints_take hz]
        unfold Far.sumsL
        rw [List.flatMap_append]
        simp
      refine Fx.in_it wJ1 (Fx.Gro D H fun j => (Far.sumsL (A.take i) B ++ (B.take j).map fun y => z + y).map V.int) ⟨by simpa using hD, hs⟩ (fun j H' _ p => p.2) ?_ ?_
      · rintro j y H2 _ hj ⟨hD2, hs2⟩ ⟨rfl, hy⟩
        obtain ⟨u, hu, rfl⟩ := ints_at hy
        refine ⟨rfl, ?_⟩
        walk_at "rd"
        refine Fx.Gro.put nD hD2 hs2 (small1000 ?_) ?_
        · rw [List.length_map, List.length_append, List.length_map, List.length_take]
          have := bnd i
          omega
        · rw [ints_take hu, map_snoc]
          simp
      · rintro H2 ⟨hD2, hs2⟩
        refine ⟨hD2.trans (congrArg (fun l : List Int => some (HO.lst (l.map V.int))) ?_), hs2⟩
        rw [step, List.length_map, List.take_length]
    · rintro H1 ⟨hD, hs⟩
      rw [List.length_map] at hD
      simp only [List.take_length] at hD
      refine ⟨D, Far.sumsL A B, rfl, SqL.of hD, fun ns' p pm up np => ?_⟩
      rw [Far.srt_of pm up]
      exact k p _ (Same.new hs np) (hs.free np) upd_same

abbrev s_differences : Stmt := top 4
theorem sc_differences : FnScope ["first", "second", "x", "y"] ["first", "second"] (defScope s_differences) := ⟨rfl, rfl, rfl, by decide +kernel, rfl, by decide +kernel, by decide +kernel⟩
theorem ok_differences {f : Addr} {fd : FuncData} (F : Fun K "differences" "differences" s_differences f fd) (T : Bs mg) : FnOk P w K mg base CX0 1 f fd ["first", "second"] (spTwo K Far.diffL) := by
  refine F.ok sc_differences (fun vs H Q E h => ?_) (fun cdv A outer s H vs Q E hr h => ?_)
  · obtain ⟨a, b, A, B, rfl, _⟩ := h
    rfl
  · obtain ⟨a, b, A, B, rfl, ha, hb, la, lb, k⟩ := h
    refine ⟨_, (pss_one (ps_ret (pe_callB cr_sortedI (by rfl) T.b_sorted (by decide +kernel) (pa_cons (pe_lc2 (own := [("x", 2), ("y", 3)]) (vs1 := [3]) (g := (gName 2)) (g1 := (gName 3)) (tt := tYes) (tt1 := tYes) rfl sc_differences.nd (Fx.pi_seq (pv 0)) (blkOk_by (own := [("x", 2), ("y", 3)]) (N := ["first", "second", "x", "y"]) (sc := defScope s_differences) (by decide +kernel)) (by decide) (fun _ _ _ _ _ => (pg_name (i := 2) sc_differences.nd rfl (by first | exact Or.inl rfl | exact Or.inr rfl))) (fun _ _ _ _ _ => pts_nil) (fun _ _ _ _ _ => (show PI _ _ _ (Fx.iSeq K _) from Fx.pi_seq (pv 1))) (fun _ _ _ _ _ => (pg_name (i := 3) sc_differences.nd rfl (by first | exact Or.inl rfl | exact Or.inr rfl))) (fun _ _ _ _ _ => pts_nil) (fun _ _ _ _ _ => (pe_op op_sub (pv 2) (pv 3)))) pa_nil)))), ?_⟩
    refine ⟨_, rfl, a, _, H, rfl, ha, Same.refl H, fun J wJ D nD => ?_⟩
    have bnd : ∀ i, (Far.diffL (A.take i) B).length ≤ 400 := fun i => by
      rw [Far.diff_len, List.length_take]
      exact Nat.le_trans (Nat.mul_le_mul (show min i A.length ≤ 20 by omega) lb) (by decide)
    refine Fx.lc2_it wJ (Fx.Gro D H fun i => (Far.diffL (A.take i) B).map V.int) (Fx.Gro.start nD rfl) (fun i H' _ p => p.2) ?_ ?_
    · rintro i x H1 _ hi ⟨hD, hs⟩ ⟨rfl, hx⟩
      obtain ⟨z, hz, rfl⟩ := ints_at hx
      refine ⟨rfl, ?_⟩
      refine ⟨_, rfl, b, _, H, rfl, hb, hs, fun J1 wJ1 => ?_⟩
      have step : (Far.diffL (A.take (i + 1)) (B)) = Far.diffL (A.take i) B ++ B.map fun y => z - y := by
        rw [ints_take hz]
        unfold Far.diffL
        rw [List.flatMap_append]
        simp
      refine Fx.in_it wJ1 (Fx.Gro D H fun j => (Far.diffL (A.take i) B ++ (B.take j).map fun y => z - y).map V.int) ⟨by simpa using hD, hs⟩ (fun j H' _ p => p.2) ?_ ?_
      · rintro j y H2 _ hj ⟨hD2, hs2⟩ ⟨rfl, hy⟩
        obtain ⟨u, hu, rfl⟩ := ints_at hy
        refine ⟨rfl, ?_⟩
        walk_at "rd"
        refine Fx.Gro.put nD hD2 hs2 (small1000 ?_) ?_
        · rw [List.length_map, List.length_append, List.length_map, List.length_take]
          have := bnd i
          omega
        · rw [ints_take hu, map_snoc]
          simp
      · rintro H2 ⟨hD2, hs2⟩
        refine ⟨hD2.trans (congrArg (fun l : List Int => some (HO.lst (l.map V.int))) ?_), hs2⟩
        rw [step, List.length_map, List.take_length]
    · rintro H1 ⟨hD, hs⟩
      rw [List.length_map] at hD
      simp only [List.take_length] at hD
      refine ⟨D, Far.diffL A B, rfl, SqL.of hD, fun ns' p pm up np => ?_⟩
      rw [Far.srt_of pm up]
      exact k p _ (Same.new hs np) (hs.free np) upd_same

/-! ### beats_of -/
def spFarL (K : PySem.W.Frag) : Sp := fun vs H Q _ => ∃ (a : Addr) (A : List Int), vs = [.ref a] ∧ SqL K H a (A.map V.int) ∧ A.length ≤ 100 ∧
  ∀ (p : Addr) H', Same H H' → H p = none → H' p = some (.lst ((Far.srt (Far.far A)).map V.int)) → Q (.ref p) H'
def spFar (K : PySem.W.Frag) : Sp := fun vs H Q _ => ∃ (a : Addr) (A : List Int), vs = [.ref a] ∧ Fx.SqA K H a (A.map V.int) ∧ A.length ≤ 100 ∧
  ∀ (p : Addr) H', Same H H' → H p = none → H' p = some (.lst ((Far.srt (Far.far A)).map V.int)) → Q (.ref p) H'
abbrev s_beats_of : Stmt := top 1
theorem sc_beats_of : FnScope ["pitches", "at", "first", "second"] ["pitches"] (defScope s_beats_of) := ⟨rfl, rfl, rfl, by decide +kernel, rfl, by decide +kernel, by decide +kernel⟩
theorem ok_beats_of {f : Addr} {fd : FuncData} (F : Fun K "beats_of" "beats_of" s_beats_of f fd) (T : Bs mg) : FnOk P w K mg base CX0 1 f fd ["pitches"] (spFar K) := by
  refine F.ok sc_beats_of (fun vs H Q E h => ?_) (fun cdv A outer s H vs Q E hr h => ?_)
  · obtain ⟨a, A, rfl, _⟩ := h
    rfl
  · obtain ⟨a, A, rfl, ha, la, k⟩ := h
    refine ⟨_, (pss_one (ps_ret (pe_callB cr_sortedI (by rfl) T.b_sorted (by decide +kernel) (pa_cons (pe_lc2 (own := [("at", 1), ("first", 2), ("second", 3)]) (vs1 := [3]) (g := (gTup K 2 (gCons (gName 1) (gCons (gName 2) gNil)))) (g1 := (gName 3)) (tt := tYes) (tt1 := tYes) rfl sc_beats_of.nd (Fx.pi_enumA (by rfl) T.b_enumerate (pa_cons (pv 0) pa_nil)) (blkOk_by (own := [("at", 1), ("first", 2), ("second", 3)]) (N := ["pitches", "at", "first", "second"]) (sc := defScope s_beats_of) (by decide +kernel)) (by decide) (fun _ _ _ _ _ => (show PG _ _ (gTup K 2 (gCons (gName 1) (gCons (gName 2) gNil))) from pg_tup rfl (pgs_cons (pg_name (i := 1) sc_beats_of.nd rfl (by first | exact Or.inl rfl | exact Or.inr rfl)) (pgs_cons (pg_name (i := 2) sc_beats_of.nd rfl (by first | exact Or.inl rfl | exact Or.inr rfl)) pgs_nil)))) (fun _ _ _ _ _ => pts_nil) (fun _ _ _ _ _ => (show PI _ _ _ (Fx.iSeq K _) from Fx.pi_seq (pe_slice (show SlR _ (Fx.rSlA K) from Fx.sl_seq) (pv 0) po_none (po_some (pv 1))))) (fun _ _ _ _ _ => (pg_name (i := 3) sc_beats_of.nd rfl (by first | exact Or.inl rfl | exact Or.inr rfl))) (fun _ _ _ _ _ => pts_nil) (fun _ _ _ _ _ => (pe_callB call_abs (by rfl) T.b_abs (by decide +kernel) (pa_cons (pe_op op_sub (pv 2) (pv 3)) pa_nil)))) pa_nil)))), ?_⟩
    walk_at "rd"
    refine ⟨a, _, H, rfl, ha, Same.refl H, fun J wJ D nD => ?_⟩
    have bnd : ∀ i, (Far.far (A.take i)).length ≤ 10000 := fun i => far_small (by rw [List.length_take]; omega)
    refine Fx.lc2_it wJ (Fx.Gro D H fun i => (Far.far (A.take i)).map V.int) (Fx.Gro.start nD rfl) (fun i H' _ p => p.2) ?_ ?_
    · rintro i x H1 _ hi ⟨hD, hs⟩ ⟨T, u, v, rfl, nT, rfl, hu, hv⟩
      cases hu
      obtain ⟨z, hz, rfl⟩ := ints_at hv
      have DT : D ≠ T := ne_of_none hD nT
      refine ⟨_, _, rfl, SqT.of upd_same, rfl, ?_⟩
      walk_at "rd"
      refine Fx.cut_seq ha (Same.new hs nT) hi fun p o np ho => ?_
      rw [← List.map_take] at ho
      have pT : T ≠ p := ne_of_none upd_same np
      have Dp : D ≠ p := ne_of_none ((upd_ne DT).trans hD) np
      refine ⟨p, _, Fx.only p o, rfl, Fx.only_seq ho, Fx.only_same upd_same, fun J1 wJ1 => ?_⟩
      refine Fx.in_it wJ1 (fun j H' => Fx.Gro D H (fun j => (Far.far (A.take i) ++ ((A.take i).take j).map (Far.ds z)).map V.int) j H' ∧ H' p = some o)
        ⟨⟨?_, Same.new (Same.new hs nT) np⟩, upd_same⟩ (fun j H' _ q => Fx.only_same q.2) ?_ ?_
      · rw [upd_ne Dp, upd_ne DT]
        simpa using hD
      · rintro j y H2 _ hj ⟨⟨hD2, hs2⟩, hp2⟩ ⟨rfl, hy⟩
        obtain ⟨u, hu, rfl⟩ := ints_at hy
        refine ⟨rfl, ?_⟩
        walk_at "rd"
        have e : (fun j => (Far.far (A.take i) ++ ((A.take i).take j).map (Far.ds z)).map V.int) (j + 1) = (fun j => (Far.far (A.take i) ++ ((A.take i).take j).map (Far.ds z)).map V.int) j ++ [V.int (Far.ds z u)] := by
          show (Far.far (A.take i) ++ ((A.take i).take (j + 1)).map (Far.ds z)).map V.int = (Far.far (A.take i) ++ ((A.take i).take j).map (Far.ds z)).map V.int ++ [V.int (Far.ds z u)]
          rw [ints_take hu, map_snoc]
          simp
        have hl : ((Far.far (A.take i) ++ ((A.take i).take j).map (Far.ds z)).map V.int).length < sizeLine := small4 (by
          rw [List.length_map, List.length_append, List.length_map, List.length_take, List.length_take]
          have := bnd i
          omega)
        obtain ⟨acc, h1, h2, h3⟩ := Fx.Gro.put (out := fun j => (Far.far (A.take i) ++ ((A.take i).take j).map (Far.ds z)).map V.int) (i := j) nD hD2 hs2 hl e
        exact ⟨acc, h1, h2, h3, (upd_ne Dp.symm).trans hp2⟩
      · rintro H2 ⟨⟨hD2, hs2⟩, _⟩
        refine ⟨hD2.trans (congrArg (fun l : List Int => some (HO.lst (l.map V.int))) ?_), hs2⟩
        rw [far_take hz, List.length_map, List.take_length]
    · rintro H1 ⟨hD, hs⟩
      rw [List.length_map] at hD
      simp only [List.take_length] at hD
      refine ⟨D, Far.far A, rfl, SqL.of hD, fun ns' p pm up np => ?_⟩
      rw [Far.srt_of pm up]
      exact k p _ (Same.new hs np) (hs.free np) upd_same
/-! ### alike_in_beats -/
def spAlike (K : PySem.W.Frag) : Sp := fun vs H Q _ => ∃ (a b : Addr) (A B : List Int), vs = [.ref a, .ref b] ∧ Fx.SqA K H a (A.map V.int) ∧ Fx.SqA K H b (B.map V.int) ∧ A.length ≤ 100 ∧ B.length ≤ 100 ∧
  ∀ H', Same H H' → Q (.bl (decide (Far.srt (Far.far A) = Far.srt (Far.far B)))) H'
abbrev s_alike_in_beats : Stmt := top 2
theorem sc_alike_in_beats : FnScope ["first", "second"] ["first", "second"] (defScope s_alike_in_beats) := ⟨rfl, rfl, rfl, by decide +kernel, rfl, by decide +kernel, by decide +kernel⟩
theorem ok_alike {f : Addr} {fd : FuncData} (F : Fun K "alike_in_beats" "alike_in_beats" s_alike_in_beats f fd) (c_beats_of : C8.Cal P w K mg base 1 "beats_of" (spFar K) []) : FnOk P w K mg base CX0 2 f fd ["first", "second"] (spAlike K) := by
  refine F.ok sc_alike_in_beats (fun vs H Q E h => ?_) (fun cdv A outer s H vs Q E hr h => ?_)
  · obtain ⟨a, b, A, B, rfl, _⟩ := h
    rfl
  · obtain ⟨a, b, A, B, rfl, ha, hb, la, lb, k⟩ := h
    refine ⟨_, (pss_one (ps_ret (pe_cmpR (op_eqD hr.units) (C8.pe_c c_beats_of hr (by decide) rfl (pa_cons (pv 0) pa_nil)) (C8.pe_c c_beats_of hr (by decide) rfl (pa_cons (pv 1) pa_nil)) (nomark _)))), ?_⟩
    walk_at "rd"
    refine ⟨a, A, rfl, ha, la, fun p H1 s1 np hp => ?_⟩
    walk_at "rd"
    refine ⟨b, B, rfl, hb.same s1, lb, fun q H2 s2 nq hq => ?_⟩
    exact Fx.eq_ints (SqL.of (s2 _ _ hp)) (SqL.of hq) (k H2 (s1.trans s2))
abbrev s__law_is_int : Stmt := top 9
theorem sc__law_is_int : FnScope ["_law_thing"] ["_law_thing"] (defScope s__law_is_int) := ⟨rfl, rfl, rfl, by decide +kernel, rfl, by decide +kernel, by decide +kernel⟩
def spIsInt : Sp := fun vs H Q _ => ∃ n : Int, vs = [.int n] ∧ Q (.bl true) H
theorem ok_is_int {f : Addr} {fd : FuncData} (F : Fun K "_law_is_int" "_law_is_int" s__law_is_int f fd) (T : Bs mg) : FnOk P w K mg base CX0 1 f fd ["_law_thing"] spIsInt := by
  refine F.ok sc__law_is_int (fun vs H Q E h => ?_) (fun cdv A outer s H vs Q E hr h => ?_)
  · obtain ⟨n, rfl, _⟩ := h
    rfl
  · obtain ⟨n, rfl, k⟩ := h
    refine ⟨_, (pss_one (ps_ret (pe_and (pe_callB call_isi (by rfl) T.b_isinstance (by decide +kernel) (pa_cons (pv 0) (pa_cons (pe_bltn (v := .ty "int") (by rfl) T.b_int (by decide +kernel) rfl) pa_nil))) (pe_one (pe_not (pe_callB call_isi (by rfl) T.b_isinstance (by decide +kernel) (pa_cons (pv 0) (pa_cons (pe_bltn (v := .ty "bool") (by rfl) T.b_bool (by decide +kernel) rfl) pa_nil)))))))), ?_⟩
    walk_at "rd"
    refine ⟨_, _, _, _, true, rfl, .ty _, .base (.int _), kit_ty (by decide +kernel), ?_⟩
    walk_at "rd"
    refine ⟨_, _, _, _, false, rfl, .ty _, .base (.int _), kit_ty (by decide +kernel), ?_⟩
    walk_at "rd"
    exact k
abbrev s__law_ints : Stmt := top 10
theorem sc__law_ints : FnScope ["_law_thing", "_law_due", "_law_one"] ["_law_thing", "_law_due"] (defScope s__law_ints) := ⟨rfl, rfl, rfl, by decide +kernel, rfl, by decide +kernel, by decide +kernel⟩
def spInts : Sp := fun vs H Q _ => ∃ (a b : Addr) (ns : List Int), vs = [.ref a, .ref b] ∧ H a = some (.lst (ns.map V.int)) ∧ H b = some (.lst (ns.map V.int)) ∧ ns.length ≤ 10000 ∧ ∀ H', Same H H' → Q (.bl true) H'
theorem ok_ints {f : Addr} {fd : FuncData} (F : Fun K "_law_ints" "_law_ints" s__law_ints f fd) (T : Bs mg) (c__law_is_int : C8.Cal P w K mg base 1 "_law_is_int" spIsInt []) : FnOk P w K mg base CX0 2 f fd ["_law_thing", "_law_due"] spInts := by
  refine F.ok sc__law_ints (fun vs H Q E h => ?_) (fun cdv A outer s H vs Q E hr h => ?_)
  · obtain ⟨a, b, ns, rfl, _⟩ := h
    rfl
  · obtain ⟨a, b, ns, rfl, ha, hb, hl, k⟩ := h
    refine ⟨_, (pss_cons (ps_if (PW.pt (pw_or (pt_not (pt_val (pe_callB call_isi (by rfl) T.b_isinstance (by decide +kernel) (pa_cons (pv 0) (pa_cons (pe_bltn (v := .ty "list") (by rfl) T.b_list (by decide +kernel) rfl) pa_nil))))) (pw_or1 (pt_cmpR op_ne (pe_callB call_len (by rfl) T.b_len PySem.boot_len (pa_cons (pv 0) pa_nil)) (pe_callB call_len (by rfl) T.b_len PySem.boot_len (pa_cons (pv 1) pa_nil)) (nomark _))))) (pss_one (ps_ret pe_bl)) pss_nil)
      (pss_one (ps_ret (pe_and (pe_callB (cr_all rfl) (by rfl) T.b_all (by decide +kernel) (pa_cons (pe_lc (own := [("_law_one", 2)]) (g := gName 2) (tt := tYes) rfl sc__law_ints.nd (pi_list (pv 0)) (blkOk_by (own := [("_law_one", 2)]) (N := ["_law_thing", "_law_due", "_law_one"]) (sc := defScope s__law_ints) (by decide +kernel)) (fun _ _ _ _ _ => pg_name (i := 2) sc__law_ints.nd rfl (by first | exact Or.inl rfl | exact Or.inr rfl)) (fun _ _ _ _ _ => pts_nil) (fun _ _ _ _ _ => (C8.pe_c c__law_is_int hr (by decide) rfl (pa_cons (pv 2) pa_nil)))) pa_nil)) (pe_one (pe_cmpR (op_eqD hr.units) (pv 0) (pv 1) (nomark _))))))), ?_⟩
    walk_at "rd"
    refine ⟨_, _, _, _, true, rfl, .ty _, .base (.lst ha), kit_ty (by decide +kernel), ?_⟩
    walk_at "rd"
    refine ⟨_, ns.length, rfl, .inl ⟨_, SqL.of ha, (List.length_map ..).symm⟩, ?_⟩
    walk_at "rd"
    refine ⟨_, ns.length, rfl, .inl ⟨_, SqL.of hb, (List.length_map ..).symm⟩, ?_⟩
    walk_at "rd"
    refine ite2 (fun c => absurd c (by simp)) (fun _ => ?_)
    walk_at "rd"
    refine ⟨⟨_, SqL.of ha⟩, fun D nD => ?_⟩
    refine lc_it (walk_list (K := K) (a := a) (xs := ns.map V.int)) (Fx.Gro D H fun i => (List.replicate i true).map V.bl) (Fx.Gro.start nD rfl) (fun i H' _ p => SqL.of (p.2 _ _ ha)) ?_ ?_
    · rintro i x H1 _ hi ⟨hD, hs⟩ ⟨rfl, hx⟩
      obtain ⟨z, hz, rfl⟩ := ints_at hx
      refine ⟨rfl, ?_⟩
      walk_at "rd"
      refine Fx.Gro.put (out := fun i => (List.replicate i true).map V.bl) nD hD hs (small4 ?_) ?_
      · rw [List.length_map] at hi
        rw [List.length_map, List.length_replicate]
        omega
      · show (List.replicate (i + 1) true).map V.bl = (List.replicate i true).map V.bl ++ [V.bl true]
        rw [List.replicate_succ', List.map_append]
        rfl
    · rintro H1 ⟨hD, hs⟩
      refine ⟨D, _, rfl, SqL.of hD, ?_⟩
      walk_at "rd"
      refine ite2 (fun _ => ?_) (fun c => absurd (by simp) c)
      walk_at "rd"
      refine Fx.eq_ints (SqL.of (hs _ _ ha)) (SqL.of (hs _ _ hb)) ?_
      rw [decide_eq_true rfl]
      exact k _ hs
/-! ### _law_far_all -/
abbrev s__law_far_all : Stmt := top 14
theorem sc__law_far_all : FnScope ["_law_row", "_law_found", "_law_j", "_law_k"] ["_law_row"] (defScope s__law_far_all) := ⟨rfl, rfl, rfl, by decide +kernel, rfl, by decide +kernel, by decide +kernel⟩
theorem ok_far_all {f : Addr} {fd : FuncData} (F : Fun K "_law_far_all" "_law_far_all" s__law_far_all f fd) (T : Bs mg) : FnOk P w K mg base CX0 1 f fd ["_law_row"] (spFarL K) := by
  refine F.ok sc__law_far_all (fun vs H Q E h => ?_) (fun cdv A outer s H vs Q E hr h => ?_)
  · obtain ⟨a, A, rfl, _⟩ := h
    rfl
  · obtain ⟨a, A, rfl, ha, la, k⟩ := h
    refine ⟨_, (pss_cons (ps_set (i := 1) sc__law_far_all.nd rfl (by first | exact Or.inl rfl | exact Or.inr rfl) (pe_lst pa_nil))
      (pss_cons (ps_for PassesOwn.never rfl (pi_range1 (by rfl) T.b_range (pa_cons (pe_callB call_len (by rfl) T.b_len PySem.boot_len (pa_cons (pv 0) pa_nil)) pa_nil)) (pg_name (i := 2) sc__law_far_all.nd rfl (by first | exact Or.inl rfl | exact Or.inr rfl)) (pss_one (ps_for PassesOwn.never rfl (pi_range1 (by rfl) T.b_range (pa_cons (pv 2) pa_nil)) (pg_name (i := 3) sc__law_far_all.nd rfl (by first | exact Or.inl rfl | exact Or.inr rfl)) (pss_one (ps_expr (pe_bm PySem.F.plainAttrs_list PySem.F.slot_list_append PySem.F.type_list_append mt_append (pv 1) (pa_cons (pe_callB call_abs (by rfl) T.b_abs (by decide +kernel) (pa_cons (pe_op op_sub (pe_ix ix_list (pv 0) (pv 2) (fun _ _ => rfl)) (pe_ix ix_list (pv 0) (pv 3) (fun _ _ => rfl))) pa_nil)) pa_nil)))))))
      (pss_one (ps_ret (pe_callB cr_sortedI (by rfl) T.b_sorted (by decide +kernel) (pa_cons (pv 1) pa_nil)))))), ?_⟩
    refine ⟨by show 0 ≤ sizeLine; decide, fun D nD => ?_⟩
    have bnd : ∀ i, (Far.far (A.take i)).length ≤ 10000 := fun i => far_small (by rw [List.length_take]; omega)
    refine ⟨_, rfl, _, _, rfl, .inl ⟨_, (Same.new (Same.refl H) nD).seq ha, (List.length_map ..).symm⟩, ?_⟩
    refine ⟨_, rfl, by omega, by omega, ?_⟩
    refine for_range (n := A.length) (fun i σ H' => ∃ u v, σ = [some (.ref a), some (.ref D), u, v] ∧ Fx.Gro D H (fun i => (Far.far (A.take i)).map V.int) i H') ⟨none, none, rfl, Fx.Gro.start nD rfl⟩ ?_ ?_
    · rintro i σ H1 hi ⟨u, v, rfl, hD, hs⟩
      obtain ⟨z, hz⟩ : ∃ z, A[i]? = some z := ⟨_, List.getElem?_eq_getElem hi⟩
      have ez : atI (A.map V.int) ((0 : Int) + (i : Nat)) = some (V.int z) := at_of (j := i) (by omega) (by rw [List.getElem?_map, hz]; rfl)
      walk_at "rd"
      refine ⟨by omega, by omega, ?_⟩
      rw [show ((0 : Int) + (i : Nat)).toNat = i by omega]
      refine for_range (n := i) (fun j σ H' => ∃ v, σ = [some (.ref a), some (.ref D), some (.int ((0 : Int) + (i : Nat))), v] ∧ Fx.Gro D H (fun j => (Far.far (A.take i) ++ (A.take j).map (Far.ds z)).map V.int) j H') ⟨v, rfl, by simpa using hD, hs⟩ ?_ ?_
      · rintro j σ H2 hj ⟨v, rfl, hD2, hs2⟩
        obtain ⟨y, hy⟩ : ∃ y, A[j]? = some y := ⟨_, List.getElem?_eq_getElem (by omega)⟩
        have ey : atI (A.map V.int) ((0 : Int) + (j : Nat)) = some (V.int y) := at_of (j := j) (by omega) (by rw [List.getElem?_map, hy]; rfl)
        walk_at "rd"
        refine ⟨.inl ⟨rfl, _, SqL.of hD2⟩, ?_⟩
        walk_at "rd"
        refine ⟨_, _, _, _, rfl, rfl, hs2.seq ha, ez, ?_⟩
        walk_at "rd"
        refine ⟨_, _, _, _, rfl, rfl, hs2.seq ha, ey, ?_⟩
        walk_at "rd"
        refine ⟨D, _, _, rfl, rfl, hD2, small4 ?_, ?_⟩
        · rw [List.length_map, List.length_append, List.length_map, List.length_take]
          have := bnd i
          omega
        · have e : (Far.far (A.take i) ++ (A.take j).map (Far.ds z)).map V.int ++ [V.int (Far.ds z y)] = (Far.far (A.take i) ++ (A.take (j + 1)).map (Far.ds z)).map V.int := by
            rw [ints_take hy, map_snoc]
            simp
          exact ⟨_, rfl, upd_same.trans (congrArg (fun l : List V => some (HO.lst l)) e), Same.set hs2 nD⟩
      · rintro σ H2 ⟨v, rfl, hD2, hs2⟩
        refine ⟨_, _, rfl, hD2.trans (congrArg (fun l : List Int => some (HO.lst (l.map V.int))) ?_), hs2⟩
        rw [far_take hz]
    · rintro σ H1 ⟨u, v, rfl, hD, hs⟩
      simp only [List.take_length] at hD
      walk_at "rd"
      refine ⟨D, Far.far A, rfl, SqL.of hD, fun ns' p pm up np => ?_⟩
      rw [Far.srt_of pm up]
      exact k p _ (Same.new hs np) (hs.free np) upd_same
/-! ### _law_pitch -/
abbrev s__law_pitch : Stmt := top 12
theorem sc__law_pitch : FnScope ["_law_bag_here", "_law_way"] ["_law_bag_here"] (defScope s__law_pitch) := ⟨rfl, rfl, rfl, by decide +kernel, rfl, by decide +kernel, by decide +kernel⟩
def spPitch : Sp := fun vs H Q _ => ∃ b c : Addr, vs = [.ref b] ∧ Bag H b c ∧
  ∀ (n : Int) H', Bag H' b c → Keep H H' b → -(10 ^ 30) ≤ n → n ≤ 10 ^ 30 → Q (.int n) H'
theorem ok_pitch {f : Addr} {fd : FuncData} (F : Fun K "_law_pitch" "_law_pitch" s__law_pitch f fd) (c__law_take : C8.Cal P w K mg base 2 "_law_take" spTake []) : FnOk P w K mg base CX0 3 f fd ["_law_bag_here"] spPitch := by
  refine F.ok sc__law_pitch (fun vs H Q E h => ?_) (fun cdv A outer s H vs Q E hr h => ?_)
  · obtain ⟨b, c, rfl, _⟩ := h
    rfl
  · obtain ⟨b, c, rfl, hb, k⟩ := h
    refine ⟨_, (pss_cons (ps_set (i := 1) sc__law_pitch.nd rfl (by first | exact Or.inl rfl | exact Or.inr rfl) (C8.pe_c c__law_take hr (by decide) rfl (pa_cons (pv 0) (pa_cons pe_int pa_nil))))
      (pss_cons (ps_if (pt_cmpR op_eq (pv 1) pe_int (nomark _)) (pss_one (ps_ret (pe_op op_sub (C8.pe_c c__law_take hr (by decide) rfl (pa_cons (pv 0) (pa_cons (pe_op op_add (pe_op op_mul pe_int (pe_op op_pow pe_int pe_int)) pe_int) pa_nil))) (pe_op op_pow pe_int pe_int)))) pss_nil)
      (pss_cons (ps_if (pt_cmpR op_eq (pv 1) pe_int (nomark _)) (pss_one (ps_ret (pe_ix ix_list (pe_lst (pa_cons pe_int (pa_cons pe_int (pa_cons (pe_un un_neg pe_int) pa_nil)))) (C8.pe_c c__law_take hr (by decide) rfl (pa_cons (pv 0) (pa_cons pe_int pa_nil))) (fun _ _ => rfl)))) pss_nil)
      (pss_one (ps_ret (pe_op op_sub (C8.pe_c c__law_take hr (by decide) rfl (pa_cons (pv 0) (pa_cons pe_int pa_nil))) pe_int)))))), ?_⟩
    walk_at "rd"
    refine ⟨b, c, _, rfl, hb, by decide, fun r H1 hb1 hk1 h0 h1 => ?_⟩
    walk_at "rd"
    refine ite2 (fun q => ?_) (fun q => ?_)
    · walk_at "rd"
      refine ⟨b, c, _, rfl, hb1, by decide, fun r2 H2 hb2 hk2 g0 g1 => ?_⟩
      have g2 : r2 < 2 * 10 ^ 30 + 1 := by
        have e : max (1 : Int) (2 * 10 ^ Int.toNat 30 + 1) = 2 * 10 ^ 30 + 1 := by decide
        rw [e] at g1
        exact g1
      walk_at "rd"
      refine k _ _ hb2 (hk1.trans hk2) ?_ ?_
      · show -(10 ^ 30) ≤ r2 - 10 ^ 30
        omega
      · show r2 - 10 ^ 30 ≤ 10 ^ 30
        omega
    · walk_at "rd"
      refine ite2 (fun q => ?_) (fun q => ?_)
      · walk_at "rd"
        refine ⟨by show 3 ≤ sizeLine; decide, fun p np => ?_⟩
        walk_at "rd"
        have hpb : b ≠ p := (hb1.off np).1
        refine ⟨b, c, _, rfl, Bag.same hb1 (Same.new (Same.refl H1) np), by decide, fun r2 H2 hb2 hk2 g0 g1 => ?_⟩
        walk_at "rd"
        have hp2 : H2 p = some (.lst [.int 0, .int 1, .int (-1)]) := hk2 _ _ upd_same hpb.symm
        have : r2 = 0 ∨ r2 = 1 ∨ r2 = 2 := by
          have e : max (1 : Int) 3 = 3 := by decide
          rw [e] at g1
          omega
        rcases this with rfl | rfl | rfl
        · refine ⟨_, _, _, _, rfl, rfl, SqL.of hp2, rfl, ?_⟩
          exact k _ _ hb2 ((hk1.new np).trans hk2) (by decide) (by decide)
        · refine ⟨_, _, _, _, rfl, rfl, SqL.of hp2, rfl, ?_⟩
          exact k _ _ hb2 ((hk1.new np).trans hk2) (by decide) (by decide)
        · refine ⟨_, _, _, _, rfl, rfl, SqL.of hp2, rfl, ?_⟩
          exact k _ _ hb2 ((hk1.new np).trans hk2) (by decide) (by decide)
      · walk_at "rd"
        refine ⟨b, c, _, rfl, hb1, by decide, fun r2 H2 hb2 hk2 g0 g1 => ?_⟩
        have g2 : r2 < 41 := by
          have e : max (1 : Int) 41 = 41 := by decide
          rw [e] at g1
          exact g1
        walk_at "rd"
        exact k _ _ hb2 (hk1.trans hk2) (by omega) (by omega)
end
end Fk

namespace Fk
open PySem L2
local macro_rules | `(tactic| walk_at "rdc") => `(tactic| (first | exact Or.inl ⟨by decide, by decide⟩ | exact Or.inr ⟨by decide, by decide⟩ | exact ⟨by decide, by decide⟩ | exact Or.inl ⟨by omega, by omega⟩ | exact Or.inr ⟨by omega, by omega⟩ | ((show (0 : Int) < _); (first | decide | omega)) | exact ⟨by decide, by decide, by decide⟩ | exact ⟨by omega, by assumption⟩))
local macro_rules | `(tactic| walk_at "hp") => `(tactic| (first | exact upd_same | assumption | ((rw [upd_ne (by assumption)]); (first | exact upd_same | assumption | ((rw [upd_ne (by assumption)]); (first | exact upd_same | assumption | ((rw [upd_ne (by assumption)]); (first | exact upd_same | assumption))))))))
local macro_rules | `(tactic| walk_at "r1") => `(tactic| (first | refine ⟨_, rfl, ?_⟩ | refine ⟨_, _, rfl, rfl, ?_⟩ | refine ⟨_, _, rfl, ?_⟩ | refine Or.inl ⟨_, rfl, ?_⟩ | refine ⟨rfl, ?_⟩ | refine ⟨(by walk_at "rdc"), ?_⟩ | refine ⟨_, _, _, _, rfl, rfl, SqL.of (by walk_at "hp"), rfl, ?_⟩ | refine ⟨_, _, _, _, rfl, rfl, (by walk_at "hp"), rfl, ?_⟩ | refine ⟨_, _, _, _, rfl, rfl, SqL.of (by walk_at "hp"), by assumption, ?_⟩))
local macro_rules | `(tactic| walk_at "rd") => `(tactic| (repeat walk_at "r1"))
--#ty law _law_script=l _law_first=l _law_second=l _law_given=l _law_given[]=q _law_one=l _law_two=l _law_whole=l _law_less=l _law_pair=l _law_pair[]=q
--#ty _law_some _law_names=l _law_rest=l _law_found=l
--#ty _law_truth _law_thing=b _law_due=b
--#ret beats_of l
--#ret sums l
--#ret differences l
--#ret _law_far_all l
--#ret _law_some l
--#ret _law_is_int b
--#ret _law_ints b
--#ret _law_truth b
--#ret alike_in_beats b
--#cut law 1 2 3 4 5 6 7 8 9 10 11 12 13 14 15 16 17
section
variable {P : Program} {w : World} {K : PySem.W.Frag} {mg : Str → Option Value} {base : Heap}
structure Bt (mg : Str → Option Value) : Prop where
  b_min : mg "min" = none
  b_len : mg "len" = none
  b_list : mg "list" = none
  b_tuple : mg "tuple" = none
  b_range : mg "range" = none
  b_sorted : mg "sorted" = none
  b_isinstance : mg "isinstance" = none
  b_bool : mg "bool" = none
theorem Bag.ne_ints {H : Hp} {b c q : Addr} {ns : List Int} (h : Bag H b c) (hq : H q = some (.lst (ns.map V.int))) : q ≠ b := by
  obtain ⟨n, acc, pos, base, cells, h1, _⟩ := h
  rintro rfl
  rw [hq] at h1
  have e := HO.lst.inj (Option.some.inj h1)
  have e4 : (ns.map V.int)[4]? = some (V.ref c) := by rw [e]; rfl
  rw [List.getElem?_map] at e4
  cases h4 : ns[4]? with
  | none => rw [h4] at e4; cases e4
  | some x => rw [h4] at e4; cases e4
/-- the lists that stand -/
def Ls (H : Hp) (ls : List (Addr × List Int)) : Prop := ∀ p ∈ ls, H p.1 = some (.lst (p.2.map V.int))
theorem Ls.same {H H' : Hp} {ls : List (Addr × List Int)} (h : Ls H ls) (s : Same H H') : Ls H' ls := fun p hp => s _ _ (h p hp)
theorem Ls.keep {H H' : Hp} {b c : Addr} {ls : List (Addr × List Int)} (h : Ls H ls) (hb : Bag H b c) (s : Keep H H' b) : Ls H' ls := fun p hp => s _ _ (h p hp) (hb.ne_ints (h p hp))
theorem Ls.at0 {H : Hp} {p : Addr × List Int} {ls : List (Addr × List Int)} (h : Ls H (p :: ls)) : H p.1 = some (.lst (p.2.map V.int)) := h p List.mem_cons_self
theorem Ls.tail {H : Hp} {p : Addr × List Int} {ls : List (Addr × List Int)} (h : Ls H (p :: ls)) : Ls H ls := fun q hq => h q (List.mem_cons_of_mem _ hq)
theorem Ls.cons {H : Hp} {p : Addr × List Int} {ls : List (Addr × List Int)} (h0 : H p.1 = some (.lst (p.2.map V.int))) (h : Ls H ls) : Ls H (p :: ls) := fun q hq => by
  rcases List.mem_cons.mp hq with rfl | hq
  · exact h0
  · exact h q hq

theorem Bag.new {H : Hp} {b c p : Addr} {o : HO} (h : Bag H b c) (hp : H p = none) : Bag (upd H p o) b c := Bag.same h (Same.new (Same.refl H) hp)
theorem drop_ints : ∀ (ns : List Int) (k : Nat), (ns.map V.int).eraseIdx k = (ns.eraseIdx k).map V.int
  | [], k => by simp
  | n :: ns, 0 => rfl
  | n :: ns, k + 1 => by
    have ih := drop_ints ns k
    simp [ih]
abbrev s__law_truth : Stmt := top 13
theorem sc__law_truth : FnScope ["_law_thing", "_law_due"] ["_law_thing", "_law_due"] (defScope s__law_truth) := ⟨rfl, rfl, rfl, by decide +kernel, rfl, by decide +kernel, by decide +kernel⟩
def spTruth : Sp := fun vs H Q _ => ∃ b : Bool, vs = [.bl b, .bl b] ∧ Q (.bl true) H
theorem ok_truth {f : Addr} {fd : FuncData} (F : Fun K "_law_truth" "_law_truth" s__law_truth f fd) (T : Bt mg) : FnOk P w K mg base CX0 1 f fd ["_law_thing", "_law_due"] spTruth := by
  refine F.ok sc__law_truth (fun vs H Q E h => ?_) (fun cdv A outer s H vs Q E hr h => ?_)
  · obtain ⟨b, rfl, _⟩ := h
    rfl
  · obtain ⟨b, rfl, k⟩ := h
    refine ⟨_, (pss_one (ps_ret (pe_and (pe_callB call_isi (by rfl) T.b_isinstance (by decide +kernel) (pa_cons (pv 0) (pa_cons (pe_bltn (v := .ty "bool") (by rfl) T.b_bool (by decide +kernel) rfl) pa_nil))) (pe_one (pe_cmpR op_eq (pv 0) (pv 1) (nomark _)))))), ?_⟩
    walk_at "rd"
    refine ⟨_, _, _, _, true, rfl, .ty _, .base (.bl _), kit_ty (by decide +kernel), ?_⟩
    walk_at "rd"
    rw [decide_eq_true rfl]
    exact k
/-! ### _law_some -/
abbrev s__law_some : Stmt := top 11
theorem sc__law_some : FnScope ["_law_bag_here", "_law_names", "_law_many", "_law_rest", "_law_found", "_law_k"] ["_law_bag_here", "_law_names", "_law_many"] (defScope s__law_some) := ⟨rfl, rfl, rfl, by decide +kernel, rfl, by decide +kernel, by decide +kernel⟩
def spSome (K : PySem.W.Frag) : Sp := fun vs H Q _ => ∃ (b c a : Addr) (A : List Int), vs = [.ref b, .ref a, .int A.length] ∧ Bag H b c ∧ H a = some (.lst (A.map V.int)) ∧ A.length ≤ 100 ∧
  ∀ (p : Addr) (B : List Int) H', Bag H' b c → Keep H H' b → H p = none → H' p = some (.lst (B.map V.int)) → B.length = A.length → Q (.ref p) H'
theorem ok_some {f : Addr} {fd : FuncData} (F : Fun K "_law_some" "_law_some" s__law_some f fd) (T : Bt mg) (c__law_take : C8.Cal P w K mg base 2 "_law_take" spTake []) : FnOk P w K mg base CX0 3 f fd ["_law_bag_here", "_law_names", "_law_many"] (spSome K) := by
  refine F.ok sc__law_some (fun vs H Q E h => ?_) (fun cdv A outer s H vs Q E hr h => ?_)
  · obtain ⟨b, c, a, A, rfl, _⟩ := h
    rfl
  · obtain ⟨b, c, a, A, rfl, hb, ha, la, k⟩ := h
    refine ⟨_, (pss_cons (ps_set (i := 3) sc__law_some.nd rfl (by first | exact Or.inl rfl | exact Or.inr rfl) (pe_callTy call_list_of (by rfl) T.b_list (by decide +kernel) (pa_cons (pv 1) pa_nil)))
      (pss_cons (ps_set (i := 4) sc__law_some.nd rfl (by first | exact Or.inl rfl | exact Or.inr rfl) (pe_lst pa_nil))
      (pss_cons (ps_for PassesOwn.never rfl (pi_range1 (by rfl) T.b_range (pa_cons (pe_callB (call_min2 rfl) (by rfl) T.b_min (by decide +kernel) (pa_cons (pv 2) (pa_cons (pe_callB call_len (by rfl) T.b_len PySem.boot_len (pa_cons (pv 1) pa_nil)) pa_nil))) pa_nil)) (pg_name (i := 5) sc__law_some.nd rfl (by first | exact Or.inl rfl | exact Or.inr rfl)) (pss_one (ps_expr (pe_bm PySem.F.plainAttrs_list PySem.F.slot_list_append PySem.F.type_list_append mt_append (pv 4) (pa_cons (pe_bm PySem.F.plainAttrs_list PySem.F.slot_list_pop PySem.F.type_list_pop mt_popAt (pv 3) (pa_cons (C8.pe_c c__law_take hr (by decide) rfl (pa_cons (pv 0) (pa_cons (pe_callB call_len (by rfl) T.b_len PySem.boot_len (pa_cons (pv 3) pa_nil)) pa_nil))) pa_nil)) pa_nil)))))
      (pss_one (ps_ret (pv 4)))))), ?_⟩
    walk_at "rd"
    refine ⟨a, _, rfl, .inl (SqL.of ha), fun r nr => ?_⟩
    refine ⟨by show 0 ≤ sizeLine; decide, fun D nD => ?_⟩
    have rD : r ≠ D := ne_of_none upd_same nD
    have nD0 : H D = none := (Same.new (Same.refl H) nr).free nD
    have ra : a ≠ r := ne_of_none ha nr
    have aD : a ≠ D := ne_of_none ha nD0
    walk_at "rd"
    refine ⟨_, A.length, rfl, .inl ⟨_, SqL.of ((upd_ne aD).trans ((upd_ne ra).trans ha)), (List.length_map ..).symm⟩, ?_⟩
    walk_at "rd"
    rw [show (if (A.length : Int) < (A.length : Int) then (A.length : Int) else (A.length : Int)) = (A.length : Int) by simp]
    refine ⟨by omega, by omega, ?_⟩
    obtain ⟨br, cr⟩ := hb.off nr
    obtain ⟨bD, cD⟩ := hb.off nD0
    refine for_range (n := A.length) (fun i σ H' => ∃ v R B, σ = [some (.ref b), some (.ref a), some (.int A.length), some (.ref r), some (.ref D), v] ∧ H' r = some (.lst (R.map V.int)) ∧ H' D = some (.lst (B.map V.int)) ∧ R.length + i = A.length ∧ B.length = i ∧ Bag H' b c ∧ Keep H H' b)
      ⟨none, A, [], rfl, (upd_ne rD).trans upd_same, upd_same, by omega, rfl, Bag.set (Bag.set hb br cr) bD cD, ((Keep.refl H b).new nr).new nD⟩ ?_ ?_
    · rintro i σ H1 hi ⟨v, R, B, rfl, hr1, hD1, hR, hB, hb1, hk1⟩
      walk_at "rd"
      refine ⟨.inl ⟨rfl, _, SqL.of hD1⟩, ?_⟩
      walk_at "rd"
      refine ⟨.inl ⟨rfl, _, SqL.of hr1⟩, ?_⟩
      walk_at "rd"
      refine ⟨_, R.length, rfl, .inl ⟨_, SqL.of hr1, (List.length_map ..).symm⟩, ?_⟩
      refine ⟨b, c, _, rfl, hb1, by omega, fun x H2 hb2 hk2 x0 x1 => ?_⟩
      have xR : x < R.length := by
        have e : max (1 : Int) R.length = R.length := by omega
        rw [e] at x1
        exact x1
      have hr2 := hk2 _ _ hr1 br.symm
      have hD2 := hk2 _ _ hD1 bD.symm
      obtain ⟨z, hz⟩ : ∃ z, R[x.toNat]? = some z := ⟨_, List.getElem?_eq_getElem (by omega)⟩
      refine ⟨r, _, x, x.toNat, V.int z, rfl, rfl, hr2, by omega, by omega, ?_, by rw [List.getElem?_map, hz]; rfl, ?_⟩
      · have e : seqIndex? x R.length = some x.toNat := by
          unfold seqIndex?
          simp only []
          rw [if_neg (show ¬ x < 0 by omega), if_pos (by simp; omega)]
        rw [List.length_map]
        exact e
      rw [drop_ints]
      have hD3 : (upd H2 r (.lst ((R.eraseIdx x.toNat).map V.int))) D = some (.lst (B.map V.int)) := (upd_ne rD.symm).trans hD2
      walk_at "rd"
      refine ⟨D, _, _, rfl, rfl, hD3, small1000 (by rw [List.length_map]; omega), ?_⟩
      refine ⟨_, R.eraseIdx x.toNat, B ++ [z], rfl, (upd_ne rD).trans upd_same, by rw [upd_same, map_snoc], ?_, by rw [List.length_append, hB]; rfl, Bag.set (Bag.set hb2 br cr) bD cD, fun q o e ne => ?_⟩
      · rw [List.length_eraseIdx_of_lt (by omega)]
        omega
      · have q1 : q ≠ r := ne_of_none e nr
        have q2 : q ≠ D := ne_of_none e nD0
        exact (upd_ne q2).trans ((upd_ne q1).trans (hk2 _ _ (hk1 _ _ e ne) ne))
    · rintro σ H1 ⟨v, R, B, rfl, hr1, hD1, hR, hB, hb1, hk1⟩
      walk_at "rd"
      exact k D B H1 hb1 hk1 nD0 hD1 hB
end
end Fk

namespace Fk
open PySem L2
local macro_rules | `(tactic| walk_at "rdc") => `(tactic| (first | exact Or.inl ⟨by decide, by decide⟩ | exact Or.inr ⟨by decide, by decide⟩ | exact ⟨by decide, by decide⟩ | exact Or.inl ⟨by omega, by omega⟩ | exact Or.inr ⟨by omega, by omega⟩ | ((show (0 : Int) < _); (first | decide | omega)) | exact ⟨by decide, by decide, by decide⟩ | exact ⟨by omega, by assumption⟩))
local macro_rules | `(tactic| walk_at "hp") => `(tactic| (first | exact upd_same | assumption | ((rw [upd_ne (by assumption)]); (first | exact upd_same | assumption | ((rw [upd_ne (by assumption)]); (first | exact upd_same | assumption | ((rw [upd_ne (by assumption)]); (first | exact upd_same | assumption))))))))
local macro_rules | `(tactic| walk_at "r1") => `(tactic| (first | refine ⟨_, rfl, ?_⟩ | refine ⟨_, _, rfl, rfl, ?_⟩ | refine ⟨_, _, rfl, ?_⟩ | refine Or.inl ⟨_, rfl, ?_⟩ | refine ⟨rfl, ?_⟩ | refine ⟨(by walk_at "rdc"), ?_⟩ | refine ⟨_, _, _, _, rfl, rfl, SqL.of (by walk_at "hp"), rfl, ?_⟩ | refine ⟨_, _, _, _, rfl, rfl, (by walk_at "hp"), rfl, ?_⟩ | refine ⟨_, _, _, _, rfl, rfl, SqL.of (by walk_at "hp"), by assumption, ?_⟩))
local macro_rules | `(tactic| walk_at "rd") => `(tactic| (repeat walk_at "r1"))
--#ty law _law_script=l _law_first=l _law_second=l _law_given=l _law_given[]=q _law_one=l _law_two=l _law_whole=l _law_less=l _law_pair=l _law_pair[]=q
--#ret beats_of l
--#ret sums l
--#ret differences l
--#ret _law_far_all l
--#ret _law_some l
--#ret _law_is_int b
--#ret _law_ints b
--#ret _law_truth b
--#ret alike_in_beats b
--#cut law 1 2 3 4 5 6 7 8 9 10 11 12 13 14 15 16 17
section
variable {P : Program} {w : World} {K : PySem.W.Frag} {mg : Str → Option Value} {base : Heap}
/-- a list or a tuple of the ints, tracked -/
def SqH (H : Hp) (a : Addr) (A : List Int) : Prop := H a = some (.lst (A.map V.int)) ∨ H a = some (.tup (A.map V.int))
theorem SqH.sq {K : PySem.W.Frag} {H : Hp} {a : Addr} {A : List Int} (h : SqH H a A) : Fx.SqA K H a (A.map V.int) := by
  rcases h with h | h
  · exact .inl (SqL.of h)
  · exact .inr (SqT.of h)
theorem SqH.same {H H' : Hp} {a : Addr} {A : List Int} (h : SqH H a A) (s : Same H H') : SqH H' a A := by
  rcases h with h | h
  · exact .inl (s _ _ h)
  · exact .inr (s _ _ h)
theorem Bag.ne_tup {H : Hp} {b c q : Addr} {xs : List V} (h : Bag H b c) (hq : H q = some (.tup xs)) : q ≠ b := by
  obtain ⟨n, acc, pos, base, cells, h1, _⟩ := h
  rintro rfl
  rw [hq] at h1
  cases h1
theorem Bag.ne_refs {H : Hp} {b c q x y : Addr} (h : Bag H b c) (hq : H q = some (.lst [.ref x, .ref y])) : q ≠ b := by
  obtain ⟨n, acc, pos, base, cells, h1, _⟩ := h
  rintro rfl
  rw [hq] at h1
  have e := HO.lst.inj (Option.some.inj h1)
  cases (List.cons.inj e).1
def spLaw (K : PySem.W.Frag) : Sp := fun vs H Q _ => ∃ (a : Addr) (ns : List Int), vs = [.ref a] ∧ SqL K H a (ns.map V.int) ∧ ns.length ≤ 63 ∧ ∀ H', Q (.bl true) H'
abbrev s_law : Stmt := top 15
theorem sc_law : FnScope ["_law_script", "_law_bag_here", "_law_first", "_law_step", "_law_sign", "_law_second", "_law_way", "_law_given", "_law_one", "_law_two", "_law_whole", "_law_less", "_law_x", "_law_y", "_law_pair", "_law_k", "_law_pitch_here"] ["_law_script"] (defScope s_law) := ⟨rfl, rfl, rfl, by decide +kernel, rfl, by decide +kernel, by decide +kernel⟩
theorem ok_law {f : Addr} {fd : FuncData} (F : Fun K "law" "law" s_law f fd) (T : Bt mg) (c__law_bag : C8.Cal P w K mg base 1 "_law_bag" (spBag K) []) (c__law_take : C8.Cal P w K mg base 2 "_law_take" spTake []) (c__law_pitch : C8.Cal P w K mg base 3 "_law_pitch" spPitch [])
    (c_sums : C8.Cal P w K mg base 1 "sums" (spTwo K Far.sumsL) []) (c_differences : C8.Cal P w K mg base 1 "differences" (spTwo K Far.diffL) []) (c_beats_of : C8.Cal P w K mg base 1 "beats_of" (spFar K) []) (c_alike_in_beats : C8.Cal P w K mg base 2 "alike_in_beats" (spAlike K) []) (c__law_far_all : C8.Cal P w K mg base 1 "_law_far_all" (spFarL K) []) (c__law_ints : C8.Cal P w K mg base 2 "_law_ints" spInts [])
    (c__law_some : C8.Cal P w K mg base 3 "_law_some" (spSome K) []) (c__law_truth : C8.Cal P w K mg base 1 "_law_truth" spTruth []) : FnOk P w K mg base CX0 4 f fd ["_law_script"] (spLaw K) := by
  refine F.ok sc_law (fun vs H Q E h => ?_) (fun cdv Ar outer s H vs Q E hr h => ?_)
  · obtain ⟨a, ns, rfl, _⟩ := h
    rfl
  · obtain ⟨a, ns, rfl, hS, hl, k⟩ := h
    refine ⟨_, (pss_cons (ps_set (i := 1) sc_law.nd rfl (by first | exact Or.inl rfl | exact Or.inr rfl) (C8.pe_c c__law_bag hr (by decide) rfl (pa_cons (pv 0) pa_nil)))
      (C8.pss_cut (ps_setLc (i := 2) (own := [("_law_k", 15)]) (g := gName 15) (tt := tYes) rfl sc_law.nd rfl rfl (sw_true rfl rfl rfl (by decide +kernel)) (pi_range1 (by rfl) T.b_range (pa_cons (C8.pe_c c__law_take hr (by decide) rfl (pa_cons (pv 1) (pa_cons pe_int pa_nil))) pa_nil)) (blkOk_by (own := [("_law_k", 15)]) (N := ["_law_script", "_law_bag_here", "_law_first", "_law_step", "_law_sign", "_law_second", "_law_way", "_law_given", "_law_one", "_law_two", "_law_whole", "_law_less", "_law_x", "_law_y", "_law_pair", "_law_k", "_law_pitch_here"]) (sc := defScope s_law) (by decide +kernel)) (fun _ _ _ _ _ => pg_name (i := 15) sc_law.nd rfl (by first | exact Or.inl rfl | exact Or.inr rfl)) (fun _ _ _ _ _ => pts_nil) (fun _ _ _ _ _ => (C8.pe_c c__law_pitch hr (by decide) rfl (pa_cons (pv 1) pa_nil))))
      (C8.pss_cut (ps_set (i := 3) sc_law.nd rfl (by first | exact Or.inl rfl | exact Or.inr rfl) (C8.pe_c c__law_pitch hr (by decide) rfl (pa_cons (pv 1) pa_nil)))
      (C8.pss_cut (ps_set (i := 4) sc_law.nd rfl (by first | exact Or.inl rfl | exact Or.inr rfl) (pe_op op_sub pe_int (pe_op op_mul pe_int (C8.pe_c c__law_take hr (by decide) rfl (pa_cons (pv 1) (pa_cons pe_int pa_nil))))))
      (C8.pss_cut (ps_set (i := 5) sc_law.nd rfl (by first | exact Or.inl rfl | exact Or.inr rfl) (C8.pe_c c__law_some hr (by decide) rfl (pa_cons (pv 1) (pa_cons (pe_lc (own := [("_law_pitch_here", 16)]) (g := gName 16) (tt := tYes) rfl sc_law.nd (pi_list (pv 2)) (blkOk_by (own := [("_law_pitch_here", 16)]) (N := ["_law_script", "_law_bag_here", "_law_first", "_law_step", "_law_sign", "_law_second", "_law_way", "_law_given", "_law_one", "_law_two", "_law_whole", "_law_less", "_law_x", "_law_y", "_law_pair", "_law_k", "_law_pitch_here"]) (sc := defScope s_law) (by decide +kernel)) (fun _ _ _ _ _ => pg_name (i := 16) sc_law.nd rfl (by first | exact Or.inl rfl | exact Or.inr rfl)) (fun _ _ _ _ _ => pts_nil) (fun _ _ _ _ _ => (pe_op op_add (pe_op op_mul (pv 4) (pv 16)) (pv 3)))) (pa_cons (pe_callB call_len (by rfl) T.b_len PySem.boot_len (pa_cons (pv 2) pa_nil)) pa_nil)))))
      (C8.pss_cut (ps_set (i := 6) sc_law.nd rfl (by first | exact Or.inl rfl | exact Or.inr rfl) (C8.pe_c c__law_take hr (by decide) rfl (pa_cons (pv 1) (pa_cons pe_int pa_nil))))
      (C8.pss_cut (ps_if (PW.pt (pw_and (pt_cmpR op_eq (pv 6) pe_int (nomark _)) (pw_and1 (pt_cmpR (op_neD hr.units) (pv 5) (pe_lst pa_nil) (nomark _))))) (pss_one (ps_asg (C8.pe_c c__law_pitch hr (by decide) rfl (pa_cons (pv 1) pa_nil)) (pg_sub (pv 5) (C8.pe_c c__law_take hr (by decide) rfl (pa_cons (pv 1) (pa_cons (pe_callB call_len (by rfl) T.b_len PySem.boot_len (pa_cons (pv 5) pa_nil)) pa_nil))) set_list))) pss_nil)
      (C8.pss_cut (ps_if (pt_cmpR op_eq (pv 6) pe_int (nomark _)) (pss_one (ps_setLc (i := 5) (own := [("_law_k", 15)]) (g := gName 15) (tt := tYes) rfl sc_law.nd rfl rfl (sw_true rfl rfl rfl (by decide +kernel)) (pi_range1 (by rfl) T.b_range (pa_cons (C8.pe_c c__law_take hr (by decide) rfl (pa_cons (pv 1) (pa_cons pe_int pa_nil))) pa_nil)) (blkOk_by (own := [("_law_k", 15)]) (N := ["_law_script", "_law_bag_here", "_law_first", "_law_step", "_law_sign", "_law_second", "_law_way", "_law_given", "_law_one", "_law_two", "_law_whole", "_law_less", "_law_x", "_law_y", "_law_pair", "_law_k", "_law_pitch_here"]) (sc := defScope s_law) (by decide +kernel)) (fun _ _ _ _ _ => pg_name (i := 15) sc_law.nd rfl (by first | exact Or.inl rfl | exact Or.inr rfl)) (fun _ _ _ _ _ => pts_nil) (fun _ _ _ _ _ => (C8.pe_c c__law_pitch hr (by decide) rfl (pa_cons (pv 1) pa_nil))))) pss_nil)
      (C8.pss_cut (ps_set (i := 7) sc_law.nd rfl (by first | exact Or.inl rfl | exact Or.inr rfl) (pe_lst (pa_cons (pe_callTy call_list_of (by rfl) T.b_list (by decide +kernel) (pa_cons (pv 2) pa_nil)) (pa_cons (pe_callTy call_list_of (by rfl) T.b_list (by decide +kernel) (pa_cons (pv 5) pa_nil)) pa_nil))))
      (C8.pss_cut (ps_if (pt_cmpR op_eq (C8.pe_c c__law_take hr (by decide) rfl (pa_cons (pv 1) (pa_cons pe_int pa_nil))) pe_int (nomark _)) (pss_one (ps_set (i := 7) sc_law.nd rfl (by first | exact Or.inl rfl | exact Or.inr rfl) (pe_lst (pa_cons (pe_callTy call_tuple_of (by rfl) T.b_tuple (by decide +kernel) (pa_cons (pv 2) pa_nil)) (pa_cons (pe_callTy call_tuple_of (by rfl) T.b_tuple (by decide +kernel) (pa_cons (pv 5) pa_nil)) pa_nil))))) pss_nil)
      (C8.pss_cut (ps_set (i := 8) sc_law.nd rfl (by first | exact Or.inl rfl | exact Or.inr rfl) (C8.pe_c c__law_far_all hr (by decide) rfl (pa_cons (pv 2) pa_nil)))
      (C8.pss_cut (ps_set (i := 9) sc_law.nd rfl (by first | exact Or.inl rfl | exact Or.inr rfl) (C8.pe_c c__law_far_all hr (by decide) rfl (pa_cons (pv 5) pa_nil)))
      (C8.pss_cut (ps_if (PW.pt (pw_or (pt_not (pt_val (C8.pe_c c__law_ints hr (by decide) rfl (pa_cons (C8.pe_c c_beats_of hr (by decide) rfl (pa_cons (pe_ix ix_list (pv 7) pe_int (fun _ _ => rfl)) pa_nil)) (pa_cons (pv 8) pa_nil))))) (pw_or1 (pt_not (pt_val (C8.pe_c c__law_ints hr (by decide) rfl (pa_cons (C8.pe_c c_beats_of hr (by decide) rfl (pa_cons (pe_ix ix_list (pv 7) pe_int (fun _ _ => rfl)) pa_nil)) (pa_cons (pv 9) pa_nil)))))))) (pss_one (ps_ret pe_bl)) pss_nil)
      (C8.pss_cut (ps_if (pt_not (pt_val (C8.pe_c c__law_truth hr (by decide) rfl (pa_cons (C8.pe_c c_alike_in_beats hr (by decide) rfl (pa_cons (pe_ix ix_list (pv 7) pe_int (fun _ _ => rfl)) (pa_cons (pe_ix ix_list (pv 7) pe_int (fun _ _ => rfl)) pa_nil))) (pa_cons (pe_cmpR (op_eqD hr.units) (pv 8) (pv 9) (nomark _)) pa_nil))))) (pss_one (ps_ret pe_bl)) pss_nil)
      (C8.pss_cut (ps_set (i := 10) sc_law.nd rfl (by first | exact Or.inl rfl | exact Or.inr rfl) (pe_lst pa_nil))
      (C8.pss_cut (ps_set (i := 11) sc_law.nd rfl (by first | exact Or.inl rfl | exact Or.inr rfl) (pe_lst pa_nil))
      (C8.pss_cut (ps_for PassesOwn.never rfl (pi_list (pv 2)) (pg_name (i := 12) sc_law.nd rfl (by first | exact Or.inl rfl | exact Or.inr rfl)) (pss_one (ps_for PassesOwn.never rfl (pi_list (pv 5)) (pg_name (i := 13) sc_law.nd rfl (by first | exact Or.inl rfl | exact Or.inr rfl)) (pss_cons (ps_expr (pe_bm PySem.F.plainAttrs_list PySem.F.slot_list_append PySem.F.type_list_append mt_append (pv 10) (pa_cons (pe_op op_add (pv 12) (pv 13)) pa_nil)))
      (pss_one (ps_expr (pe_bm PySem.F.plainAttrs_list PySem.F.slot_list_append PySem.F.type_list_append mt_append (pv 11) (pa_cons (pe_op op_sub (pv 12) (pv 13)) pa_nil))))))))
      (C8.pss_cut (ps_for PassesOwn.never rfl (pi_list (pe_lst (pa_cons (pe_lst (pa_cons (pv 2) (pa_cons (pv 5) pa_nil))) (pa_cons (pv 7) (pa_cons (pe_lst (pa_cons (pe_callTy call_list_of (by rfl) T.b_list (by decide +kernel) (pa_cons (pv 2) pa_nil)) (pa_cons (pe_callTy call_tuple_of (by rfl) T.b_tuple (by decide +kernel) (pa_cons (pv 5) pa_nil)) pa_nil))) pa_nil))))) (pg_name (i := 14) sc_law.nd rfl (by first | exact Or.inl rfl | exact Or.inr rfl)) (pss_cons (ps_if (pt_not (pt_val (C8.pe_c c__law_ints hr (by decide) rfl (pa_cons (C8.pe_c c_sums hr (by decide) rfl (pa_cons (pe_ix ix_list (pv 14) pe_int (fun _ _ => rfl)) (pa_cons (pe_ix ix_list (pv 14) pe_int (fun _ _ => rfl)) pa_nil))) (pa_cons (pe_callB cr_sortedI (by rfl) T.b_sorted (by decide +kernel) (pa_cons (pv 10) pa_nil)) pa_nil))))) (pss_one (ps_ret pe_bl)) pss_nil)
      (pss_cons (ps_if (pt_not (pt_val (C8.pe_c c__law_ints hr (by decide) rfl (pa_cons (C8.pe_c c_differences hr (by decide) rfl (pa_cons (pe_ix ix_list (pv 14) pe_int (fun _ _ => rfl)) (pa_cons (pe_ix ix_list (pv 14) pe_int (fun _ _ => rfl)) pa_nil))) (pa_cons (pe_callB cr_sortedI (by rfl) T.b_sorted (by decide +kernel) (pa_cons (pv 11) pa_nil)) pa_nil))))) (pss_one (ps_ret pe_bl)) pss_nil)
      (pss_one (ps_if (pt_not (pt_val (C8.pe_c c__law_truth hr (by decide) rfl (pa_cons (C8.pe_c c_alike_in_beats hr (by decide) rfl (pa_cons (pe_ix ix_list (pv 14) pe_int (fun _ _ => rfl)) (pa_cons (pe_ix ix_list (pv 14) pe_int (fun _ _ => rfl)) pa_nil))) (pa_cons (pe_cmpR (op_eqD hr.units) (pv 8) (pv 9) (nomark _)) pa_nil))))) (pss_one (ps_ret pe_bl)) pss_nil)))))
      (pss_one (ps_ret (pe_and (pe_cmpR (op_eqD hr.units) (pe_callTy call_list_of (by rfl) T.b_list (by decide +kernel) (pa_cons (pe_ix ix_list (pv 7) pe_int (fun _ _ => rfl)) pa_nil)) (pv 2) (nomark _)) (pe_one (pe_cmpR (op_eqD hr.units) (pe_callTy call_list_of (by rfl) T.b_list (by decide +kernel) (pa_cons (pe_ix ix_list (pv 7) pe_int (fun _ _ => rfl)) pa_nil)) (pv 5) (nomark _)))))))))))))))))))))))), ?_⟩
    walk_at "rd"
    refine ⟨a, ns, rfl, hS, hl, fun H1 b c hs1 hb1 => ?_⟩
    have ls0 : Ls H1 [] := fun _ h => nomatch h
    refine ⟨fun σ' H' => ∃ (p1 : Addr) (A : List Int), σ' = [some (.ref a), some (.ref b), some (.ref p1), none, none, none, none, none, none, none, none, none, none, none, none, none, none] ∧ A.length ≤ 8 ∧ Ls H' ((p1, A) :: []) ∧ Bag H' b c, ?_, ?_⟩
    · walk_at "rd"
      refine ⟨b, c, _, rfl, hb1, by decide, fun r H2 hb2 hk2 r0 r1 => ?_⟩
      have ls2 := Ls.keep ls0 hb1 hk2
      have r6 : r < 9 := by
        have e : max (1 : Int) 9 = 9 := by decide
        rw [e] at r1
        exact r1
      walk_at "rd"
      refine ⟨by omega, by omega, fun D nD => ?_⟩
      obtain ⟨bD, cD⟩ := hb2.off nD
      refine lc_it (walk_range (lo := 0) (n := r.toNat)) (fun i H' => ∃ acc : List Int, H' D = some (.lst (acc.map V.int)) ∧ acc.length = i ∧ Bag H' b c ∧ Ls H' ([])) ⟨[], upd_same, rfl, Bag.set hb2 bD cD, ls2.same (Same.new (Same.refl H2) nD)⟩ (fun _ _ _ _ => trivial) ?_ ?_
      · rintro i x H3 _ hi ⟨acc, hD, hacc, hb3, ls3⟩ ⟨rfl, rfl⟩
        refine ⟨rfl, ?_⟩
        walk_at "rd"
        refine ⟨b, c, rfl, hb3, fun n H4 hb4 hk4 n0 n1 => ?_⟩
        have hD4 := hk4 _ _ hD bD.symm
        have ls4 := ls3.keep hb3 hk4
        refine ⟨_, hD4, small1000 (by rw [List.length_map]; omega), acc ++ [n], by rw [upd_same, map_snoc], by rw [List.length_append, hacc]; rfl, Bag.set hb4 bD cD, fun p hp => ?_⟩
        have := ls2 p hp
        exact (upd_ne (ne_of_none this nD)).trans (ls4 p hp)
      · rintro H3 ⟨acc, hD, hacc, hb3, ls3⟩
        exact ⟨D, acc, rfl, by omega, ls3.cons hD, hb3⟩
    rintro σ' H5 ⟨p1, A, rfl, lenA, ls5, hb5⟩
    -- the step and the sign
    refine ⟨fun σ' H' => ∃ z : Int, σ' = [some (.ref a), some (.ref b), some (.ref p1), some (.int z), none, none, none, none, none, none, none, none, none, none, none, none, none] ∧ Ls H' [(p1, A)] ∧ Bag H' b c, ?_, ?_⟩
    · walk_at "rd"
      refine ⟨b, c, rfl, hb5, fun n H2 hb2 hk2 n0 n1 => ?_⟩
      exact ⟨n, rfl, ls5.keep hb5 hk2, hb2⟩
    rintro σ' H6 ⟨z, rfl, ls6, hb6⟩
    refine ⟨fun σ' H' => ∃ g : Int, σ' = [some (.ref a), some (.ref b), some (.ref p1), some (.int z), some (.int g), none, none, none, none, none, none, none, none, none, none, none, none] ∧ (g = 1 ∨ g = -1) ∧ Ls H' [(p1, A)] ∧ Bag H' b c, ?_, ?_⟩
    · walk_at "rd"
      refine ⟨b, c, _, rfl, hb6, by decide, fun n H2 hb2 hk2 n0 n1 => ?_⟩
      have n2 : n < 2 := by
        have e : max (1 : Int) 2 = 2 := by decide
        rw [e] at n1
        exact n1
      walk_at "rd"
      exact ⟨by omega, ls6.keep hb6 hk2, hb2⟩
    rintro σ' H7 ⟨g, rfl, hg, ls7, hb7⟩
    -- the second row
    refine ⟨fun σ' H' => ∃ (p2 : Addr) (B : List Int), σ' = [some (.ref a), some (.ref b), some (.ref p1), some (.int z), some (.int g), some (.ref p2), none, none, none, none, none, none, none, none, none, none, none] ∧ B.length ≤ 8 ∧ Ls H' [(p2, B), (p1, A)] ∧ Bag H' b c ∧ p1 ≠ p2 ∧ c ≠ p2, ?_, ?_⟩
    · walk_at "rd"
      refine ⟨⟨_, SqL.of (ls7 (p1, A) List.mem_cons_self)⟩, fun D nD => ?_⟩
      refine lc_it (walk_list (K := K) (a := p1) (xs := A.map V.int)) (Fx.Gro D H7 fun i => ((A.take i).map fun x => g * x + z).map V.int) (Fx.Gro.start nD rfl) (fun i H' _ p => SqL.of (p.2 _ _ (ls7 (p1, A) List.mem_cons_self))) ?_ ?_
      · rintro i x H2 _ hi ⟨hD, hs⟩ ⟨rfl, hx⟩
        obtain ⟨y, hy, rfl⟩ := ints_at hx
        refine ⟨rfl, ?_⟩
        have hgb : -(2 ^ 64) < g ∧ g < 2 ^ 64 := by omega
        walk_at "rd"
        refine Fx.Gro.put (out := fun i => ((A.take i).map fun x => g * x + z).map V.int) nD hD hs (small1000 ?_) ?_
        · rw [List.length_map, List.length_map, List.length_take]
          omega
        · show ((A.take (i + 1)).map fun x => g * x + z).map V.int = ((A.take i).map fun x => g * x + z).map V.int ++ [V.int (g * y + z)]
          rw [ints_take hy, map_snoc]
          simp
      · rintro H2 ⟨hD, hs⟩
        rw [List.length_map] at hD
        simp only [List.take_length] at hD
        have ls2 := ls7.same hs
        have hb2 := Bag.same hb7 hs
        walk_at "rd"
        refine ⟨_, A.length, rfl, .inl ⟨_, SqL.of (ls2 (p1, A) List.mem_cons_self), (List.length_map ..).symm⟩, ?_⟩
        refine ⟨b, c, D, A.map fun x => g * x + z, by simp, hb2, hD, by simp; omega, fun p B H3 hb3 hk3 np hp hB => ?_⟩
        exact ⟨p, B, rfl, by simp at hB; omega, (ls2.keep hb2 hk3).cons hp, hb3, ne_of_none (ls2 (p1, A) List.mem_cons_self) np, (hb2.off np).2⟩
    rintro σ' H8 ⟨p2, B, rfl, lenB, ls8, hb8, n12, nc2⟩
    refine ⟨fun σ' H' => ∃ y : Int, σ' = [some (.ref a), some (.ref b), some (.ref p1), some (.int z), some (.int g), some (.ref p2), some (.int y), none, none, none, none, none, none, none, none, none, none] ∧ Ls H' [(p2, B), (p1, A)] ∧ Bag H' b c, ?_, ?_⟩
    · walk_at "rd"
      refine ⟨b, c, _, rfl, hb8, by decide, fun n H2 hb2 hk2 n0 n1 => ?_⟩
      exact ⟨n, rfl, ls8.keep hb8 hk2, hb2⟩
    rintro σ' H9 ⟨y, rfl, ls9, hb9⟩
    clear ls8 hb8
    refine ⟨fun σ' H' => ∃ B : List Int, σ' = [some (.ref a), some (.ref b), some (.ref p1), some (.int z), some (.int g), some (.ref p2), some (.int y), none, none, none, none, none, none, none, none, none, none] ∧ B.length ≤ 8 ∧ Ls H' [(p2, B), (p1, A)] ∧ Bag H' b c, ?_, ?_⟩
    · walk_at "rd"
      refine ite2 (fun c1 => ?_) (fun c1 => ?_)
      · walk_at "rd"
        refine ⟨by show 0 ≤ sizeLine; decide, fun e ne => ?_⟩
        have ls10 := ls9.same (Same.new (Same.refl H9) ne (o := .lst []))
        have hb10 := Bag.new hb9 ne (o := .lst [])
        refine Fx.ne_ints (ns := B) (ms := []) (SqL.of (ls10 (p2, B) List.mem_cons_self)) (SqL.of upd_same) ?_
        walk_at "rd"
        refine ite2 (fun c2 => ?_) (fun c2 => ?_)
        · have hB : B ≠ [] := of_decide_eq_true c2
          have hB1 : 1 ≤ B.length := by
            cases B with
            | nil => exact absurd rfl hB
            | cons _ _ => simp
          walk_at "rd"
          refine ⟨b, c, rfl, hb10, fun n H2 hb2 hk2 n0 n1 => ?_⟩
          have ls2 := ls10.keep hb10 hk2
          walk_at "rd"
          refine ⟨_, B.length, rfl, .inl ⟨_, SqL.of (ls2 (p2, B) List.mem_cons_self), (List.length_map ..).symm⟩, ?_⟩
          refine ⟨b, c, _, rfl, hb2, by omega, fun x H3 hb3 hk3 x0 x1 => ?_⟩
          have ls3 := ls2.keep hb2 hk3
          have xB : x < B.length := by
            have e : max (1 : Int) B.length = B.length := by omega
            rw [e] at x1
            exact x1
          have hp3 := ls3 (p2, B) List.mem_cons_self
          refine ⟨p2, _, _, x.toNat, rfl, rfl, hp3, ?_, ?_⟩
          · unfold ixN
            rw [List.length_map, if_pos x0, if_pos xB]
          rw [← List.map_set]
          have hp1 := ls3 (p1, A) (List.mem_cons_of_mem _ List.mem_cons_self)
          have q2 := hb3.ne_ints hp3
          refine ⟨B.set x.toNat n, rfl, by rw [List.length_set]; exact lenB, Ls.cons upd_same (Ls.cons ((upd_ne n12).trans hp1) fun _ h => nomatch h), Bag.set hb3 q2.symm nc2⟩
        · exact ⟨B, rfl, lenB, ls10, hb10⟩
      · exact ⟨B, rfl, lenB, ls9, hb9⟩
    rintro σ' H10 ⟨B2, rfl, lenB2, ls10, hb10⟩
    clear ls9 hb9 ls7 hb7 ls6 hb6 ls5 hb5 lenB n12 nc2
    -- another row
    refine ⟨fun σ' H' => ∃ (p2 : Addr) (B : List Int), σ' = [some (.ref a), some (.ref b), some (.ref p1), some (.int z), some (.int g), some (.ref p2), some (.int y), none, none, none, none, none, none, none, none, none, none] ∧ B.length ≤ 8 ∧ Ls H' [(p2, B), (p1, A)] ∧ Bag H' b c, ?_, ?_⟩
    · walk_at "rd"
      refine ite2 (fun c1 => ?_) (fun c1 => ?_)
      · walk_at "rd"
        refine ⟨b, c, _, rfl, hb10, by decide, fun r H2 hb2 hk2 r0 r1 => ?_⟩
        have ls2 := Ls.keep ls10 hb10 hk2
        have r6 : r < 6 := by
          have e : max (1 : Int) 6 = 6 := by decide
          rw [e] at r1
          exact r1
        walk_at "rd"
        refine ⟨by omega, by omega, fun D nD => ?_⟩
        obtain ⟨bD, cD⟩ := hb2.off nD
        refine lc_it (walk_range (lo := 0) (n := r.toNat)) (fun i H' => ∃ acc : List Int, H' D = some (.lst (acc.map V.int)) ∧ acc.length = i ∧ Bag H' b c ∧ Ls H' [(p2, B2), (p1, A)]) ⟨[], upd_same, rfl, Bag.set hb2 bD cD, ls2.same (Same.new (Same.refl H2) nD)⟩ (fun _ _ _ _ => trivial) ?_ ?_
        · rintro i x H3 _ hi ⟨acc, hD, hacc, hb3, ls3⟩ ⟨rfl, rfl⟩
          refine ⟨rfl, ?_⟩
          walk_at "rd"
          refine ⟨b, c, rfl, hb3, fun n H4 hb4 hk4 n0 n1 => ?_⟩
          have hD4 := hk4 _ _ hD bD.symm
          have ls4 := ls3.keep hb3 hk4
          refine ⟨_, hD4, small1000 (by rw [List.length_map]; omega), acc ++ [n], by rw [upd_same, map_snoc], by rw [List.length_append, hacc]; rfl, Bag.set hb4 bD cD, fun p hp => ?_⟩
          have := ls2 p hp
          exact (upd_ne (ne_of_none this nD)).trans (ls4 p hp)
        · rintro H3 ⟨acc, hD, hacc, hb3, ls3⟩
          exact ⟨D, acc, rfl, by omega, Ls.cons hD (Ls.tail ls3), hb3⟩
      · exact ⟨p2, B2, rfl, lenB2, ls10, hb10⟩
    rintro σ' H11 ⟨p3, B, rfl, lenB, ls11, hb11⟩
    clear ls10 hb10
    -- what is given
    refine ⟨fun σ' H' => ∃ G u v : Addr, σ' = [some (.ref a), some (.ref b), some (.ref p1), some (.int z), some (.int g), some (.ref p3), some (.int y), some (.ref G), none, none, none, none, none, none, none, none, none] ∧ H' G = some (.lst [.ref u, .ref v]) ∧ SqH H' u A ∧ SqH H' v B ∧ Ls H' [(p3, B), (p1, A)] ∧ Bag H' b c, ?_, ?_⟩
    · walk_at "rd"
      refine ⟨p1, _, rfl, .inl (SqL.of (ls11 (p1, A) (List.mem_cons_of_mem _ List.mem_cons_self))), fun u nu => ?_⟩
      walk_at "rd"
      have s1 := Same.new (Same.refl H11) nu (o := .lst (A.map V.int))
      refine ⟨p3, _, rfl, .inl (SqL.of ((ls11.same s1) (p3, B) List.mem_cons_self)), fun v nv => ?_⟩
      have s2 := Same.new s1 nv (o := .lst (B.map V.int))
      refine ⟨by show 2 ≤ sizeLine; decide, fun G nG => ?_⟩
      have s3 := Same.new s2 nG (o := .lst [.ref u, .ref v])
      have hu := (upd_ne (o := HO.lst (B.map V.int)) (H := upd H11 u (.lst (A.map V.int))) (ne_of_none upd_same nv)).trans upd_same
      exact ⟨G, u, v, rfl, upd_same, .inl ((upd_ne (ne_of_none hu nG)).trans hu), .inl ((upd_ne (ne_of_none upd_same nG)).trans upd_same), ls11.same s3, Bag.same hb11 s3⟩
    rintro σ' H12 ⟨G0, u0, v0, rfl, hG0, hu0, hv0, ls12, hb12⟩
    refine ⟨fun σ' H' => ∃ G u v : Addr, σ' = [some (.ref a), some (.ref b), some (.ref p1), some (.int z), some (.int g), some (.ref p3), some (.int y), some (.ref G), none, none, none, none, none, none, none, none, none] ∧ H' G = some (.lst [.ref u, .ref v]) ∧ SqH H' u A ∧ SqH H' v B ∧ Ls H' [(p3, B), (p1, A)], ?_, ?_⟩
    · walk_at "rd"
      refine ⟨b, c, _, rfl, hb12, by decide, fun r H2 hb2 hk2 r0 r1 => ?_⟩
      have ls2 := ls12.keep hb12 hk2
      walk_at "rd"
      refine ite2 (fun c1 => ?_) (fun c1 => ?_)
      · walk_at "rd"
        refine ⟨p1, _, rfl, .inl ⟨SqL.of (ls2 (p1, A) (List.mem_cons_of_mem _ List.mem_cons_self)), fun u nu => ?_⟩⟩
        walk_at "rd"
        have s1 := Same.new (Same.refl H2) nu (o := .tup (A.map V.int))
        refine ⟨p3, _, rfl, .inl ⟨SqL.of ((ls2.same s1) (p3, B) List.mem_cons_self), fun v nv => ?_⟩⟩
        have s2 := Same.new s1 nv (o := .tup (B.map V.int))
        refine ⟨by show 2 ≤ sizeLine; decide, fun G nG => ?_⟩
        have s3 := Same.new s2 nG (o := .lst [.ref u, .ref v])
        have hu := (upd_ne (o := HO.tup (B.map V.int)) (H := upd H2 u (.tup (A.map V.int))) (ne_of_none upd_same nv)).trans upd_same
        exact ⟨G, u, v, rfl, upd_same, .inr ((upd_ne (ne_of_none hu nG)).trans hu), .inr ((upd_ne (ne_of_none upd_same nG)).trans upd_same), ls2.same s3⟩
      · have kp : ∀ {x : Addr} {L : List Int}, SqH H12 x L → SqH H2 x L := fun {x L} h => by
          rcases h with h | h
          · exact .inl (hk2 _ _ h (hb12.ne_ints h))
          · exact .inr (hk2 _ _ h (hb12.ne_tup h))
        exact ⟨G0, u0, v0, rfl, hk2 _ _ hG0 (hb12.ne_refs hG0), kp hu0, kp hv0, ls2⟩
    rintro σ' H13 ⟨G, u, v, rfl, hG, hu, hv, ls13⟩
    clear ls12 hb12 hG0 hu0 hv0 ls11 hb11
    have hp1 := ls13 (p1, A) (List.mem_cons_of_mem _ List.mem_cons_self)
    have hp3 := ls13 (p3, B) List.mem_cons_self
    -- the two lots
    refine ⟨fun σ' H' => ∃ o1 : Addr, σ' = [some (.ref a), some (.ref b), some (.ref p1), some (.int z), some (.int g), some (.ref p3), some (.int y), some (.ref G), some (.ref o1), none, none, none, none, none, none, none, none] ∧ Same H13 H' ∧ H' o1 = some (.lst ((Far.srt (Far.far A)).map V.int)), ?_, ?_⟩
    · walk_at "rd"
      exact ⟨p1, A, rfl, SqL.of hp1, by omega, fun p H' s np hp => ⟨p, rfl, s, hp⟩⟩
    rintro σ' H14 ⟨o1, rfl, s14, ho1⟩
    refine ⟨fun σ' H' => ∃ o2 : Addr, σ' = [some (.ref a), some (.ref b), some (.ref p1), some (.int z), some (.int g), some (.ref p3), some (.int y), some (.ref G), some (.ref o1), some (.ref o2), none, none, none, none, none, none, none] ∧ Same H14 H' ∧ H' o2 = some (.lst ((Far.srt (Far.far B)).map V.int)), ?_, ?_⟩
    · walk_at "rd"
      exact ⟨p3, B, rfl, SqL.of (s14 _ _ hp3), by omega, fun p H' s np hp => ⟨p, rfl, s, hp⟩⟩
    rintro σ' H15 ⟨o2, rfl, s15, ho2⟩
    have s13 : Same H13 H15 := Same.trans s14 s15
    have hp1 := s13 _ _ hp1
    have hp3 := s13 _ _ hp3
    have hG := s13 _ _ hG
    have hu := hu.same s13
    have hv := hv.same s13
    have ho1 := s15 _ _ ho1
    clear s13 s14 s15 ls13
    have lenF : ∀ L : List Int, L.length ≤ 8 → (Far.srt (Far.far L)).length ≤ 10000 := fun L h => by
      rw [Far.srt_len]
      exact far_small (by omega)
    -- beats_of
    refine ⟨fun σ' H' => σ' = [some (.ref a), some (.ref b), some (.ref p1), some (.int z), some (.int g), some (.ref p3), some (.int y), some (.ref G), some (.ref o1), some (.ref o2), none, none, none, none, none, none, none] ∧ Same H15 H', ?_, ?_⟩
    · walk_at "rd"
      refine ⟨u, A, rfl, hu.sq, by omega, fun p H2 s2 np hp => ?_⟩
      walk_at "rd"
      refine ⟨p, o1, _, rfl, hp, s2 _ _ ho1, lenF A lenA, fun H3 s3 => ?_⟩
      walk_at "rd"
      have s23 := Same.trans s2 s3
      refine ⟨_, _, _, _, rfl, rfl, SqL.of (s23 _ _ hG), rfl, ?_⟩
      refine ⟨v, B, rfl, (hv.same s23).sq, by omega, fun q H4 s4 nq hq => ?_⟩
      walk_at "rd"
      refine ⟨q, o2, _, rfl, hq, s4 _ _ (s23 _ _ ho2), lenF B lenB, fun H5 s5 => ?_⟩
      walk_at "rd"
      exact (Same.trans s23 s4).trans s5
    rintro σ' H16 ⟨rfl, s16⟩
    refine ⟨fun σ' H' => σ' = [some (.ref a), some (.ref b), some (.ref p1), some (.int z), some (.int g), some (.ref p3), some (.int y), some (.ref G), some (.ref o1), some (.ref o2), none, none, none, none, none, none, none] ∧ Same H15 H', ?_, ?_⟩
    · walk_at "rd"
      refine ⟨_, _, _, _, rfl, rfl, SqL.of (s16 _ _ hG), rfl, ?_⟩
      walk_at "rd"
      refine ⟨_, _, _, _, rfl, rfl, SqL.of (s16 _ _ hG), rfl, ?_⟩
      refine ⟨u, v, A, B, rfl, (hu.same s16).sq, (hv.same s16).sq, by omega, by omega, fun H2 s2 => ?_⟩
      walk_at "rd"
      have s62 := Same.trans s16 s2
      refine Fx.eq_ints (SqL.of (s62 _ _ ho1)) (SqL.of (s62 _ _ ho2)) ?_
      refine ⟨_, rfl, ?_⟩
      walk_at "rd"
      exact s62
    rintro σ' H17 ⟨rfl, s17⟩
    have hG := s17 _ _ hG
    have hu := hu.same s17
    have hv := hv.same s17
    have ho1 := s17 _ _ ho1
    have ho2 := s17 _ _ ho2
    have hp1 := s17 _ _ hp1
    have hp3 := s17 _ _ hp3
    clear s16 s17
    -- the sums and the differences
    refine ⟨fun σ' H' => ∃ D1 : Addr, σ' = [some (.ref a), some (.ref b), some (.ref p1), some (.int z), some (.int g), some (.ref p3), some (.int y), some (.ref G), some (.ref o1), some (.ref o2), some (.ref D1), none, none, none, none, none, none] ∧ H17 D1 = none ∧ Same H17 H' ∧ H' D1 = some (.lst []), ?_, ?_⟩
    · exact ⟨by show 0 ≤ sizeLine; decide, fun D nD => ⟨D, rfl, nD, Same.new (Same.refl H17) nD, upd_same⟩⟩
    rintro σ' H18 ⟨D1, rfl, n1, s18, hD1⟩
    refine ⟨fun σ' H' => ∃ D2 : Addr, σ' = [some (.ref a), some (.ref b), some (.ref p1), some (.int z), some (.int g), some (.ref p3), some (.int y), some (.ref G), some (.ref o1), some (.ref o2), some (.ref D1), some (.ref D2), none, none, none, none, none] ∧ H17 D2 = none ∧ D1 ≠ D2 ∧ Same H17 H' ∧ H' D1 = some (.lst []) ∧ H' D2 = some (.lst []), ?_, ?_⟩
    · exact ⟨by show 0 ≤ sizeLine; decide, fun D nD => ⟨D, rfl, s18.free nD, ne_of_none hD1 nD, Same.new s18 nD, (upd_ne (ne_of_none hD1 nD)).trans hD1, upd_same⟩⟩
    rintro σ' H19 ⟨D2, rfl, n2, n12, s19, hD1, hD2⟩
    have hAB : A.length * B.length ≤ 64 := Nat.le_trans (Nat.mul_le_mul lenA lenB) (by decide)
    have bS : ∀ i j, (Far.sumsL (A.take i) B ++ (B.take j).map fun y => y).length ≤ 100 := fun i j => by
      rw [List.length_append, Far.sums_len, List.length_map, List.length_take, List.length_take]
      have := Nat.mul_le_mul (show min i A.length ≤ 8 by omega) lenB
      omega
    have bD : ∀ i j, (Far.diffL (A.take i) B ++ (B.take j).map fun y => y).length ≤ 100 := fun i j => by
      rw [List.length_append, Far.diff_len, List.length_map, List.length_take, List.length_take]
      have := Nat.mul_le_mul (show min i A.length ≤ 8 by omega) lenB
      omega
    refine ⟨fun σ' H' => ∃ ux uy, σ' = [some (.ref a), some (.ref b), some (.ref p1), some (.int z), some (.int g), some (.ref p3), some (.int y), some (.ref G), some (.ref o1), some (.ref o2), some (.ref D1), some (.ref D2), ux, uy, none, none, none] ∧ Same H17 H' ∧ H' D1 = some (.lst ((Far.sumsL A B).map V.int)) ∧ H' D2 = some (.lst ((Far.diffL A B).map V.int)), ?_, ?_⟩
    · walk_at "rd"
      refine ⟨⟨_, SqL.of (s19 _ _ hp1)⟩, ?_⟩
      refine for_list (K := K) (a := p1) (xs := A.map V.int) (fun i σ H' => ∃ ux uy, σ = [some (.ref a), some (.ref b), some (.ref p1), some (.int z), some (.int g), some (.ref p3), some (.int y), some (.ref G), some (.ref o1), some (.ref o2), some (.ref D1), some (.ref D2), ux, uy, none, none, none] ∧ Same H17 H' ∧ H' D1 = some (.lst ((Far.sumsL (A.take i) B).map V.int)) ∧ H' D2 = some (.lst ((Far.diffL (A.take i) B).map V.int)))
        ⟨none, none, rfl, s19, hD1, hD2⟩ (fun i σ H' _ e => by obtain ⟨_, _, _, s, _⟩ := e; exact SqL.of (s _ _ hp1)) ?_ ?_
      · rintro i x σ H2 hi ⟨ox, oy, rfl, s2, e1, e2⟩
        obtain ⟨q, hq, rfl⟩ := ints_at hi
        walk_at "rd"
        refine ⟨⟨_, SqL.of (s2 _ _ hp3)⟩, ?_⟩
        refine for_list (K := K) (a := p3) (xs := B.map V.int) (fun j σ H' => ∃ uy, σ = [some (.ref a), some (.ref b), some (.ref p1), some (.int z), some (.int g), some (.ref p3), some (.int y), some (.ref G), some (.ref o1), some (.ref o2), some (.ref D1), some (.ref D2), some (.int q), uy, none, none, none] ∧ Same H17 H' ∧ H' D1 = some (.lst ((Far.sumsL (A.take i) B ++ (B.take j).map fun y => q + y).map V.int)) ∧ H' D2 = some (.lst ((Far.diffL (A.take i) B ++ (B.take j).map fun y => q - y).map V.int)))
          ⟨oy, rfl, s2, by simpa using e1, by simpa using e2⟩ (fun i σ H' _ e => by obtain ⟨_, _, s, _⟩ := e; exact SqL.of (s _ _ hp3)) ?_ ?_
        · rintro j x σ H3 hj ⟨ox, rfl, s3, e1, e2⟩
          obtain ⟨t, ht, rfl⟩ := ints_at hj
          walk_at "rd"
          refine ⟨.inl ⟨rfl, _, SqL.of e1⟩, ?_⟩
          walk_at "rd"
          have l1 : ((Far.sumsL (A.take i) B ++ (B.take j).map fun y => q + y).map V.int).length < sizeLine := small1000 (by
            have := bS i j
            simp only [List.length_append, List.length_map] at this ⊢
            omega)
          refine ⟨D1, _, _, rfl, rfl, e1, l1, ?_⟩
          have e2' := (upd_ne (o := HO.lst ((Far.sumsL (A.take i) B ++ (B.take j).map fun y => q + y).map V.int ++ [V.int (q + t)])) n12.symm).trans e2
          walk_at "rd"
          refine ⟨.inl ⟨rfl, _, SqL.of e2'⟩, ?_⟩
          walk_at "rd"
          have l2 : ((Far.diffL (A.take i) B ++ (B.take j).map fun y => q - y).map V.int).length < sizeLine := small1000 (by
            have := bD i j
            simp only [List.length_append, List.length_map] at this ⊢
            omega)
          refine ⟨D2, _, _, rfl, rfl, e2', l2, ?_⟩
          refine ⟨_, rfl, Same.set (Same.set s3 n1) n2, ?_, ?_⟩
          · rw [upd_ne n12, upd_same, ints_take ht, map_snoc]
            simp
          · rw [upd_same, ints_take ht, map_snoc]
            simp
        · rintro σ H3 ⟨ox, rfl, s3, e1, e2⟩
          refine ⟨_, _, rfl, s3, e1.trans (congrArg (fun l : List Int => some (HO.lst (l.map V.int))) ?_), e2.trans (congrArg (fun l : List Int => some (HO.lst (l.map V.int))) ?_)⟩
          · rw [ints_take hq, List.length_map, List.take_length]
            unfold Far.sumsL
            rw [List.flatMap_append]
            simp
          · rw [ints_take hq, List.length_map, List.take_length]
            unfold Far.diffL
            rw [List.flatMap_append]
            simp
      · rintro σ H2 ⟨ox, oy, rfl, s2, e1, e2⟩
        rw [List.length_map, List.take_length] at e1 e2
        exact ⟨ox, oy, rfl, s2, e1, e2⟩
    rintro σ' H20 ⟨ox, oy, rfl, s20, hD1, hD2⟩
    clear s19 s18 bS bD
    have hG := s20 _ _ hG
    have hu := hu.same s20
    have hv := hv.same s20
    have ho1 := s20 _ _ ho1
    have ho2 := s20 _ _ ho2
    have hp1 := s20 _ _ hp1
    have hp3 := s20 _ _ hp3
    clear s20 n1 n2
    refine ⟨fun σ' H' => ∃ uz, σ' = [some (.ref a), some (.ref b), some (.ref p1), some (.int z), some (.int g), some (.ref p3), some (.int y), some (.ref G), some (.ref o1), some (.ref o2), some (.ref D1), some (.ref D2), ox, oy, uz, none, none] ∧ Same H20 H', ?_, ?_⟩
    · walk_at "rd"
      refine ⟨by show 2 ≤ sizeLine; decide, fun P1 nP1 => ?_⟩
      generalize hK1 : upd H20 P1 (HO.lst [V.ref p1, V.ref p3]) = K1
      have k1 : K1 P1 = some (.lst [.ref p1, .ref p3]) := by rw [← hK1]; exact upd_same
      have t1 : Same H20 K1 := by rw [← hK1]; exact Same.new (Same.refl H20) nP1
      walk_at "rd"
      refine ⟨p1, _, rfl, .inl (SqL.of (t1 _ _ hp1)), fun u3 nu3 => ?_⟩
      generalize hK2 : upd K1 u3 (HO.lst (A.map V.int)) = K2
      have k2 : K2 u3 = some (.lst (A.map V.int)) := by rw [← hK2]; exact upd_same
      have t2 : Same K1 K2 := by rw [← hK2]; exact Same.new (Same.refl K1) nu3
      walk_at "rd"
      refine ⟨p3, _, rfl, .inl ⟨SqL.of (t2 _ _ (t1 _ _ hp3)), fun v3 nv3 => ?_⟩⟩
      generalize hK3 : upd K2 v3 (HO.tup (B.map V.int)) = K3
      have k3 : K3 v3 = some (.tup (B.map V.int)) := by rw [← hK3]; exact upd_same
      have t3 : Same K2 K3 := by rw [← hK3]; exact Same.new (Same.refl K2) nv3
      refine ⟨by show 2 ≤ sizeLine; decide, fun P3 nP3 => ?_⟩
      generalize hK4 : upd K3 P3 (HO.lst [V.ref u3, V.ref v3]) = K4
      have k4 : K4 P3 = some (.lst [.ref u3, .ref v3]) := by rw [← hK4]; exact upd_same
      have t4 : Same K3 K4 := by rw [← hK4]; exact Same.new (Same.refl K3) nP3
      refine ⟨by show 3 ≤ sizeLine; decide, fun L nL => ?_⟩
      generalize hK5 : upd K4 L (HO.lst [V.ref P1, V.ref G, V.ref P3]) = HH
      have hL : HH L = some (.lst [.ref P1, .ref G, .ref P3]) := by rw [← hK5]; exact upd_same
      have t5 : Same K4 HH := by rw [← hK5]; exact Same.new (Same.refl K4) nL
      have t35 := Same.trans t3 (Same.trans t4 t5)
      have t25 := Same.trans t2 t35
      have t15 := Same.trans t1 t25
      have each : ∀ x ∈ ([V.ref P1, V.ref G, V.ref P3] : List V), ∃ q u v : Addr, x = .ref q ∧ HH q = some (.lst [.ref u, .ref v]) ∧ SqH HH u A ∧ SqH HH v B := by
        intro x hx
        simp only [List.mem_cons, List.not_mem_nil, or_false] at hx
        rcases hx with rfl | rfl | rfl
        · exact ⟨P1, p1, p3, rfl, t25 _ _ k1, .inl (t15 _ _ hp1), .inl (t15 _ _ hp3)⟩
        · exact ⟨G, u, v, rfl, t15 _ _ hG, hu.same t15, hv.same t15⟩
        · exact ⟨P3, u3, v3, rfl, t5 _ _ k4, .inl (t35 _ _ k2), .inr (Same.trans t4 t5 _ _ k3)⟩
      clear hK1 hK2 hK3 hK4 hK5
      refine ⟨_, rfl, ⟨_, SqL.of hL⟩, ?_⟩
      refine for_list (K := K) (a := L) (xs := [V.ref P1, V.ref G, V.ref P3]) (fun i σ H' => ∃ uz, σ = [some (.ref a), some (.ref b), some (.ref p1), some (.int z), some (.int g), some (.ref p3), some (.int y), some (.ref G), some (.ref o1), some (.ref o2), some (.ref D1), some (.ref D2), ox, oy, uz, none, none] ∧ Same HH H')
        ⟨none, rfl, Same.refl HH⟩ (fun i σ H' _ e => by obtain ⟨_, _, s⟩ := e; exact SqL.of (s _ _ hL)) ?_ ?_
      · rintro i x σ H2 hi ⟨uz, rfl, s2⟩
        obtain ⟨q, u4, v4, rfl, hq, hu4, hv4⟩ := each x (List.mem_of_getElem? hi)
        have lenS : (Far.srt (Far.sumsL A B)).length ≤ 10000 := by rw [Far.srt_len, Far.sums_len]; omega
        have lenD : (Far.srt (Far.diffL A B)).length ≤ 10000 := by rw [Far.srt_len, Far.diff_len]; omega
        have h1 : ∀ {H'}, Same HH H' → H' D1 = some (.lst ((Far.sumsL A B).map V.int)) := fun s => s _ _ (t15 _ _ hD1)
        have h2 : ∀ {H'}, Same HH H' → H' D2 = some (.lst ((Far.diffL A B).map V.int)) := fun s => s _ _ (t15 _ _ hD2)
        walk_at "rd"
        refine ⟨_, _, _, _, rfl, rfl, SqL.of (s2 _ _ hq), rfl, ?_⟩
        walk_at "rd"
        refine ⟨_, _, _, _, rfl, rfl, SqL.of (s2 _ _ hq), rfl, ?_⟩
        refine ⟨u4, v4, A, B, rfl, (hu4.same s2).sq, (hv4.same s2).sq, by omega, by omega, fun w1 H3 s3 nw1 hw1 => ?_⟩
        have s3' := Same.trans s2 s3
        walk_at "rd"
        refine ⟨D1, Far.sumsL A B, rfl, SqL.of (h1 s3'), fun ns' w2 pm up nw2 => ?_⟩
        rw [Far.srt_of pm up]
        have s4 := Same.new s3' nw2 (o := .lst ((Far.srt (Far.sumsL A B)).map V.int))
        refine ⟨w1, w2, _, rfl, (upd_ne (ne_of_none hw1 nw2)).trans hw1, upd_same, lenS, fun H5 s5 => ?_⟩
        have s5' := Same.trans s4 s5
        walk_at "rd"
        refine ⟨_, _, _, _, rfl, rfl, SqL.of (s5' _ _ hq), rfl, ?_⟩
        walk_at "rd"
        refine ⟨_, _, _, _, rfl, rfl, SqL.of (s5' _ _ hq), rfl, ?_⟩
        refine ⟨u4, v4, A, B, rfl, (hu4.same s5').sq, (hv4.same s5').sq, by omega, by omega, fun w3 H6 s6 nw3 hw3 => ?_⟩
        have s6' := Same.trans s5' s6
        walk_at "rd"
        refine ⟨D2, Far.diffL A B, rfl, SqL.of (h2 s6'), fun ns' w4 pm up nw4 => ?_⟩
        rw [Far.srt_of pm up]
        have s7 := Same.new s6' nw4 (o := .lst ((Far.srt (Far.diffL A B)).map V.int))
        refine ⟨w3, w4, _, rfl, (upd_ne (ne_of_none hw3 nw4)).trans hw3, upd_same, lenD, fun H8 s8 => ?_⟩
        have s8' := Same.trans s7 s8
        walk_at "rd"
        refine ⟨_, _, _, _, rfl, rfl, SqL.of (s8' _ _ hq), rfl, ?_⟩
        walk_at "rd"
        refine ⟨_, _, _, _, rfl, rfl, SqL.of (s8' _ _ hq), rfl, ?_⟩
        refine ⟨u4, v4, A, B, rfl, (hu4.same s8').sq, (hv4.same s8').sq, by omega, by omega, fun H9 s9 => ?_⟩
        have s9' := Same.trans s8' s9
        walk_at "rd"
        refine Fx.eq_ints (SqL.of (s9' _ _ (t15 _ _ ho1))) (SqL.of (s9' _ _ (t15 _ _ ho2))) ?_
        refine ⟨_, rfl, ?_⟩
        walk_at "rd"
        exact s9'
      · rintro σ H2 ⟨uz, rfl, s2⟩
        exact ⟨uz, rfl, Same.trans t15 s2⟩
    rintro σ' H21 ⟨uz, rfl, s21⟩
    walk_at "rd"
    refine ⟨_, _, _, _, rfl, rfl, SqL.of (s21 _ _ hG), rfl, ?_⟩
    refine ⟨u, _, rfl, (hu.same s21).sq, fun l nl => ?_⟩
    have t1 := Same.new s21 nl (o := .lst (A.map V.int))
    walk_at "rd"
    refine Fx.eq_ints (SqL.of upd_same) (SqL.of (t1 _ _ hp1)) ?_
    rw [decide_eq_true rfl]
    walk_at "rd"
    refine ⟨_, _, _, _, rfl, rfl, SqL.of (t1 _ _ hG), rfl, ?_⟩
    refine ⟨v, _, rfl, (hv.same t1).sq, fun l2 nl2 => ?_⟩
    have t2 := Same.new t1 nl2 (o := .lst (B.map V.int))
    walk_at "rd"
    refine Fx.eq_ints (SqL.of upd_same) (SqL.of (t2 _ _ hp3)) ?_
    rw [decide_eq_true rfl]
    exact k _
end
end Fk

namespace Fk
open PySem L2
theorem all_mk {l : PySem.W.OpenLaw} {w : World} {K : PySem.W.Frag} {h : Heap} {mg : Str → Option Value} {fa : Addr} (X : K.In h) (G : h.Ns mainGlobals mg) (hfa : mg "law" = some (.ref fa))
    {a0 : Addr} {oc0 kV0 dc0 pm0 cd0 ct0 : Value} {od0 an0 : Option Addr} {sl0 : Array (Option Value)} (g0 : PySem.W.nsIn K mainGlobals "_law_bag" = some (some (.ref a0))) (l0 : K.lookup a0 = some ⟨oc0, od0, .func (PySem.W.fnOf "_law_bag" "_law_bag" (defArgs s__law_bag) (defBody s__law_bag) (defScope s__law_bag) .none kV0 dc0 pm0 an0 cd0 ct0), sl0⟩) (c0 : PySem.W.codeIn K cd0 "_law_bag" = true) (k0 : PySem.W.keepIn K (.ref a0) = true)
    {a1 : Addr} {oc1 kV1 dc1 pm1 cd1 ct1 : Value} {od1 an1 : Option Addr} {sl1 : Array (Option Value)} (g1 : PySem.W.nsIn K mainGlobals "_law_mixed" = some (some (.ref a1))) (l1 : K.lookup a1 = some ⟨oc1, od1, .func (PySem.W.fnOf "_law_mixed" "_law_mixed" (defArgs s__law_mixed) (defBody s__law_mixed) (defScope s__law_mixed) .none kV1 dc1 pm1 an1 cd1 ct1), sl1⟩) (c1 : PySem.W.codeIn K cd1 "_law_mixed" = true) (k1 : PySem.W.keepIn K (.ref a1) = true)
    {a2 : Addr} {oc2 kV2 dc2 pm2 cd2 ct2 : Value} {od2 an2 : Option Addr} {sl2 : Array (Option Value)} (g2 : PySem.W.nsIn K mainGlobals "_law_take" = some (some (.ref a2))) (l2 : K.lookup a2 = some ⟨oc2, od2, .func (PySem.W.fnOf "_law_take" "_law_take" (defArgs s__law_take) (defBody s__law_take) (defScope s__law_take) .none kV2 dc2 pm2 an2 cd2 ct2), sl2⟩) (c2 : PySem.W.codeIn K cd2 "_law_take" = true) (k2 : PySem.W.keepIn K (.ref a2) = true)
    {a3 : Addr} {oc3 kV3 dc3 pm3 cd3 ct3 : Value} {od3 an3 : Option Addr} {sl3 : Array (Option Value)} (g3 : PySem.W.nsIn K mainGlobals "_law_pitch" = some (some (.ref a3))) (l3 : K.lookup a3 = some ⟨oc3, od3, .func (PySem.W.fnOf "_law_pitch" "_law_pitch" (defArgs s__law_pitch) (defBody s__law_pitch) (defScope s__law_pitch) .none kV3 dc3 pm3 an3 cd3 ct3), sl3⟩) (c3 : PySem.W.codeIn K cd3 "_law_pitch" = true) (k3 : PySem.W.keepIn K (.ref a3) = true)
    {a4 : Addr} {oc4 kV4 dc4 pm4 cd4 ct4 : Value} {od4 an4 : Option Addr} {sl4 : Array (Option Value)} (g4 : PySem.W.nsIn K mainGlobals "sums" = some (some (.ref a4))) (l4 : K.lookup a4 = some ⟨oc4, od4, .func (PySem.W.fnOf "sums" "sums" (defArgs s_sums) (defBody s_sums) (defScope s_sums) .none kV4 dc4 pm4 an4 cd4 ct4), sl4⟩) (c4 : PySem.W.codeIn K cd4 "sums" = true) (k4 : PySem.W.keepIn K (.ref a4) = true)
    {a5 : Addr} {oc5 kV5 dc5 pm5 cd5 ct5 : Value} {od5 an5 : Option Addr} {sl5 : Array (Option Value)} (g5 : PySem.W.nsIn K mainGlobals "differences" = some (some (.ref a5))) (l5 : K.lookup a5 = some ⟨oc5, od5, .func (PySem.W.fnOf "differences" "differences" (defArgs s_differences) (defBody s_differences) (defScope s_differences) .none kV5 dc5 pm5 an5 cd5 ct5), sl5⟩) (c5 : PySem.W.codeIn K cd5 "differences" = true) (k5 : PySem.W.keepIn K (.ref a5) = true)
    {a6 : Addr} {oc6 kV6 dc6 pm6 cd6 ct6 : Value} {od6 an6 : Option Addr} {sl6 : Array (Option Value)} (g6 : PySem.W.nsIn K mainGlobals "beats_of" = some (some (.ref a6))) (l6 : K.lookup a6 = some ⟨oc6, od6, .func (PySem.W.fnOf "beats_of" "beats_of" (defArgs s_beats_of) (defBody s_beats_of) (defScope s_beats_of) .none kV6 dc6 pm6 an6 cd6 ct6), sl6⟩) (c6 : PySem.W.codeIn K cd6 "beats_of" = true) (k6 : PySem.W.keepIn K (.ref a6) = true)
    {a7 : Addr} {oc7 kV7 dc7 pm7 cd7 ct7 : Value} {od7 an7 : Option Addr} {sl7 : Array (Option Value)} (g7 : PySem.W.nsIn K mainGlobals "alike_in_beats" = some (some (.ref a7))) (l7 : K.lookup a7 = some ⟨oc7, od7, .func (PySem.W.fnOf "alike_in_beats" "alike_in_beats" (defArgs s_alike_in_beats) (defBody s_alike_in_beats) (defScope s_alike_in_beats) .none kV7 dc7 pm7 an7 cd7 ct7), sl7⟩) (c7 : PySem.W.codeIn K cd7 "alike_in_beats" = true) (k7 : PySem.W.keepIn K (.ref a7) = true)
    {a8 : Addr} {oc8 kV8 dc8 pm8 cd8 ct8 : Value} {od8 an8 : Option Addr} {sl8 : Array (Option Value)} (g8 : PySem.W.nsIn K mainGlobals "_law_far_all" = some (some (.ref a8))) (l8 : K.lookup a8 = some ⟨oc8, od8, .func (PySem.W.fnOf "_law_far_all" "_law_far_all" (defArgs s__law_far_all) (defBody s__law_far_all) (defScope s__law_far_all) .none kV8 dc8 pm8 an8 cd8 ct8), sl8⟩) (c8 : PySem.W.codeIn K cd8 "_law_far_all" = true) (k8 : PySem.W.keepIn K (.ref a8) = true)
    {a9 : Addr} {oc9 kV9 dc9 pm9 cd9 ct9 : Value} {od9 an9 : Option Addr} {sl9 : Array (Option Value)} (g9 : PySem.W.nsIn K mainGlobals "_law_is_int" = some (some (.ref a9))) (l9 : K.lookup a9 = some ⟨oc9, od9, .func (PySem.W.fnOf "_law_is_int" "_law_is_int" (defArgs s__law_is_int) (defBody s__law_is_int) (defScope s__law_is_int) .none kV9 dc9 pm9 an9 cd9 ct9), sl9⟩) (c9 : PySem.W.codeIn K cd9 "_law_is_int" = true) (k9 : PySem.W.keepIn K (.ref a9) = true)
    {a10 : Addr} {oc10 kV10 dc10 pm10 cd10 ct10 : Value} {od10 an10 : Option Addr} {sl10 : Array (Option Value)} (g10 : PySem.W.nsIn K mainGlobals "_law_ints" = some (some (.ref a10))) (l10 : K.lookup a10 = some ⟨oc10, od10, .func (PySem.W.fnOf "_law_ints" "_law_ints" (defArgs s__law_ints) (defBody s__law_ints) (defScope s__law_ints) .none kV10 dc10 pm10 an10 cd10 ct10), sl10⟩) (c10 : PySem.W.codeIn K cd10 "_law_ints" = true) (k10 : PySem.W.keepIn K (.ref a10) = true)
    {a11 : Addr} {oc11 kV11 dc11 pm11 cd11 ct11 : Value} {od11 an11 : Option Addr} {sl11 : Array (Option Value)} (g11 : PySem.W.nsIn K mainGlobals "_law_some" = some (some (.ref a11))) (l11 : K.lookup a11 = some ⟨oc11, od11, .func (PySem.W.fnOf "_law_some" "_law_some" (defArgs s__law_some) (defBody s__law_some) (defScope s__law_some) .none kV11 dc11 pm11 an11 cd11 ct11), sl11⟩) (c11 : PySem.W.codeIn K cd11 "_law_some" = true) (k11 : PySem.W.keepIn K (.ref a11) = true)
    {a12 : Addr} {oc12 kV12 dc12 pm12 cd12 ct12 : Value} {od12 an12 : Option Addr} {sl12 : Array (Option Value)} (g12 : PySem.W.nsIn K mainGlobals "_law_truth" = some (some (.ref a12))) (l12 : K.lookup a12 = some ⟨oc12, od12, .func (PySem.W.fnOf "_law_truth" "_law_truth" (defArgs s__law_truth) (defBody s__law_truth) (defScope s__law_truth) .none kV12 dc12 pm12 an12 cd12 ct12), sl12⟩) (c12 : PySem.W.codeIn K cd12 "_law_truth" = true) (k12 : PySem.W.keepIn K (.ref a12) = true)
    {a13 : Addr} {oc13 kV13 dc13 pm13 cd13 ct13 : Value} {od13 an13 : Option Addr} {sl13 : Array (Option Value)} (g13 : PySem.W.nsIn K mainGlobals "law" = some (some (.ref a13))) (l13 : K.lookup a13 = some ⟨oc13, od13, .func (PySem.W.fnOf "law" "law" (defArgs s_law) (defBody s_law) (defScope s_law) .none kV13 dc13 pm13 an13 cd13 ct13), sl13⟩) (c13 : PySem.W.codeIn K cd13 "law" = true) (k13 : PySem.W.keepIn K (.ref a13) = true)
    (y0 : PySem.W.nsIn K mainGlobals "len" = some none) (y1 : PySem.W.nsIn K mainGlobals "abs" = some none) (y2 : PySem.W.nsIn K mainGlobals "max" = some none) (y3 : PySem.W.nsIn K mainGlobals "min" = some none) (y4 : PySem.W.nsIn K mainGlobals "int" = some none) (y5 : PySem.W.nsIn K mainGlobals "range" = some none) (y6 : PySem.W.nsIn K mainGlobals "sorted" = some none) (y7 : PySem.W.nsIn K mainGlobals "enumerate" = some none) (y8 : PySem.W.nsIn K mainGlobals "isinstance" = some none) (y9 : PySem.W.nsIn K mainGlobals "bool" = some none) (y10 : PySem.W.nsIn K mainGlobals "list" = some none) (y11 : PySem.W.nsIn K mainGlobals "tuple" = some none) (y12 : PySem.W.nsIn K mainGlobals "all" = some none) :
    ∃ fd : FuncData, (∀ (s : Shared) (v : Value), BindsTo s fd ⟨[v], []⟩ [("_law_script", v)]) ∧ ∀ base : Heap, K.In base → base.Ns mainGlobals mg → FnOk l.prog w K mg base CX0 4 fa fd ["_law_script"] (spLaw K) := by
  have e := hfa.symm.trans (PySem.W.mg_of X G g13)
  cases e
  have z_len := PySem.W.mg_none_of X G y0
  have z_abs := PySem.W.mg_none_of X G y1
  have z_max := PySem.W.mg_none_of X G y2
  have z_min := PySem.W.mg_none_of X G y3
  have z_int := PySem.W.mg_none_of X G y4
  have z_range := PySem.W.mg_none_of X G y5
  have z_sorted := PySem.W.mg_none_of X G y6
  have z_enumerate := PySem.W.mg_none_of X G y7
  have z_isinstance := PySem.W.mg_none_of X G y8
  have z_bool := PySem.W.mg_none_of X G y9
  have z_list := PySem.W.mg_none_of X G y10
  have z_tuple := PySem.W.mg_none_of X G y11
  have z_all := PySem.W.mg_none_of X G y12
  have B : Bn mg := ⟨z_len, z_abs, z_max, z_int, z_range⟩
  have T : Bs mg := ⟨z_sorted, z_enumerate, z_abs, z_isinstance, z_int, z_bool, z_list, z_len, z_all, z_range⟩
  have T2 : Bt mg := ⟨z_min, z_len, z_list, z_tuple, z_range, z_sorted, z_isinstance, z_bool⟩
  have F0 := fun_mk (st := s__law_bag) l0 c0 k0
  have b0 := F0.binds (ps := ["_law_script"]) fun _ _ _ _ _ _ us hl => match us, hl with | [_], _ => rfl
  have F1 := fun_mk (st := s__law_mixed) l1 c1 k1
  have b1 := F1.binds (ps := ["_law_cell", "_law_turn"]) fun _ _ _ _ _ _ us hl => match us, hl with | [_, _], _ => rfl
  have F2 := fun_mk (st := s__law_take) l2 c2 k2
  have b2 := F2.binds (ps := ["_law_bag_here", "_law_many"]) fun _ _ _ _ _ _ us hl => match us, hl with | [_, _], _ => rfl
  have F3 := fun_mk (st := s__law_pitch) l3 c3 k3
  have b3 := F3.binds (ps := ["_law_bag_here"]) fun _ _ _ _ _ _ us hl => match us, hl with | [_], _ => rfl
  have F4 := fun_mk (st := s_sums) l4 c4 k4
  have b4 := F4.binds (ps := ["first", "second"]) fun _ _ _ _ _ _ us hl => match us, hl with | [_, _], _ => rfl
  have F5 := fun_mk (st := s_differences) l5 c5 k5
  have b5 := F5.binds (ps := ["first", "second"]) fun _ _ _ _ _ _ us hl => match us, hl with | [_, _], _ => rfl
  have F6 := fun_mk (st := s_beats_of) l6 c6 k6
  have b6 := F6.binds (ps := ["pitches"]) fun _ _ _ _ _ _ us hl => match us, hl with | [_], _ => rfl
  have F7 := fun_mk (st := s_alike_in_beats) l7 c7 k7
  have b7 := F7.binds (ps := ["first", "second"]) fun _ _ _ _ _ _ us hl => match us, hl with | [_, _], _ => rfl
  have F8 := fun_mk (st := s__law_far_all) l8 c8 k8
  have b8 := F8.binds (ps := ["_law_row"]) fun _ _ _ _ _ _ us hl => match us, hl with | [_], _ => rfl
  have F9 := fun_mk (st := s__law_is_int) l9 c9 k9
  have b9 := F9.binds (ps := ["_law_thing"]) fun _ _ _ _ _ _ us hl => match us, hl with | [_], _ => rfl
  have F10 := fun_mk (st := s__law_ints) l10 c10 k10
  have b10 := F10.binds (ps := ["_law_thing", "_law_due"]) fun _ _ _ _ _ _ us hl => match us, hl with | [_, _], _ => rfl
  have F11 := fun_mk (st := s__law_some) l11 c11 k11
  have b11 := F11.binds (ps := ["_law_bag_here", "_law_names", "_law_many"]) fun _ _ _ _ _ _ us hl => match us, hl with | [_, _, _], _ => rfl
  have F12 := fun_mk (st := s__law_truth) l12 c12 k12
  have b12 := F12.binds (ps := ["_law_thing", "_law_due"]) fun _ _ _ _ _ _ us hl => match us, hl with | [_, _], _ => rfl
  have F13 := fun_mk (st := s_law) l13 c13 k13
  refine ⟨PySem.W.fnOf "law" "law" (defArgs s_law) (defBody s_law) (defScope s_law) .none kV13 dc13 pm13 an13 cd13 ct13, fun s v => .of_eq rfl, fun base _ _ => ?_⟩
  have m0 : C8.Cal l.prog w K mg base 1 "_law_bag" (spBag K) [] := ⟨_, _, _, [], ok_bag F0 B, PySem.W.mg_of X G g0, k0, b0, .nil⟩
  have m1 : C8.Cal l.prog w K mg base 1 "_law_mixed" spMixed [] := ⟨_, _, _, [], ok_mixed F1 B, PySem.W.mg_of X G g1, k1, b1, .nil⟩
  have m2 : C8.Cal l.prog w K mg base 2 "_law_take" spTake [] := ⟨_, _, _, [], ok_take F2 B m1, PySem.W.mg_of X G g2, k2, b2, .nil⟩
  have m3 : C8.Cal l.prog w K mg base 3 "_law_pitch" spPitch [] := ⟨_, _, _, [], ok_pitch F3 m2, PySem.W.mg_of X G g3, k3, b3, .nil⟩
  have m4 : C8.Cal l.prog w K mg base 1 "sums" (spTwo K Far.sumsL) [] := ⟨_, _, _, [], ok_sums F4 T, PySem.W.mg_of X G g4, k4, b4, .nil⟩
  have m5 : C8.Cal l.prog w K mg base 1 "differences" (spTwo K Far.diffL) [] := ⟨_, _, _, [], ok_differences F5 T, PySem.W.mg_of X G g5, k5, b5, .nil⟩
  have m6 : C8.Cal l.prog w K mg base 1 "beats_of" (spFar K) [] := ⟨_, _, _, [], ok_beats_of F6 T, PySem.W.mg_of X G g6, k6, b6, .nil⟩
  have m7 : C8.Cal l.prog w K mg base 2 "alike_in_beats" (spAlike K) [] := ⟨_, _, _, [], ok_alike F7 m6, PySem.W.mg_of X G g7, k7, b7, .nil⟩
  have m8 : C8.Cal l.prog w K mg base 1 "_law_far_all" (spFarL K) [] := ⟨_, _, _, [], ok_far_all F8 T, PySem.W.mg_of X G g8, k8, b8, .nil⟩
  have m9 : C8.Cal l.prog w K mg base 1 "_law_is_int" spIsInt [] := ⟨_, _, _, [], ok_is_int F9 T, PySem.W.mg_of X G g9, k9, b9, .nil⟩
  have m10 : C8.Cal l.prog w K mg base 2 "_law_ints" spInts [] := ⟨_, _, _, [], ok_ints F10 T m9, PySem.W.mg_of X G g10, k10, b10, .nil⟩
  have m11 : C8.Cal l.prog w K mg base 3 "_law_some" (spSome K) [] := ⟨_, _, _, [], ok_some F11 T2 m2, PySem.W.mg_of X G g11, k11, b11, .nil⟩
  have m12 : C8.Cal l.prog w K mg base 1 "_law_truth" spTruth [] := ⟨_, _, _, [], ok_truth F12 T2, PySem.W.mg_of X G g12, k12, b12, .nil⟩
  exact ok_law F13 T2 m0 m2 m3 m4 m5 m6 m7 m8 m10 m11 m12
end Fk

open PySem PySem.W PyProof.Rows
set_option maxHeartbeats 0
open_top head for PySem.Challenge.rw_forkbeats_k69_beats_of
theorem PySem.Challenge.cw_forkbeats_k69_beats_of_holds : PySem.Challenge.rw_forkbeats_k69_beats_of.Holds := by
  refine head ?_
  k_fill
  refine L2.walk_of (l := PySem.Challenge.rw_forkbeats_k69_beats_of) (n := 63) (k := 4) (x := "_law_script") (CX := fun _ => L2.CX0) (sp := fun w => Fk.spLaw _) rfl (by decide) rfl ⟨rfl, by decide, by decide⟩ (fun w h Y => PySem.W.kIn_of Y) ?F (fun _ _ a ns hl _ hS => ⟨a, ns, rfl, hS, hl, fun _ => rfl⟩) fun _ _ _ _ _ z => z
  case F =>
    intro w mg fa h KX G hmg
    refine' Fk.all_mk KX G hmg ?g0 ?l0 ?c0 ?k0 ?g1 ?l1 ?c1 ?k1 ?g2 ?l2 ?c2 ?k2 ?g3 ?l3 ?c3 ?k3 ?g4 ?l4 ?c4 ?k4 ?g5 ?l5 ?c5 ?k5 ?g6 ?l6 ?c6 ?k6 ?g7 ?l7 ?c7 ?k7 ?g8 ?l8 ?c8 ?k8 ?g9 ?l9 ?c9 ?k9 ?g10 ?l10 ?c10 ?k10 ?g11 ?l11 ?c11 ?k11 ?g12 ?l12 ?c12 ?k12 ?g13 ?l13 ?c13 ?k13 ?y0 ?y1 ?y2 ?y3 ?y4 ?y5 ?y6 ?y7 ?y8 ?y9 ?y10 ?y11 ?y12
    (case g0 => k_is); (case l0 => k_is); (case c0 => k_is); (case k0 => k_is)
    (case g1 => k_is); (case l1 => k_is); (case c1 => k_is); (case k1 => k_is)
    (case g2 => k_is); (case l2 => k_is); (case c2 => k_is); (case k2 => k_is)
    (case g3 => k_is); (case l3 => k_is); (case c3 => k_is); (case k3 => k_is)
    (case g4 => k_is); (case l4 => k_is); (case c4 => k_is); (case k4 => k_is)
    (case g5 => k_is); (case l5 => k_is); (case c5 => k_is); (case k5 => k_is)
    (case g6 => k_is); (case l6 => k_is); (case c6 => k_is); (case k6 => k_is)
    (case g7 => k_is); (case l7 => k_is); (case c7 => k_is); (case k7 => k_is)
    (case g8 => k_is); (case l8 => k_is); (case c8 => k_is); (case k8 => k_is)
    (case g9 => k_is); (case l9 => k_is); (case c9 => k_is); (case k9 => k_is)
    (case g10 => k_is); (case l10 => k_is); (case c10 => k_is); (case k10 => k_is)
    (case g11 => k_is); (case l11 => k_is); (case c11 => k_is); (case k11 => k_is)
    (case g12 => k_is); (case l12 => k_is); (case c12 => k_is); (case k12 => k_is)
    (case g13 => k_is); (case l13 => k_is); (case c13 => k_is); (case k13 => k_is)
    (case y0 => k_is); (case y1 => k_is); (case y2 => k_is); (case y3 => k_is); (case y4 => k_is); (case y5 => k_is); (case y6 => k_is); (case y7 => k_is); (case y8 => k_is); (case y9 => k_is); (case y10 => k_is); (case y11 => k_is); (case y12 => k_is)
#print axioms PySem.Challenge.cw_forkbeats_k69_beats_of_holds
