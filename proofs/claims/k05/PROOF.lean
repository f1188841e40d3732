import PyProof.Rows.All
import Wide.All
import OpenK.AllK
import Wide.FinOn
import HandS.ForMost
import HandS.Flow
import HandS.IsInst
import HandS.Property
import HandS.ClsMeth
import HandS.Conv
import HandS.DictComp
import HandS.SetBool
import HandS.SetKeys
import HandS.Defaults
import HandS.Wide
import HandS.Strs
import HandS.Zip
import HandS.OwnEq
import HandS.Walk
import KE.SortKeyed
import KE.DataCmp
import HandS.SortRule
import HandS.DeepEq
import KE.GoesMore
import HandS.Iter
import PySem.Challenge.RW_asksold_k05_what_looks_see
import HandS.Exc
import HandS.TryOnly
import HandS.Lambda
import HandS.ExcIs
import HandS.CallSlots
import HandS.ExcOwn
import HandS.WordsExc
import PyProof.Rows.CountFlat
import HandS.TupMul
import KE.KNestM
import HandS.EndTab
set_option Elab.async false
set_option linter.all false
set_option maxRecDepth 100000
/-! ## A0 -/
namespace As
open PySem PySem.Spec PyProof.Rows L2

theorem ps_dead {X : Cx} {st : Stmt} : PS X st tNever := ⟨fun _ _ _ _ _ _ h => h.elim⟩

/-! heaps -/
theorem same_new {H : Hp} {p : Addr} {o : HO} (h : H p = none) : Same H (upd H p o) := fun b u e => by
  rw [upd_ne (ne_of_none e h)]; exact e
theorem same_new' {B H : Hp} {p : Addr} {o : HO} (e : Same B H) (h : H p = none) : Same B (upd H p o) := e.trans (same_new h)
/-- a place that B does not know may change -/
theorem same_mut {B H : Hp} {p : Addr} {o : HO} (e : Same B H) (h : B p = none) : Same B (upd H p o) := fun b u q => by
  rw [upd_ne (ne_of_none q h)]; exact e b u q
theorem same_t {K : PySem.W.Frag} {H H' : Hp} {a : Addr} {xs : List V} (e : Same H H') (h : SqT K H a xs) : SqT K H' a xs := by
  rcases h with (h | ⟨o, h⟩) | h
  · exact .inl (.inl (e _ _ h))
  · exact .inl (.inr ⟨o, e _ _ h⟩)
  · exact .inr h
theorem tof {K : PySem.W.Frag} {H : Hp} {a : Addr} {xs : List V} (h : H a = some (.tup xs)) : SqT K H a xs := .inl (.inl h)
theorem lof {K : PySem.W.Frag} {H : Hp} {a : Addr} {xs : List V} (h : H a = some (.lst xs)) : SqL K H a xs := .inl (.inl h)
def rem (B : Hp) (f : Addr) : Hp := fun b => if b = f then none else B b
theorem rem_self {B : Hp} {f : Addr} : rem B f f = none := if_pos rfl
theorem rem_ne {B : Hp} {f b : Addr} (h : b ≠ f) : rem B f b = B b := if_neg h
theorem same_rem {B : Hp} {f : Addr} : Same (rem B f) B := fun b o e => by
  by_cases h : b = f
  · subst h; rw [rem_self] at e; cases e
  · rw [rem_ne h] at e; exact e
theorem same_into_rem {A B : Hp} {f : Addr} (e : Same A B) (h : A f = none) : Same A (rem B f) := fun b o q => by
  rw [rem_ne (ne_of_none q h)]; exact e b o q

/-! the source of draws -/
/-- the list at a is [cells, index, hash], its cells at c -/
def StAt (H : Hp) (a c : Addr) : Prop := ∃ (i h : Int) (cs : List Int), a ≠ c ∧ H a = some (.lst [.ref c, .int i, .int h]) ∧ H c = some (.lst (cs.map V.int)) ∧ 0 < cs.length ∧ cs.length ≤ 63 ∧ 0 ≤ h ∧ h < 2147483647
/-- all stands but the source of draws -/
def Fr (a c : Addr) (H H' : Hp) : Prop := ∀ b o, b ≠ a → b ≠ c → H b = some o → H' b = some o
/-- B is known to stand for good; the source of draws is none of it -/
structure Gd (a c : Addr) (B H : Hp) : Prop where
  ex : Same B H
  na : B a = none
  nc : B c = none
  st : StAt H a c
theorem StAt.same {H H' : Hp} {a c : Addr} (h : StAt H a c) (e : Same H H') : StAt H' a c := by
  obtain ⟨i, z, cs, n, h1, h2, r⟩ := h
  exact ⟨i, z, cs, n, e _ _ h1, e _ _ h2, r⟩
theorem StAt.a_ne {H : Hp} {a c b : Addr} (h : StAt H a c) (hb : H b = none) : b ≠ a := by
  obtain ⟨i, z, cs, n, h1, h2, r⟩ := h
  exact (ne_of_none h1 hb).symm
theorem StAt.c_ne {H : Hp} {a c b : Addr} (h : StAt H a c) (hb : H b = none) : b ≠ c := by
  obtain ⟨i, z, cs, n, h1, h2, r⟩ := h
  exact (ne_of_none h2 hb).symm
namespace Gd
variable {a c : Addr} {B B' H H' : Hp}
theorem same (g : Gd a c B H) (e : Same H H') : Gd a c B H' := ⟨g.ex.trans e, g.na, g.nc, g.st.same e⟩
theorem fr (g : Gd a c B H) (f : Fr a c H H') (s : StAt H' a c) : Gd a c B H' :=
  ⟨fun b o e => f b o (ne_of_none e g.na) (ne_of_none e g.nc) (g.ex b o e), g.na, g.nc, s⟩
theorem new (g : Gd a c B H) {p : Addr} {o : HO} (h : H p = none) : Gd a c B (upd H p o) := g.same (same_new h)
/-- the new object is known from then on -/
theorem add (g : Gd a c B H) {p : Addr} {o : HO} (h : H p = none) : Gd a c (upd B p o) (upd H p o) := by
  refine ⟨fun b u e => ?_, ?_, ?_, g.st.same (same_new h)⟩
  · by_cases q : b = p
    · subst q; rw [upd_same] at e ⊢; exact e
    · rw [upd_ne q] at e ⊢; exact g.ex b u e
  · rw [upd_ne (g.st.a_ne h).symm]; exact g.na
  · rw [upd_ne (g.st.c_ne h).symm]; exact g.nc
/-- what stands is told of -/
theorem know (g : Gd a c B H) {p : Addr} {o : HO} (h : H p = some o) (h1 : p ≠ a) (h2 : p ≠ c) : Gd a c (upd B p o) H := by
  refine ⟨fun b u e => ?_, ?_, ?_, g.st⟩
  · by_cases q : b = p
    · subst q; rw [upd_same] at e; rw [h]; exact e
    · rw [upd_ne q] at e; exact g.ex b u e
  · rw [upd_ne h1.symm]; exact g.na
  · rw [upd_ne h2.symm]; exact g.nc
theorem less (g : Gd a c B H) (e : Same B' B) : Gd a c B' H := by
  refine ⟨e.trans g.ex, ?_, ?_, g.st⟩
  · cases q : B' a with
    | none => rfl
    | some o => have := e _ _ q; rw [g.na] at this; cases this
  · cases q : B' c with
    | none => rfl
    | some o => have := e _ _ q; rw [g.nc] at this; cases this
/-- an object that is not told of is changed -/
theorem chg (g : Gd a c B H) {p : Addr} {o : HO} (h : B p = none) (h1 : p ≠ a) (h2 : p ≠ c) : Gd a c B (upd H p o) := by
  refine ⟨same_mut g.ex h, g.na, g.nc, ?_⟩
  obtain ⟨i, z, cs, n, e1, e2, r⟩ := g.st
  exact ⟨i, z, cs, n, by rw [upd_ne h1.symm]; exact e1, by rw [upd_ne h2.symm]; exact e2, r⟩
theorem free (g : Gd a c B H) {p : Addr} (h : H p = none) : B p = none := g.ex.free h
theorem ne_a (g : Gd a c B H) {p : Addr} (h : H p = none) : p ≠ a := g.st.a_ne h
theorem ne_c (g : Gd a c B H) {p : Addr} (h : H p = none) : p ≠ c := g.st.c_ne h
end Gd
end As

/-! ## A1 -/
namespace As
open PySem PySem.Spec PyProof.Rows L2

/-- a comprehension that only reads: item x gives f x, or is left out -/
theorem lc_same {J : It} {n : Nat} {G : Hp → Prop} {xs : List V} {g : TG} {tt : TT} {te : TE} {vs : List Nat} {σ : L2.St} {H1 B : Hp} {D : Addr} {Qd : Hp → Prop}
    (w : Walk J n G (YAt xs)) (hn : n = xs.length) (s0 : Same B H1) (hD : H1 D = none) (hG : ∀ H, Same B H → G H) (hl : xs.length < sizeLine) (f : V → Option V)
    (hs : ∀ x H (Q1 : VK) (Q2 : Hp → Prop), x ∈ xs → Same B H → (∀ y H4, f x = some y → Same H H4 → Q1 y H4) → (∀ H3, f x = none → Same H H3 → Q2 H3) →
      g x (wipe σ vs) H fun σ2 H2 => wipe σ2 vs = wipe σ vs ∧ tt σ2 H2 fun b H3 => if b = true then te σ2 H3 Q1 else Q2 H3)
    (hd : ∀ H', Same H1 H' → H' D = some (.lst (xs.filterMap f)) → Qd H') :
    ∃ W : Nat → Nat → Hp → Prop, (∃ m, W 0 m (upd H1 D (.lst []))) ∧ ∀ i m H, W i m H →
      (J.stop i H ∧ Qd H) ∨ (J.go i H ∧ ∃ Nx : Hp → Prop, (∀ H', Nx H' → ∃ m', m' < m ∧ W (i + 1) m' H') ∧ ∀ x H', J.yld i H x H' → g x (wipe σ vs) H' fun σ2 H2 => wipe σ2 vs = wipe σ vs ∧ tt σ2 H2 fun b H3 =>
        if b = true then te σ2 H3 fun y H4 => ∃ acc, H4 D = some (.lst acc) ∧ acc.length < sizeLine ∧ Nx (upd H4 D (.lst (acc ++ [y]))) else Nx H3) := by
  subst hn
  refine lc_it w (fun i H => Same H1 H ∧ H D = some (.lst ((xs.take i).filterMap f))) ⟨same_new hD, by rw [upd_same]; rfl⟩ (fun i H _ p => hG H (s0.trans p.1)) (fun i x H H' hi p y => ?_) (fun H p => hd H p.1 (by rw [p.2, List.take_length]))
  obtain ⟨rfl, hx⟩ := y
  have hm : x ∈ xs := List.mem_of_getElem? hx
  have ht : xs.take (i + 1) = xs.take i ++ [x] := by
    rw [List.take_succ, hx]; rfl
  refine hs x H' _ _ hm (s0.trans p.1) (fun y H4 e s4 => ⟨_, s4 _ _ p.2, ?_, ?_, ?_⟩) (fun H3 e s3 => ⟨p.1.trans s3, ?_⟩)
  · have a1 := List.length_filterMap_le f (xs.take i)
    have a2 := List.length_take_le i xs
    omega
  · exact same_mut (p.1.trans s4) hD
  · rw [upd_same, ht, List.filterMap_append, List.filterMap_cons, e]; rfl
  · rw [s3 _ _ p.2, ht, List.filterMap_append, List.filterMap_cons, e]; simp

/-- a comprehension whose turns draw: P tells what is made so far -/
theorem lc_draw {J : It} {n : Nat} {G : Hp → Prop} {xs : Nat → V} {g : TG} {tt : TT} {te : TE} {vs : List Nat} {σ : L2.St} {H1 B : Hp} {D a c : Addr} {Qd : Hp → Prop}
    (w : Walk J n G (YFn xs)) (g0 : Gd a c B H1) (hD : H1 D = none) (hG : ∀ B' H, Same B B' → Gd a c B' H → G H) (hl : n < sizeLine) (P : Nat → List V → Hp → Prop)
    (h0 : P 0 [] B) (hP : ∀ i acc acc0 B', P i acc B' → B' D = some (.lst acc0) → P i acc (rem B' D)) (hlen : ∀ i acc B', P i acc B' → acc.length ≤ i)
    (hs : ∀ i H B' acc (Q1 : VK) (Q2 : Hp → Prop), i < n → Same B B' → Gd a c B' H → P i acc (rem B' D) → B' D = some (.lst acc) →
      (∀ y H4 B4, Same B' B4 → Gd a c B4 H4 → P (i + 1) (acc ++ [y]) B4 → Q1 y H4) → (∀ H3 B3, Same B' B3 → Gd a c B3 H3 → P (i + 1) acc B3 → Q2 H3) →
      g (xs i) (wipe σ vs) H fun σ2 H2 => wipe σ2 vs = wipe σ vs ∧ tt σ2 H2 fun b H3 => if b = true then te σ2 H3 Q1 else Q2 H3)
    (hd : ∀ H' B' acc, Same B B' → Gd a c B' H' → B' D = some (.lst acc) → P n acc (rem B' D) → Qd H') :
    ∃ W : Nat → Nat → Hp → Prop, (∃ m, W 0 m (upd H1 D (.lst []))) ∧ ∀ i m H, W i m H →
      (J.stop i H ∧ Qd H) ∨ (J.go i H ∧ ∃ Nx : Hp → Prop, (∀ H', Nx H' → ∃ m', m' < m ∧ W (i + 1) m' H') ∧ ∀ x H', J.yld i H x H' → g x (wipe σ vs) H' fun σ2 H2 => wipe σ2 vs = wipe σ vs ∧ tt σ2 H2 fun b H3 =>
        if b = true then te σ2 H3 fun y H4 => ∃ acc, H4 D = some (.lst acc) ∧ acc.length < sizeLine ∧ Nx (upd H4 D (.lst (acc ++ [y]))) else Nx H3) := by
  have bD : B D = none := g0.free hD
  have na := g0.ne_a hD
  have nc := g0.ne_c hD
  -- the invariant: what is known but for the list at D, and the list
  refine lc_it w (fun i H => ∃ B' acc, Same B B' ∧ B' D = none ∧ Gd a c B' H ∧ H D = some (.lst acc) ∧ P i acc B') ⟨B, [], fun _ _ e => e, bD, g0.chg bD na nc |>.less (fun _ _ e => e), upd_same, h0⟩
    (fun i H _ ⟨B', acc, s, _, gd, _, _⟩ => hG B' H s gd) (fun i x H H' hi p y => ?_) (fun H p => ?_)
  · obtain ⟨rfl, rfl⟩ := y
    obtain ⟨B', acc, s, bn, gd, hd', p⟩ := p
    have rD : rem (upd B' D (.lst acc)) D = B' := by
      funext b
      by_cases e : b = D
      · subst e; rw [rem_self, bn]
      · rw [rem_ne e, upd_ne e]
    refine hs i H' (upd B' D (.lst acc)) acc _ _ hi (same_new' s bn) (gd.know hd' na nc) (by rw [rD]; exact p) upd_same (fun y H4 B4 s4 g4 p4 => ?_) (fun H3 B3 s3 g3 p3 => ?_)
    · have b4 : B4 D = some (.lst acc) := s4 _ _ upd_same
      have e4 : H4 D = some (.lst acc) := g4.ex _ _ b4
      have h1 := hlen _ _ _ p4
      rw [List.length_append] at h1
      have h2 : acc.length < sizeLine := by simp at h1; omega
      refine ⟨acc, e4, h2, rem B4 D, acc ++ [y], same_into_rem (s.trans ((same_new bn).trans s4)) bD, rem_self, ?_, upd_same, hP _ _ _ _ p4 b4⟩
      exact (g4.less same_rem).chg rem_self na nc
    · have b3 : B3 D = some (.lst acc) := s3 _ _ upd_same
      exact ⟨rem B3 D, acc, same_into_rem (s.trans ((same_new bn).trans s3)) bD, rem_self, g3.less same_rem, g3.ex _ _ b3, hP _ _ _ _ p3 b3⟩
  · obtain ⟨B', acc, s, bn, gd, hd', p⟩ := p
    have rD : rem (upd B' D (.lst acc)) D = B' := by
      funext b
      by_cases e : b = D
      · subst e; rw [rem_self, bn]
      · rw [rem_ne e, upd_ne e]
    exact hd H (upd B' D (.lst acc)) acc (same_new' s bn) (gd.know hd' na nc) upd_same (by rw [rD]; exact p)
/-- a list's items by place -/
theorem walk_at {K : PySem.W.Frag} {a : Addr} {xs : List V} (d : V) : Walk (Itl K a) xs.length (fun H => SqL K H a xs) (YFn fun i => xs.getD i d) :=
  walk_list.mono (fun _ h => h) fun i H x H' hi _ y => ⟨y.1, by show x = xs.getD i d; rw [List.getD_eq_getElem?_getD, y.2]; rfl⟩
end As

/-! ## A2 -/
namespace As
open PySem PySem.Spec PyProof.Rows L2
/-- a def of the top, as it stands -/
structure Df (K : PySem.W.Frag) (mg : Str → Option Value) (x : Str) (st : Stmt) (ps : List Str) (f : Addr) (fd : FuncData) : Prop where
  F : Fun K x x st f fd
  m : mg x = some (.ref f)
  b : Binds K fd ps []
/-- what the program reads of the module and the built-ins -/
structure Bi (mg : Str → Option Value) : Prop where
  isinst : mg "isinstance" = none
  len : mg "len" = none
  all : mg "all" = none
  list : mg "list" = none
  tuple : mg "tuple" = none
  range : mg "range" = none
  abs : mg "abs" = none
  min : mg "min" = none
  int : mg "int" = none
  bool : mg "bool" = none
  str : mg "str" = none
  sorted : mg "sorted" = none
  dict : mg "dict" = none
section
variable {X : Cx} {sp : Sp} {x : Str} {f : Addr} {fd : FuncData} {ps : List Str} {k : Nat} {st : Stmt} {p pos : Pos} {e : Expr} {es : List Expr} {t : TA}
theorem pcall (D : Df X.K X.mg x st ps f fd) (G : FnOk X.prog X.w X.K X.mg X.base CX0 k f fd ps sp) (hr : Room k X.A) (ha : PA X (e :: es) t) (hg : Gl X x := by rfl)
    (he : starEach (e :: es) X.env = (false, eval e X.env) :: starEach es X.env := by rfl) (hpl : (backTo pos (starEach es X.env)).any (·.1) = false := by rfl) (hdb : (x == ("__debug__" : Str)) = false := by decide) :
    PE X (.Call (.Name x p) (e :: es) [] pos) (tCall sp [] E0 t) := pe_call G hr hg D.m D.F.kp D.b .nil pass0 ha (he := he) (hpl := hpl) (hdb := hdb)
end
theorem hu64 {A : Around} {k : Nat} (hr : Room k A) : A.units + 64 < cLine := by have := hr.un; omega
/-- which of two built-in types -/
theorem kint_int {K : PySem.W.Frag} : PySem.W.kitOne K (.type "int") (.type "int") = some true := kit_ty (by decide +kernel)
theorem kint_bool {K : PySem.W.Frag} : PySem.W.kitOne K (.type "int") (.type "bool") = some false := kit_ty (by decide +kernel)
theorem kstr_str {K : PySem.W.Frag} : PySem.W.kitOne K (.type "str") (.type "str") = some true := kit_ty (by decide +kernel)
theorem ktup_tup {K : PySem.W.Frag} : PySem.W.kitOne K (.type "tuple") (.type "tuple") = some true := kit_ty (by decide +kernel)
theorem ktup_list {K : PySem.W.Frag} : PySem.W.kitOne K (.type "tuple") (.type "list") = some false := kit_ty (by decide +kernel)
theorem klist_list {K : PySem.W.Frag} : PySem.W.kitOne K (.type "list") (.type "list") = some true := kit_ty (by decide +kernel)
end As
namespace As
open PySem PySem.Spec PyProof.Rows L2
/-! texts sign by sign -/
def signs (z : Str) : List V := z.cps.toList.map fun c => V.str ⟨#[c]⟩
theorem signs_length {z : Str} : (signs z).length = z.cps.size := by unfold signs; rw [List.length_map, Array.length_toList]
theorem walk_sign {z : Str} : Walk (Its z) z.cps.size (fun _ => True) (YAt (signs z)) :=
  walk_str.mono (fun _ h => h) fun i H v H' _ _ y => by
    obtain ⟨e, c, hc, rfl⟩ := y
    refine ⟨e, ?_⟩
    unfold signs
    rw [List.getElem?_map, Array.getElem?_toList, hc]
    rfl
theorem one_le {c d : Nat} : (!decide (([c] : List Nat) < [d])) = decide (d ≤ c) := by
  have h : ([c] < [d]) ↔ c < d := by
    constructor
    · intro h
      cases h with
      | rel h => exact h
      | cons h => cases h
    · intro h; exact List.Lex.rel h
  by_cases q : d ≤ c
  · rw [decide_eq_true q, decide_eq_false (fun z => by have := h.mp z; omega)]; rfl
  · rw [decide_eq_false q, decide_eq_true (h.mpr (by omega))]; rfl
def letter (c : Nat) : Bool := decide (97 ≤ c) && decide (c ≤ 122)
def nameB (z : Str) : Bool := decide (1 ≤ z.length ∧ z.length ≤ 8) && z.cps.toList.all letter
theorem str_len {z : Str} : z.length = z.cps.size := rfl
theorem all_map {α : Type} {f : α → Bool} : ∀ {l : List α}, (l.map f).all id = l.all f
  | [] => rfl
  | a :: r => by rw [List.map_cons, List.all_cons, List.all_cons, all_map]; rfl
theorem filterMap_some {α β : Type} {f : α → β} {l : List α} : l.filterMap (fun x => some (f x)) = l.map f := by
  induction l with
  | nil => rfl
  | cons a r ih => rw [List.filterMap_cons, List.map_cons, ih]
end As
namespace As
theorem filterMap_same {α β : Type} {f g : α → Option β} : ∀ {l : List α}, (∀ x ∈ l, f x = g x) → l.filterMap f = l.filterMap g
  | [], _ => rfl
  | a :: r, h => by rw [List.filterMap_cons, List.filterMap_cons, h a List.mem_cons_self, filterMap_same fun x hx => h x (List.mem_cons_of_mem _ hx)]
end As

/-! ## A3 -/
set_option maxHeartbeats 2000000
namespace As
open PySem PySem.Spec PyProof.Rows L2
/-- an iteration served by one of two rules -/
theorem pi_either {X : Cx} {tg e : Expr} {w1 w2 : TI} (h1 : PI X tg e w1) (h2 : PI X tg e w2) : PI X tg e (fun σ H R => w1 σ H R ∨ w2 σ H R) :=
  ⟨fun pins s σ H R I h => h.elim (fun q => h1.run pins s σ H R I q) fun q => h2.run pins s σ H R I q⟩

/-- {elt for target in iter if ..} of texts and ints: the set grows by the key k -/
def ScTurn (P : Program) (w : World) (D : Addr) (Nx : Hp → Prop) (y : V) (H : Hp) : Prop :=
  ∃ (k : Key) (S : Key → Bool) (n : Nat), y = kV k ∧ H D = some (SetK P w D S n) ∧ n + 1 < scanBound ∧ Nx (upd H D (SetK P w D (fun j => S j || decide (j = k)) (if S k = true then n else n + 1)))
def tScK (P : Program) (w : World) (wi : TI) (g : TG) (tt : TT) (te : TE) (vs : List Nat) : TE := fun σ H Q => wi σ H fun J H1 => ∀ D, H1 D = none →
  ∃ W : Nat → Nat → Hp → Prop, (∃ m, W 0 m (upd H1 D (SetK P w D (fun _ => false) 0))) ∧ ∀ i m H, W i m H → (J.stop i H ∧ Q (.ref D) H) ∨ (J.go i H ∧ ∃ Nx : Hp → Prop, (∀ H', Nx H' → ∃ m', m' < m ∧ W (i + 1) m' H') ∧
    ∀ x H', J.yld i H x H' → g x (wipe σ vs) H' fun σ2 H2 => wipe σ2 vs = wipe σ vs ∧ tt σ2 H2 fun b H3 => if b = true then te σ2 H3 (ScTurn P w D Nx) else Nx H3)

theorem setK_fresh {P : Program} {w : World} {h : Heap} : (h.push { cls := .type "set", dict := none, data := .set #[] 0 (.fresh 0 0 (!w.params.followText "set-order")) }).SetOf (mixKind P w) h.objs.size (fun _ => false) 0 :=
  ⟨_, #[], 0, _, Heap.get?_push_size h rfl, ⟨rfl, rfl, rfl⟩, rfl, (fun e he => by simp at he), (fun k => by simp), (by decide), (by rfl), rfl⟩

theorem addK_ok {X : Cx} {pins : List (Addr × Obj)} {σ : L2.St} {H : Hp} {s : Shared} {E : Value → Shared → Prop} {D : Addr} {S : Key → Bool} {n : Nat} {k : Key} {u : Value} {Q : Value → Shared → Prop} (I : Inv X pins σ H s) (r : RelV (kV k) u)
    (hD : H D = some (SetK X.prog X.w D S n)) (room : n + 1 < scanBound) (q : ∀ s', Inv X pins σ (upd H D (SetK X.prog X.w D (fun j => S j || decide (j = k)) (if S k = true then n else n + 1))) s' → Q .none s') :
    wpAny (model X.prog X.w) X.A (call (.builtin "set.add") [.ref D, u]) Q E s := by
  refine call_set_add (kV_is r) (key_scan r) (setK_get I hD) room fun h' sb new => q _ ?_
  have ⟨o, _, _, _, ho, _⟩ := new
  exact I.write (e := D) (t' := s.toks + 1) (by rw [hD]; trivial) (.inl rfl) (fun b u hb hu => (sb.2 b hb).trans hu) ⟨o, ho⟩ (setK_new new)

section
variable {X : Cx}
theorem pe_scK {elt tg iter : Expr} {ifs : List Expr} {scope : Scope} {own : List (Str × Nat)} {pos : Pos} {wi : TI} {g : TG} {tt : TT} {te : TE} (calm : X.calm = true) (nd : X.N.Nodup) (hi : PI X tg iter wi) (ok : BlkOk X.N X.env.scope scope own)
    (G : ∀ s H C cl fp, PG (X.blk s H scope (compEnvC scope cl C X.env) fp) tg g) (T : ∀ s H C cl fp, PTs (X.blk s H scope (compEnvC scope cl C X.env) fp) ifs tt)
    (V : ∀ s H C cl fp, PE (X.blk s H scope (compEnvC scope cl C X.env) fp) elt te) (folds : ∀ x, foldedSetIterable iter X.env x = pure x := by intro _; rfl) :
    PE X (.SetComp elt [⟨tg, iter, ifs, 0⟩] scope pos) (tScK X.prog X.w wi g tt te (own.map (·.2))) := by
  refine ⟨fun pins s σ H Q I h => ?_⟩
  rw [PpSet.eval_SetComp]
  have frees : ∀ y ∈ scope.names, y.2 = .free → ∃ c, X.env.cells.lookup y.1 = some c := fun y hy e => (ok.free y hy e).elim (fun k => I.ok.has _ (.inl k)) fun k => I.ok.has _ (.inr k)
  refine wpAny_comprehension_free rfl folds (closure_ok frees) ok.kind (fun y hy e => by rw [ok.uniq y hy, e]) (thn (hi.run pins s σ H _ I h) fun xv s1 hx => thn hx fun itv s2 h2 => ?_)
  obtain ⟨it, fp, tn, J, H2, rfl, I2, walk, at2, free2, q⟩ := h2
  refine PpSet.newSet_ok (newEnv_comp ?_)
  -- D: the place of the new set
  obtain ⟨D, hD⟩ : ∃ D, s2.heap.objs.size = D := ⟨_, rfl⟩
  obtain ⟨W, ⟨m0, w0⟩, turn⟩ := q D (I2.hok.fresh (Nat.le_of_eq hD))
  obtain ⟨H3, eH3⟩ : ∃ H3, upd H2 D (SetK X.prog X.w D (fun _ => false) 0) = H3 := ⟨_, rfl⟩
  obtain ⟨s3, e3⟩ : ∃ s3 : Shared, ({ s2 with heap := s2.heap.push { cls := .type "set", dict := none, data := .set #[] 0 (.fresh 0 0 (!X.w.params.followText "set-order")) } } : Shared) = s3 := ⟨_, rfl⟩
  have I3 : Inv X pins σ H3 s3 := by
    subst e3 eH3
    refine I2.laid (t' := s2.toks) (fun b o e => Heap.get?_push_of_some _ e) (Nat.le_of_eq hD) ?_
    subst hD
    exact setK_new setK_fresh
  have grow : ∀ b o, s2.heap.get? b = some o → s3.heap.get? b = some o := fun b o e => by subst e3; exact Heap.get?_push_of_some _ e
  have in3 : ∀ b ∈ fp, b < s2.heap.objs.size ∧ b < s3.heap.objs.size := fun b hb => by
    obtain ⟨o, e, _⟩ := walk.obj _ _ at2 b hb
    exact ⟨Heap.lt_size e, Heap.lt_size (grow b o e)⟩
  have free3 : ∀ b ∈ fp, FpOk X pins H3 b ∧ b < s3.heap.objs.size := fun b hb => by
    refine ⟨⟨?_, (free2 b hb).2⟩, (in3 b hb).2⟩
    rw [← eH3, upd_ne (by rw [← hD]; exact Nat.ne_of_lt (in3 b hb).1)]
    exact (free2 b hb).1
  have at3 : tn 0 s3.heap := walk.keep _ _ _ at2 fun b _ o e => grow b o e
  have I4 := block_start I3 ok nd free3
  obtain ⟨cl, ecl⟩ : ∃ cl, cellsFrom (s3.heap.objs.size + 1) scope.names (cloFrom X.env.cells scope.names []) = cl := ⟨_, rfl⟩
  rw [ecl] at I4
  have pg := G s3 H3 s3.heap.objs.size cl fp
  have pt := T s3 H3 s3.heap.objs.size cl fp
  have pe := V s3 H3 s3.heap.objs.size cl fp
  rw [eH3] at w0
  have none3 : ∀ b ∈ fp, H3 b = none := fun b hb => (free3 b hb).1.1
  show codeAny _ _ (.compStart (.SetComp elt [⟨tg, iter, ifs, 0⟩] scope pos) 0 (.ref it) (.ref s2.heap.objs.size) _) _ _
  rw [e3, hD, ecl]
  show codeAny _ _ (.compStart _ 0 (.ref it) (.ref D) (compEnvC scope cl s3.heap.objs.size X.env)) (compPost (model X.prog X.w) X.A X.xe none (EP X pins σ Q) (.ref D) s3.heap.objs.size)
    ({ s3 with heap := pushCells (s3.heap.push { cls := .type "dict", data := .dict #[] }) scope.names } : Shared)
  obtain ⟨ce, ece⟩ : ∃ ce, compEnvC scope cl s3.heap.objs.size X.env = ce := ⟨_, rfl⟩
  rw [ece] at I4 pg pt pe ⊢
  have place : ce.locals = s3.heap.objs.size := by rw [← ece]; rfl
  obtain ⟨s4, e4⟩ : ∃ s4 : Shared, ({ s3 with heap := pushCells (s3.heap.push { cls := .type "dict", data := .dict #[] }) scope.names } : Shared) = s4 := ⟨_, rfl⟩
  rw [e4] at I4 ⊢
  have at4 : tn 0 s4.heap := walk.keep _ _ _ at3 fun b _ o e => by rw [← e4]; exact pushCells_keeps _ _ _ _ (Heap.get?_push_of_some _ e)
  have stays : ∀ {σ' : L2.St} {H' : Hp} {s' : Shared}, Inv (X.blk s3 H3 scope ce fp) [] σ' H' s' → (∀ b ∈ fp, H' b = none) → ∀ b ∈ fp, FpOk (X.blk s3 H3 scope ce fp) [] H' b := fun {σ' H' s'} I' hn b hb =>
    ⟨hn b hb, (I'.ok.exf b hb).1, I'.ok.exfs b hb, .inl hb, fun x c e => (I'.ok.exf b hb).2 x c e, fun p hp => absurd (show p ∈ ([] : List (Addr × Obj)) ++ [] from hp) (by simp)⟩
  refine PpSet.codeAny_compStart_set ?loop (walk.self X.A 0 _ _ _ at4 ?loop)
  refine PpSet.compLoopS_any (fun n s' => ∃ i H', Inv (X.blk s3 H3 scope ce fp) [] (wipe σ (own.map (·.2))) H' s' ∧ tn i s'.heap ∧ (∀ b ∈ fp, H' b = none) ∧ W i n H') ?_ m0 ⟨0, H3, I4, at4, none3, w0⟩
  rintro n s5 ⟨i, H5, I5, at5, n5, w5⟩
  rcases turn i n H5 w5 with ⟨stop, qq⟩ | ⟨go, Nx, hNx, step⟩
  · -- no item is left: back in the def
    refine thnF (walk.done (X.blk s3 H3 scope ce fp) rfl rfl rfl calm i [] s5 _ H5 (fun _ _ => False) I5 (stays I5 n5) at5 stop) fun r s6 ⟨hr, I6⟩ => ?_
    subst hr
    have I7 : Inv X pins σ H5 s6 := I3.call' (ch := fp) I6.os I6.base I6.hok I6.bare fun b hb => ⟨(free3 b hb).1.2.2.2.1, (free3 b hb).1.2.1, (free3 b hb).1.2.2.2.2.1, (free3 b hb).1.2.2.2.2.2⟩
    have none5 : H5 s3.heap.objs.size = none := place ▸ (show H5 ce.locals = none from I6.free)
    obtain ⟨m, hn, _⟩ := I6.loc
    have hn : s6.heap.Ns ce.locals m := hn
    rw [place] at hn
    obtain ⟨f0, f1, f2, f3, f4, f5⟩ := I3.fpOk (Nat.le_refl _) none5
    exact ⟨m, hn, fun h'' sb => ⟨.ref D, H5, I7.turned (t' := s6.toks) (fun b o hb e => (sb.2 b hb).trans e) f0 f1 f3 f4 f5, rfl, qq⟩⟩
  · refine thnF (walk.item (X.blk s3 H3 scope ce fp) rfl rfl rfl calm i [] s5 _ H5 (fun _ _ => False) I5 (stays I5 n5) at5 go) fun r s6 ⟨u, hr, h6⟩ => ?_
    subst hr
    refine thnF h6 fun _ s7 ⟨x, H7, I7, r7, y7, at7, n7⟩ => ?_
    refine thnF (pg.run _ s7 _ H7 x u _ (I7.pinned (stays I7 n7) (walk.obj _ _ at7)) r7 (step x H7 y7)) fun _ s8 ⟨σ8, H8, I8, same8, q8⟩ => ?_
    refine thnF (pt.run _ s8 σ8 H8 _ I8 q8) fun b s9 ⟨H9, I9, q9⟩ => ?_
    have next : ∀ {s' : Shared} {H' : Hp}, Inv (X.blk s3 H3 scope ce fp) ([] ++ pinsAt fp s7.heap) σ8 H' s' → Nx H' →
        ∃ m, m < n ∧ ∃ i H', Inv (X.blk s3 H3 scope ce fp) [] (wipe σ (own.map (·.2))) H' s' ∧ tn i s'.heap ∧ (∀ b ∈ fp, H' b = none) ∧ W i m H' := fun {s' H'} I' nx => by
      obtain ⟨m', less, w'⟩ := hNx H' nx
      have pinned : ∀ b ∈ fp, ∀ o, s7.heap.get? b = some o → s'.heap.get? b = some o ∧ H' b = none := fun b hb o e =>
        have z := I'.pin (b, o) (List.mem_append_right _ (List.mem_append_right _ (mem_pinsAt hb e)))
        ⟨z.1, z.2.1⟩
      refine ⟨m', less, i + 1, H', (I'.unpinned (pins := [])).weak (by rw [← same8, wipe_length]) (fun j v e => ?_), walk.keep _ _ _ at7 fun b hb o e => (pinned b hb o e).1, fun b hb => ?_, w'⟩
      · rw [← same8] at e
        exact (wipe_some e).1
      · obtain ⟨o, e, _⟩ := walk.obj _ _ at7 b hb
        exact (pinned b hb o e).2
    cases b with
    | false =>
      simp only [Bool.false_eq_true, if_false] at q9 ⊢
      exact next I9 q9
    | true =>
      simp only [if_true] at q9 ⊢
      refine thnF (pe.run _ s9 σ8 H9 _ I9 q9) fun z s10 ⟨yv, H10, I10, r10, k, S0, n0, ey, atD, room, nx⟩ => ?_
      subst ey
      exact addK_ok (X := X.blk s3 H3 scope ce fp) I10 r10 atD room fun s11 I11 => next I11 nx
end
end As
namespace As
open PySem PySem.Spec PyProof.Rows L2
theorem call_lenK {X : Cx} : CallR X (.builtin "len") (fun xs H Q => ∃ (a : Addr) (S : Key → Bool) (n : Nat), xs = [.ref a] ∧ H a = some (SetK X.prog X.w a S n) ∧ Q (.int n) H) := by
  intro pins s σ H xs us Q I r h
  obtain ⟨a, S, n, rfl, ha, q⟩ := h
  cases r with
  | cons r t =>
    cases t
    cases (show _ = Value.ref a from r)
    obtain ⟨o, es, ep, t, ho, hex, hd, _, _, hb, hf, hn⟩ := setK_get I ha
    have hs : (scanBound : Nat) ≤ 2 ^ 62 := by decide
    exact call_len_set ho hex hd hf (by omega) ⟨.int n, H, I.tok _, ⟨_, by rw [hn]⟩, q⟩

/-- the set comprehension that only reads: keys distinct -/
theorem sc_same {P : Program} {w : World} {J : It} {n : Nat} {G : Hp → Prop} {xs : List V} {g : TG} {tt : TT} {te : TE} {vs : List Nat} {σ : L2.St} {H1 B : Hp} {D : Addr} {Qd : Hp → Prop}
    (wk : Walk J n G (YAt xs)) (hn : n = xs.length) (s0 : Same B H1) (hD : H1 D = none) (hG : ∀ H, Same B H → G H) (hl : xs.length + 1 < scanBound) (f : V → Key) (nd : (xs.map f).Nodup)
    (hs : ∀ x H (Q1 : VK) (Q2 : Hp → Prop), x ∈ xs → Same B H → (∀ H4, Same H H4 → Q1 (kV (f x)) H4) →
      g x (wipe σ vs) H fun σ2 H2 => wipe σ2 vs = wipe σ vs ∧ tt σ2 H2 fun b H3 => if b = true then te σ2 H3 Q1 else Q2 H3)
    (hd : ∀ H' S, Same H1 H' → H' D = some (SetK P w D S xs.length) → Qd H') :
    ∃ W : Nat → Nat → Hp → Prop, (∃ m, W 0 m (upd H1 D (SetK P w D (fun _ => false) 0))) ∧ ∀ i m H, W i m H →
      (J.stop i H ∧ Qd H) ∨ (J.go i H ∧ ∃ Nx : Hp → Prop, (∀ H', Nx H' → ∃ m', m' < m ∧ W (i + 1) m' H') ∧ ∀ x H', J.yld i H x H' → g x (wipe σ vs) H' fun σ2 H2 => wipe σ2 vs = wipe σ vs ∧ tt σ2 H2 fun b H3 =>
        if b = true then te σ2 H3 (ScTurn P w D Nx) else Nx H3) := by
  subst hn
  have main : ∀ i, i ≤ xs.length → ∀ H, (Same H1 H ∧ ∃ S : Key → Bool, H D = some (SetK P w D S i) ∧ ∀ k, S k = true → k ∈ (xs.take i).map f) → True := fun _ _ _ _ => trivial
  refine ⟨fun i m H => m = xs.length - i ∧ i ≤ xs.length ∧ Same H1 H ∧ ∃ S : Key → Bool, H D = some (SetK P w D S i) ∧ ∀ k, S k = true → k ∈ (xs.take i).map f, ⟨_, rfl, Nat.zero_le _, same_new hD, _, upd_same, fun k z => by cases z⟩, ?_⟩
  rintro i m H ⟨rfl, hi, s1, S, hS, hk⟩
  by_cases hlt : i < xs.length
  · refine .inr ⟨wk.goes i H hlt (hG H (s0.trans s1)), fun H' => Same H1 H' ∧ ∃ S : Key → Bool, H' D = some (SetK P w D S (i + 1)) ∧ ∀ k, S k = true → k ∈ (xs.take (i + 1)).map f, fun H' p => ⟨xs.length - (i + 1), by omega, rfl, hlt, p⟩, fun x H' y => ?_⟩
    obtain ⟨rfl, hx⟩ := wk.yields i H x H' hlt (hG H (s0.trans s1)) y
    have ht : xs.take (i + 1) = xs.take i ++ [x] := by rw [List.take_succ, hx]; rfl
    refine hs x H' _ _ (List.mem_of_getElem? hx) (s0.trans s1) fun H4 s4 => ?_
    have new : S (f x) = false := by
      cases e : S (f x) with
      | false => rfl
      | true =>
        have h1 := hk _ e
        have h2 : ((xs.take (i + 1)).map f).Nodup := by
          rw [List.map_take]; exact List.Sublist.nodup (List.take_sublist _ _) nd
        rw [ht, List.map_append, List.nodup_append] at h2
        exact absurd rfl (h2.2.2 _ h1 (f x) (by simp))
    refine ⟨f x, S, i, rfl, s4 _ _ hS, by omega, same_mut (s1.trans s4) hD, _, by rw [upd_same, new]; rfl, fun k z => ?_⟩
    rw [ht, List.map_append, List.mem_append]
    rw [Bool.or_eq_true] at z
    rcases z with z | z
    · exact .inl (hk k z)
    · exact .inr (by rw [of_decide_eq_true z]; simp)
  · have e : i = xs.length := by omega
    subst e
    exact .inl ⟨wk.stops H (hG H (s0.trans s1)), hd H S s1 hS⟩
end As
namespace As
open PySem PySem.Spec PyProof.Rows L2
/-! the same rules where the context is a comprehension's: the text's part is named -/
section
variable {X : Cx} (K : PySem.W.Frag)
theorem inK (h : X.K = K := by rfl) : OpR X (compareOp .In) (rIn K false) := h ▸ op_in_seq
theorem notInK (h : X.K = K := by rfl) : OpR X (compareOp .NotIn) (rIn K true) := h ▸ op_notIn_seq
theorem ixL (h : X.K = K := by rfl) : IxR X (rIxL K) := h ▸ ix_list
theorem ixT (h : X.K = K := by rfl) : IxR X (rIxT K) := h ▸ ix_tup
theorem slL (h : X.K = K := by rfl) : SlR X (rSlL K) := h ▸ sl_list
theorem pgT {es : List Expr} {k n : Nat} {t : TGs} {pos : Pos} (hk : PG X (.Tuple es k pos) (gTup X.K n t)) (h : X.K = K := by rfl) : PG X (.Tuple es k pos) (gTup K n t) := h ▸ hk
end
end As

/-! ## A4 -/
namespace As
open PySem PySem.Spec PyProof.Rows L2
section
variable {X : Cx} (K : PySem.W.Frag)
theorem fldK {e : Expr} {f : Str} {ta : TE} {pos : Pos} (he : PE X e ta) (hb : attributeBase e f X.env (eval e X.env) = eval e X.env := by rfl) (h : X.K = K := by rfl) : PE X (.Attribute e f pos) (tFld K ta f) := h ▸ pe_fld he hb
theorem tupK {p pos : Pos} {a : Expr} {ta : TE} (ha : PE X a ta) (hg : Gl X "tuple" := by rfl) (hm : X.mg "tuple" = none := by assumption) (h : X.K = K := by rfl) (na : starEach [a] X.env = (false, eval a X.env) :: starEach [] X.env := by rfl) :
    PE X (.Call (.Name "tuple" p) [a] [] pos) (tThen ta (kTup K)) := h ▸ pe_tupleOf hg hm ha na
theorem piL {tg l : Expr} {tl : TE} (hl : PE X l tl) (h : X.K = K := by rfl) : PI X tg l (iList K tl) := h ▸ pi_list hl
theorem piT {tg l : Expr} {tl : TE} (hl : PE X l tl) (h : X.K = K := by rfl) : PI X tg l (iTup K tl) := h ▸ pi_tup hl
end
theorem putK_new {κ : Type} [DecidableEq κ] {kvs : List (κ × V)} {k : κ} {v : V} (h : k ∉ kvs.map (·.1)) : putK kvs k v = kvs ++ [(k, v)] := by
  unfold putK
  rw [if_neg]
  intro z
  rw [List.any_eq_true] at z
  obtain ⟨kv, hm, e⟩ := z
  exact h (List.mem_map.mpr ⟨kv, hm, of_decide_eq_true e⟩)
theorem paired_keys {α : Type} {R : α → V → Prop} {f : α → Key} : ∀ {xs : List α} {kvs : List (Key × V)}, Paired (fun x kv => kv.1 = f x ∧ R x kv.2) xs kvs → kvs.map (·.1) = xs.map f
  | _, _, .nil => rfl
  | _, _, .cons h t => by rw [List.map_cons, List.map_cons, h.1, paired_keys t]
theorem paired_len {α β : Type} {R : α → β → Prop} : ∀ {xs : List α} {ys : List β}, Paired R xs ys → xs.length = ys.length
  | _, _, .nil => rfl
  | _, _, .cons _ t => by rw [List.length_cons, List.length_cons, paired_len t]
theorem paired_imp {α β : Type} {R S : α → β → Prop} (h : ∀ a b, R a b → S a b) : ∀ {xs : List α} {ys : List β}, Paired R xs ys → Paired S xs ys
  | _, _, .nil => .nil
  | _, _, .cons r t => .cons (h _ _ r) (paired_imp h t)
/-- tuples stand -/
def Imm (H H' : Hp) : Prop := ∀ b xs, H b = some (.tup xs) → H' b = some (.tup xs)
theorem same_imm {H H' : Hp} (e : Same H H') : Imm H H' := fun _ _ h => e _ _ h
theorem imm_dict {H : Hp} {D : Addr} {kvs : List (Key × V)} {o : HO} (h : H D = some (.dK kvs)) : Imm H (upd H D o) := fun b xs e => by
  rw [upd_ne (fun z => by subst z; rw [h] at e; cases e)]; exact e

/-- a dict comprehension whose keys are distinct; R tells of each value -/
theorem dc_same {J : It} {n : Nat} {G : Hp → Prop} {xs : List V} {g : TG} {tt : TT} {tk tv : TE} {vs : List Nat} {σ : L2.St} {H1 B : Hp} {D : Addr} {Qd : Hp → Prop}
    (wk : Walk J n G (YAt xs)) (hn : n = xs.length) (s0 : Same B H1) (hD : H1 D = none) (hG : ∀ H, Same B H → G H) (hl : xs.length < sizeLine) (f : V → Key) (nd : (xs.map f).Nodup)
    (R : V → V → Hp → Prop) (mono : ∀ x v H H', Imm H H' → R x v H → R x v H')
    (hs : ∀ x H (Q1 : V → V → Hp → Prop) (Q2 : Hp → Prop), x ∈ xs → Same B H → (∀ v H5, Same H H5 → R x v H5 → Q1 (kV (f x)) v H5) →
      g x (wipe σ vs) H fun σ2 H2 => wipe σ2 vs = wipe σ vs ∧ tt σ2 H2 fun b H3 => if b = true then tk σ2 H3 (fun y H4 => tv σ2 H4 fun z H5 => Q1 y z H5) else Q2 H3)
    (hd : ∀ H' kvs, Same H1 H' → H' D = some (.dK kvs) → Paired (fun x kv => kv.1 = f x ∧ R x kv.2 H') xs kvs → Qd H') :
    ∃ W : Nat → Nat → Hp → Prop, (∃ m, W 0 m (upd H1 D (.dK []))) ∧ ∀ i m H, W i m H →
      (J.stop i H ∧ Qd H) ∨ (J.go i H ∧ ∃ Nx : Hp → Prop, (∀ H', Nx H' → ∃ m', m' < m ∧ W (i + 1) m' H') ∧ ∀ x H', J.yld i H x H' → g x (wipe σ vs) H' fun σ2 H2 => wipe σ2 vs = wipe σ vs ∧ tt σ2 H2 fun b H3 =>
        if b = true then tk σ2 H3 fun y H4 => tv σ2 H4 fun z H5 => ∃ kvs k, y = kV k ∧ H5 D = some (.dK kvs) ∧ kvs.length < sizeLine ∧ Nx (upd H5 D (.dK (putK kvs k z))) else Nx H3) := by
  subst hn
  refine ⟨fun i m H => m = xs.length - i ∧ i ≤ xs.length ∧ Same H1 H ∧ ∃ kvs, H D = some (.dK kvs) ∧ Paired (fun x (kv : Key × V) => kv.1 = f x ∧ R x kv.2 H) (xs.take i) kvs, ⟨_, rfl, Nat.zero_le _, same_new hD, [], upd_same, .nil⟩, ?_⟩
  rintro i m H ⟨rfl, hi, s1, kvs, hS, hk⟩
  by_cases hlt : i < xs.length
  · refine .inr ⟨wk.goes i H hlt (hG H (s0.trans s1)), fun H' => Same H1 H' ∧ ∃ kvs, H' D = some (.dK kvs) ∧ Paired (fun x (kv : Key × V) => kv.1 = f x ∧ R x kv.2 H') (xs.take (i + 1)) kvs, fun H' p => ⟨xs.length - (i + 1), by omega, rfl, hlt, p⟩, fun x H' y => ?_⟩
    obtain ⟨rfl, hx⟩ := wk.yields i H x H' hlt (hG H (s0.trans s1)) y
    have ht : xs.take (i + 1) = xs.take i ++ [x] := by rw [List.take_succ, hx]; rfl
    refine hs x H' _ _ (List.mem_of_getElem? hx) (s0.trans s1) fun v H5 s5 r5 => ?_
    have h5 := s5 _ _ hS
    have keys := paired_keys (R := fun x v => R x v H') (f := f) hk
    have new : f x ∉ kvs.map (·.1) := by
      rw [keys]
      intro h1
      have h2 : ((xs.take (i + 1)).map f).Nodup := by
        rw [List.map_take]; exact List.Sublist.nodup (List.take_sublist _ _) nd
      rw [ht, List.map_append, List.nodup_append] at h2
      exact absurd rfl (h2.2.2 _ h1 (f x) (by simp))
    have len := paired_len hk
    refine ⟨kvs, f x, rfl, h5, ?_, same_mut (s1.trans s5) hD, _, upd_same, ?_⟩
    · rw [← len]; have := List.length_take_le i xs; omega
    · rw [putK_new new, ht]
      have im : Imm H5 (upd H5 D (.dK (kvs ++ [(f x, v)]))) := imm_dict h5
      exact (paired_imp (fun a b r => ⟨r.1, mono _ _ _ _ im (mono _ _ _ _ (same_imm s5) r.2)⟩) hk).snoc ⟨rfl, mono _ _ _ _ im r5⟩
  · have e : i = xs.length := by omega
    subst e
    rw [List.take_length] at hk
    exact .inl ⟨wk.stops H (hG H (s0.trans s1)), hd H kvs s1 hS hk⟩
end As

/-! ## A9 -/
namespace As
open PySem PySem.Spec PyProof.Rows L2
open PySem.W (EachIs dataLe AllAlike Sortable dataLt alike dataKind sortVals)
/-- sorted(xs) of data of one form, any number of them -/
def rSortedD (K : PySem.W.Frag) : List V → Hp → VK → Prop := fun vs H Q => ∃ (β : Type) (a : Addr) (bs : List β) (v : β → V) (k : β → PyData), vs = [.ref a] ∧ SqL K H a (bs.map v) ∧ (∀ b ∈ bs, Dp K H (v b) (k b) ∧ PyData.depth (k b) ≤ 60) ∧ AllAlike (bs.map k) ∧ Sortable (bs.map k) ∧
  ∀ p, H p = none → Q (.ref p) (upd H p (.lst ((bs.mergeSort (dataLe false k)).map v)))
theorem vals_each {β : Type} {v : β → V} : ∀ {bs : List β} {us : List Value}, Vals (bs.map v) us → EachIs (fun u b => RelV (v b) u) us bs
  | [], _, r => by cases r; exact .nil
  | b :: bs, _, r => by
    rw [List.map_cons] at r
    cases r with
    | cons h t => exact .cons h (vals_each t)
theorem each_vals {β : Type} {v : β → V} : ∀ {bs : List β} {us : List Value}, EachIs (fun u b => RelV (v b) u) us bs → Vals (bs.map v) us
  | [], _, r => by cases r; exact .nil
  | b :: bs, _, r => by
    cases r with
    | cons h t => exact .cons h (each_vals t)
theorem each_map {α β γ : Type} {R : α → γ → Prop} (f : β → γ) : ∀ {as : List α} {bs : List β}, EachIs (fun a b => R a (f b)) as bs → EachIs R as (bs.map f)
  | _, [], r => by cases r; exact .nil
  | _, b :: bs, r => by
    cases r with
    | cons h t => exact .cons h (each_map f t)
section
variable {X : Cx}
theorem cr_sortedD (hu : X.A.units + 64 < cLine) : CallR X (.builtin "sorted") (rSortedD X.K) := by
  intro pins s σ H xs us Q I r h
  obtain ⟨β, a, bs, v, k, rfl, hs, hd, hal, hso, q⟩ := h
  obtain ⟨its, rv, hl, hz⟩ := I.list hs
  obtain ⟨u, rfl, ru⟩ := vals1 r
  obtain rfl : u = Value.ref a := ru
  have ev := vals_each rv
  have lz : its.length = bs.length := by rw [← rv.length, List.length_map]
  have hzs : its.length ≤ sizeLine := by rw [lz]; rw [List.length_map] at hz; exact hz
  -- the items as data, wherever the heap has grown
  obtain ⟨h', eh⟩ : ∃ h', PySem.W.sortingHeap (PySem.W.copyHeap s.heap its) (s.heap.objs.size + 1) its = h' := ⟨_, rfl⟩
  have keep : ∀ b o, s.heap.get? b = some o → h'.get? b = some o := fun b o e => by rw [← eh]; exact PySem.W.sorting_copy_old e
  have er : EachIs (fun u d => ∃ as, Reads h' u d as) its (bs.map k) := by
    refine each_map k ((PySem.W.each_mem ev).mono fun u b ⟨rb, hb⟩ => ?_)
    obtain ⟨as, rr⟩ := Dp.reads I (k b) (v b) u (hd b hb).1 rb
    exact ⟨as, Reads.keeps keep rr⟩
  have S : PySem.W.SortsAt X.prog X.w X.A.in1.in1 { s with heap := h' } (dataKind h' (bs.map k)) its := by
    refine PySem.W.SortsAt.data (s := { s with heap := h' }) er hal hso fun d hm => ?_
    obtain ⟨b, hb, rfl⟩ := List.mem_map.mp hm
    have := (hd b hb).2
    show X.A.units + 1 + 1 + (k b).depth < cLine
    omega
  have out := PySem.W.sortVals_each (κ := dataKind h' (bs.map k)) (rev := false) (fun b => PySem.W.keyToks (k b)) ev (PySem.W.each_of_map k (PySem.W.each_keys hal er))
  refine PySem.W.sorted_vals hl.isList (by rw [eh]; exact S) hzs ?_
  have rout : Vals ((bs.mergeSort (dataLe false k)).map v) (sortVals (dataKind h' (bs.map k)) false its its) := each_vals out
  obtain ⟨n, hn⟩ := sortedAll_at s.heap its (sortVals (dataKind h' (bs.map k)) false its its).toArray
  refine ⟨.ref (s.heap.objs.size + 1), upd H (s.heap.objs.size + 1) (.lst ((bs.mergeSort (dataLe false k)).map v)), I.laid (t' := s.toks) (fun b o e => sortedAll_old e) (Nat.le_succ _) ⟨?_, _, n, rout, hn⟩, rfl, q _ (I.hok.fresh (Nat.le_succ _))⟩
  rw [List.length_map, List.length_mergeSort]
  rw [List.length_map] at hz
  exact hz
/-- x < y of data of one form -/
def rLtD (K : PySem.W.Frag) : R2 := fun x y H Q => ∃ d e, Dp K H x d ∧ Dp K H y e ∧ alike d e = true ∧ d ≠ .none ∧ PyData.depth d ≤ 60 ∧ Q (.bl (dataLt d e)) H
theorem op_ltD (hu : X.A.units + 64 < cLine) : OpR X (compareOp .Lt) (rLtD X.K) := by
  intro pins s σ H x y v u Q I rx ry h
  obtain ⟨d, e, hd, he, ha, hn, hz, q⟩ := h
  obtain ⟨as, r1⟩ := Dp.reads I d x v hd rx
  obtain ⟨bs, r2⟩ := Dp.reads I e y u he ry
  exact PySem.W.lt_data r1 r2 ha hn (by omega) ⟨.bl _, H, I, rfl, q⟩
end
end As

/-! ## A10 -/
namespace As
open PySem PySem.Spec PyProof.Rows L2
/-! enumerate(t), t a tuple -/
/-- what the call makes: the walk over t, and the enumerate around it -/
abbrev walkO (t : Addr) : Obj := { cls := .type "tuple_iterator", data := .fields #[.ref t, .int 0 0] }
abbrev enumO (it : Addr) : Obj := { cls := .type "enumerate", data := .fields #[.none, .bool false, .ref it, rawInt 0, .none, .none] }
abbrev enumH (h : Heap) (t : Addr) : Heap := (h.push (walkO t)).push (enumO h.objs.size)
theorem enum_made {t : Addr} {o : Obj} {vs : Array Value} {n : Nat} (hc : o.cls = .type "tuple") (hd : o.data = .seq vs n) :
    Meets (Builtin.«enumerate.__new__» ⟨[.type "enumerate", .ref t], []⟩) (fun _ R s => s.heap.get? t = some o ∧ R (.ok (.ret (.ref (s.heap.push (walkO t)).objs.size))) { s with heap := enumH s.heap t }) := by
  refine .of_wp fun prog w A R s h => ?_
  have sub := sub_enumerate
  obtain ⟨at_, fin⟩ := h
  have tup : s.heap.IsTuple t vs := ⟨o, at_, hc, n, hd⟩
  wp_walk using AutoSeq1.wpAny_loadPart' at_
  refine wpAny_stack_any fun st => wpAny_pure ?_
  have last : ∀ b : Bool, True := fun _ => trivial
  split
  · rename_i c _ _ _ _ _
    cases (c == Value.type "enumerate") <;> (wp_walk using AutoSeq1.wpAny_loadPart' at_, wpAny_pyIter_tuple tup; exact ⟨_, rfl, fin⟩)
  · wp_walk using AutoSeq1.wpAny_loadPart' at_, wpAny_pyIter_tuple tup
    exact ⟨_, rfl, fin⟩
section
variable {prog : Program} {w : World} {A : Around} {E : Value → Shared → Prop} {s : Shared}
theorem enum_of {t : Addr} {vs : Array Value} {Q : Value → Shared → Prop} (tup : s.heap.IsTuple t vs) (q : Q (.ref (s.heap.objs.size + 1)) { s with heap := enumH s.heap t }) : wpAny (model prog w) A (call (.type "enumerate") [.ref t]) Q E s := by
  obtain ⟨o, at_, hc, n, hd⟩ := tup
  refine callType_new F.called_enumerate (by decide) (F.typeCall_enumerate_1 _) (F.newCall_enumerate_1 _) (fun x => F.args_object_init_2 x _) F.entry_enumerate_new (enum_made hc hd) ⟨at_, ?_⟩
  have sz : (s.heap.push (walkO t)).objs.size = s.heap.objs.size + 1 := Heap.size_push ..
  refine show _ ∧ _ from ⟨⟨enumO s.heap.objs.size, ?_, rfl⟩, sz ▸ q⟩
  exact Heap.get?_push_size (s.heap.push (walkO t)) rfl
end
theorem enumH_old {h : Heap} {t b : Addr} {o : Obj} (e : h.get? b = some o) : (enumH h t).get? b = some o := Heap.get?_push_of_some _ (Heap.get?_push_of_some _ e)
theorem enumH_enum {h : Heap} {t : Addr} : IsEnum (enumH h t) (h.objs.size + 1) h.objs.size 0 .none := by
  have e := Heap.get?_push_size (h.push (walkO t)) (o := enumO h.objs.size) rfl
  rw [Heap.size_push] at e
  exact e
theorem enumH_walk {h : Heap} {t : Addr} : (enumH h t).IsTupleIter h.objs.size t 0 := ⟨walkO t, Heap.get?_push_of_some _ (Heap.get?_push_size _ rfl), rfl, rfl⟩
/-- the walk: at each turn a new pair of the number and the item -/
def IteT (K : PySem.W.Frag) (a : Addr) : It where
  go i H := ∃ (xs : List V) (x : V), SqT K H a xs ∧ xs[i]? = some x
  yld i H v H' := ∃ T x, v = .ref T ∧ H T = none ∧ H' = upd H T (.tup [.int (i : Nat), x]) ∧ ∀ xs, SqT K H a xs → xs[i]? = some x
  stop i H := ∃ xs : List V, SqT K H a xs ∧ xs.length ≤ i
/-- the state of the walk after i turns -/
def EnS (a e it : Addr) (i : Nat) (h : Heap) : Prop := (∃ old, IsEnum h e it ((i : Nat) : Int) old) ∧ h.IsTupleIter it a i ∧ e ≠ it ∧ e ≠ a ∧ a ≠ it
theorem mem2 {b e it : Addr} (h : b ∈ [e, it]) : b = e ∨ b = it := by simpa using h
theorem turn_enumT {P : Program} {w : World} {K : PySem.W.Frag} {elts : List Expr} {kk : Nat} {tpos : Pos} (a e it : Addr) : Turn P w K (.Tuple elts kk tpos) (IteT K a) [e, it] e (EnS a e it) where
  mem := List.mem_cons_self
  obj i h st b hb := by
    obtain ⟨⟨old, at1⟩, ⟨o, at2, c2, d2⟩, _⟩ := st
    rcases mem2 hb with rfl | rfl
    · exact ⟨_, at1, fun v z => nomatch z⟩
    · exact ⟨o, at2, fun v z => nomatch (d2.symm.trans z)⟩
  keep i h h' st k := by
    obtain ⟨⟨old, at1⟩, w2, r⟩ := st
    exact ⟨⟨old, k e List.mem_cons_self _ at1⟩, w2.at fun o z => k it (by simp) o z, r⟩
  self A i s Q E st q := by
    obtain ⟨⟨old, at1⟩, _⟩ := st
    exact wpAny_pyIter_enum at1 q
  item := by
    rintro X rfl rfl rfl hc i pins s σ H E I hf ⟨⟨old, at1⟩, w2, ne1, ne2, ne3⟩ ⟨xs, x, hq, hx⟩
    obtain ⟨its, rv, tup, _⟩ := I.tuple hq
    obtain ⟨u, hu, ru⟩ := rv.get hx
    have lt : i < its.toArray.size := by
      have z := (List.getElem?_eq_some_iff.mp hu).1
      rwa [List.size_toArray]
    have old1 : e < s.heap.objs.size := Heap.lt_size at1
    have old2 : it < s.heap.objs.size := w2.elim fun _ z => Heap.lt_size z.1
    refine wpAny_pyNext_enum_itemD (PySem.Draws.tuple (A := X.A.in1) (I.ok.hd hc) it a ne3 its.toArray) at1 ⟨w2, tup⟩ lt ne1 (by simp [ne1, ne2]) fun y h1 tk drawn out st1 pair _ kept => ?_
    obtain rfl : y = u := by
      have z : its.toArray[i]? = some y := drawn
      rw [List.getElem?_toArray, hu] at z
      exact (Option.some.inj z).symm
    refine ⟨_, rfl, wpAny_letOwnedTupleGo_enum (s := { s with heap := h1, toks := tk + 1 }) out fun h2 en2 but => ?_⟩
    have pair2 := (but.2 s.heap.objs.size (Nat.ne_of_gt old1)).trans pair
    have ok : ObjOk X.prog X.w (upd H s.heap.objs.size (.tup [.int (i : Nat), x])) h2 s.heap.objs.size (.tup [.int (i : Nat), x]) := ⟨by show 2 ≤ sizeLine; decide, [.int i tk, y], .cons ⟨_, rfl⟩ (.cons ru .nil), _, pair2, rfl, _, rfl⟩
    have still : ∀ b o, b ∉ [e, it] → s.heap.get? b = some o → h2.get? b = some o := fun b o nb z => by
      have n1 : b ≠ e := fun q => nb (by simp [q])
      have n2 : b ≠ it := fun q => nb (by simp [q])
      exact (but.2 b n1).trans (kept b o n1 n2 z)
    refine ⟨.ref s.heap.objs.size, _, I.turnedNew (t' := tk + 1) still hf (Nat.le_refl _) ok, rfl, ⟨_, x, rfl, I.hok.fresh (Nat.le_refl _), rfl, fun ys hy => (I.tuple_inj hy hq) ▸ hx⟩, ⟨⟨y, ?_⟩, st1.1.at fun o z => (but.2 it (Ne.symm ne1)).trans z, ne1, ne2, ne3⟩, fun b hb => ?_⟩
    · rw [Int.natCast_succ]; exact en2
    · have lt' : b < s.heap.objs.size := by rcases mem2 hb with rfl | rfl <;> assumption
      rw [upd_ne (Nat.ne_of_lt lt')]
      exact (hf b hb).1
  done := by
    rintro X rfl rfl rfl hc i pins s σ H E I hf ⟨⟨old, at1⟩, w2, _⟩ ⟨xs, hq, all⟩
    obtain ⟨its, rv, tup, _⟩ := I.tuple hq
    have ty : s.TypeIs (.ref e) "enumerate" := ⟨_, at1, rfl⟩
    have none_ : its.toArray[i]? = none := by
      rw [List.getElem?_toArray]
      exact List.getElem?_eq_none (rv.length ▸ all)
    have pin := hf it (by simp)
    unfold pyNext
    refine wpAny_bind (wpAny_attempt (wpAny_callSpecial?_slot (name := Str.ofString "__next__") ty F.slot_enumerate_next (wpAny_call_entry F.slot_enumerate_next ty F.entry_enumerate_next ?_ (F.args_enumerate_next_1 _))))
    refine show wpAny _ _ (field (.ref e) 2 >>= _) _ _ _ from wpAny_bind (wpAny_field at1 rfl (x := .ref it) rfl (wpAny_bind (wpAny_nextOf_tuple_end (I.ok.hd hc) w2 tup none_ fun h1 x grown stop => ?_)))
    obtain ⟨o, ho, cl⟩ := stop
    exact wpAny_bind (wpAny_isInstance (T := "StopIteration") (b := true) ⟨o, ho, cl⟩ isSubtype_stop (wpAny_pure ⟨rfl, I.turned (t' := s.toks) (fun b o hb z => grown b o hb z) pin.1 pin.2.1 pin.2.2.2.1 pin.2.2.2.2.1 pin.2.2.2.2.2⟩))
def iEnumT (K : PySem.W.Frag) (ta : TA) : TI := fun σ H R => ta σ H fun vs H1 => ∃ a xs, vs = [.ref a] ∧ SqT K H1 a xs ∧ R (IteT K a) H1
theorem pi_enumT {X : Cx} {e : Expr} {ta : TA} {p pos tpos : Pos} {elts : List Expr} {kk : Nat} (hg : Gl X "enumerate") (hm : X.mg "enumerate" = none) (ha : PA X [e] ta) (hs : starEach [e] X.env = [(false, eval e X.env)] := by rfl) :
    PI X (.Tuple elts kk tpos) (.Call (.Name "enumerate" p) [e] [] pos) (iEnumT X.K ta) := by
  refine ⟨fun pins s σ H R I h => Call_ (ld_blt I hg hm boot_enumerate (PyProof.Rows.callWith_type1 (thn (ha.run pos pins s σ H _ I h) ?_) hs rfl))⟩
  rintro us s1 ⟨vs, H1, I1, r1, a, xs, rfl, hq, q⟩
  obtain ⟨u, rfl, ru⟩ := vals1 r1
  cases (show u = Value.ref a from ru)
  obtain ⟨its, rv, tup, _⟩ := I1.tuple hq
  have lt : a < s1.heap.objs.size := tup.elim fun _ z => Heap.lt_size z.1
  refine enum_of tup (wpAny_pyIter_enum enumH_enum ⟨s1.heap.objs.size + 1, [s1.heap.objs.size + 1, s1.heap.objs.size], _, _, H1, rfl, I1.kept (t' := s1.toks) fun b o z => enumH_old z, turn_enumT a (s1.heap.objs.size + 1) s1.heap.objs.size,
    ⟨⟨.none, enumH_enum⟩, enumH_walk, Nat.succ_ne_self _, Nat.ne_of_gt (Nat.lt_succ_of_lt lt), Nat.ne_of_lt lt⟩, fun b hb => ?_, q⟩)
  have le : s1.heap.objs.size ≤ b := by rcases mem2 hb with rfl | rfl <;> simp
  exact I1.fpOk le (I1.hok.fresh le)
theorem walk_enumT {K : PySem.W.Frag} {a : Addr} {xs : List V} : Walk (IteT K a) xs.length (fun H => SqT K H a xs) (YPair (fun i => some (.int (i : Nat))) (fun i => xs[i]?)) where
  goes i H lt q := ⟨xs, _, q, List.getElem?_eq_getElem lt⟩
  stops H q := ⟨xs, q, Nat.le_refl _⟩
  yields i H v H' _ q y := y.elim fun T z => z.elim fun x z => ⟨T, _, x, z.1, z.2.1, z.2.2.1, rfl, z.2.2.2 xs q⟩
end As

/-! ## A11 -/
namespace As
open PySem PySem.Spec PyProof.Rows L2
theorem Imm.refl (H : Hp) : Imm H H := fun _ _ h => h
theorem imm_lst' {H : Hp} {D : Addr} {xs : List V} {o : HO} (h : H D = some (.lst xs)) : Imm H (upd H D o) := fun b ys e => by
  rw [upd_ne (fun z => by subst z; rw [h] at e; cases e)]; exact e
/-- a comprehension whose items are new objects: P tells what is made so far, and stands while tuples stand -/
theorem lc_new {J : It} {n : Nat} {G : Hp → Prop} {xs : Nat → V} {g : TG} {tt : TT} {te : TE} {vs : List Nat} {σ : L2.St} {H1 : Hp} {D : Addr} {Qd : Hp → Prop}
    (w : Walk J n G (YFn xs)) (hD : H1 D = none) (hG : ∀ H, Same H1 H → G H) (hl : n < sizeLine) (P : Nat → List V → Hp → Prop) (h0 : P 0 [] H1) (hP : ∀ i acc H H', Imm H H' → P i acc H → P i acc H')
    (hs : ∀ i H acc (Q1 : VK) (Q2 : Hp → Prop), i < n → Same H1 H → P i acc H → (∀ y H4, Same H H4 → P (i + 1) (acc ++ [y]) H4 → Q1 y H4) → (∀ H3, Same H H3 → P (i + 1) acc H3 → Q2 H3) →
      g (xs i) (wipe σ vs) H fun σ2 H2 => wipe σ2 vs = wipe σ vs ∧ tt σ2 H2 fun b H3 => if b = true then te σ2 H3 Q1 else Q2 H3)
    (hd : ∀ H' acc, Same H1 H' → H' D = some (.lst acc) → P n acc H' → Qd H') :
    ∃ W : Nat → Nat → Hp → Prop, (∃ m, W 0 m (upd H1 D (.lst []))) ∧ ∀ i m H, W i m H →
      (J.stop i H ∧ Qd H) ∨ (J.go i H ∧ ∃ Nx : Hp → Prop, (∀ H', Nx H' → ∃ m', m' < m ∧ W (i + 1) m' H') ∧ ∀ x H', J.yld i H x H' → g x (wipe σ vs) H' fun σ2 H2 => wipe σ2 vs = wipe σ vs ∧ tt σ2 H2 fun b H3 =>
        if b = true then te σ2 H3 fun y H4 => ∃ acc, H4 D = some (.lst acc) ∧ acc.length < sizeLine ∧ Nx (upd H4 D (.lst (acc ++ [y]))) else Nx H3) := by
  refine lc_it w (fun i H => ∃ acc, Same H1 H ∧ H D = some (.lst acc) ∧ acc.length ≤ i ∧ P i acc H) ⟨[], same_new hD, upd_same, Nat.le_refl _, hP _ _ _ _ (same_imm (same_new hD)) h0⟩
    (fun i H _ ⟨acc, s, _⟩ => hG H s) (fun i x H H' hi p y => ?_) (fun H ⟨acc, s, hd', _, p⟩ => hd H acc s hd' p)
  obtain ⟨rfl, rfl⟩ := y
  obtain ⟨acc, s, hd', hlen, p⟩ := p
  refine hs i H' acc _ _ hi s p (fun y H4 s4 p4 => ?_) (fun H3 s3 p3 => ⟨acc, s.trans s3, s3 _ _ hd', Nat.le_succ_of_le hlen, p3⟩)
  have h4 := s4 _ _ hd'
  refine ⟨acc, h4, by omega, acc ++ [y], same_mut (s.trans s4) hD, upd_same, ?_, hP _ _ _ _ (imm_lst' h4) p4⟩
  rw [List.length_append]; simp; omega
end As

/-! ## A5 -/
set_option maxHeartbeats 2000000
namespace As
open PySem PySem.Spec PyProof.Rows L2
section
variable {X : Cx} {CX : CXT} {C f n : Nat} {fd : FuncData} {ps : List Str} {sp : Sp}
/-- a promise kept at a call from within a built-in -/
theorem call_in {A : Around} {pins : List (Addr × Obj)} {σ : L2.St} {H : Hp} {s : Shared} {Q : VK} {E : XK} {us : List Value} {vs : List V} (F : FnOk X.prog X.w X.K X.mg X.base CX n f fd ps sp) (sb : L2.Sub X n A) (hb : Binds X.K fd ps []) (hx : Passes CX X E)
    (I : Inv X pins σ H s) (r : Vals vs us) (h : sp vs H Q E) : wpAny (model X.prog X.w) A (call (.ref f) us) (EP X pins σ Q) X.xe s := by
  have len : us.length = ps.length := by rw [← r.length]; exact F.len _ _ _ _ h
  have e0 : Env0 X.prog X.w X.K X.mg X.base A X.stack s H := by
    obtain ⟨x1, x2, x3, x4, x5, x6, x7, x8⟩ := I.env0
    exact ⟨by rw [sb.fr]; exact x1, x2, x3, x4, x5, x6, x7, x8⟩
  have bt := hb s us I.kIn (by simpa using len)
  rw [List.append_nil] at bt
  refine wpAny_call (codeAny_mono (F.run A X.stack s H ⟨us, []⟩ us vs Q E sb.room e0 bt r h) fun r s' hq => ?_)
  rcases r with e | fl
  · exact hx pins σ H s e s' I hq
  · cases fl with
    | ret u => exact I.after hq
    | next => exact False.elim hq
    | brk => exact False.elim hq
    | cont => exact False.elim hq
end
/-- the class at C compares by its own == at f, and leaves != to object -/
structure EqC (K : PySem.W.Frag) (C f : Addr) : Prop where
  eq : PySem.W.findIn K (.ref C) "__eq__" = some (some (.ref f))
  fn : PySem.W.isFn K (.ref f) = true
  ne : PySem.W.findIn K (.ref C) "__ne__" = some (some (.builtin "object.__ne__"))
  top : PySem.W.mroIn K C (.type "object") = some true
  lst : PySem.W.notFirst K C (.type "list") = true
/-- an own instance against another of the class, or against a list -/
def rOwn (C : Addr) (sp : Sp) (g : Bool → Bool) : R2 := fun x y H Q => ∃ (a b dx : Addr) (fs : List (Str × V)), x = .ref a ∧ y = .ref b ∧ H a = some (.ins C dx fs) ∧ ((∃ dy gs, H b = some (.ins C dy gs)) ∨ ∃ zs, H b = some (.lst zs)) ∧
  sp [.ref a, .ref b] H (fun v H' => ∃ r, v = .bl r ∧ Q (.bl (g r)) H') E0
section
variable {X : Cx} {C f n : Nat} {fd : FuncData} {ps : List Str} {sp : Sp}
theorem looks_kind {M : Model} {pins : List (Addr × Obj)} {σ : L2.St} {H : Hp} {s : Shared} {b : Addr} (q : EqC X.K C f) (I : Inv X pins σ H s) (h : (∃ dy gs, H b = some (.ins C dy gs)) ∨ ∃ zs, H b = some (.lst zs)) :
    ∃ tb, PySem.W.Looks M s.heap (typeOf (.ref b)) tb ∧ PySem.W.notFirst X.K C tb = true := by
  rcases h with ⟨dy, gs, hb⟩ | ⟨zs, hb⟩
  · obtain ⟨mB, J, _⟩ := ins_get I.hok hb
    obtain ⟨od, J, _⟩ := J.look
    exact ⟨.ref C, J.type, by simp [PySem.W.notFirst]⟩
  · obtain ⟨_, _, k, _, e⟩ := I.hok b _ hb
    exact ⟨.type "list", (PySem.W.Looks.ld e).andThen .now, q.lst⟩
theorem op_eqOwn (F : FnOk X.prog X.w X.K X.mg X.base CX0 n f fd ps sp) (hr : Room n X.A) (hb : Binds X.K fd ps []) (q : EqC X.K C f) : OpR X (compareOp .Eq) (rOwn C sp id) := by
  intro pins s σ H x y v u Q I rx ry h
  obtain ⟨a, b, dx, fs, rfl, rfl, ha, hk, hs⟩ := h
  cases rx
  cases ry
  obtain ⟨mA, J, _⟩ := ins_get I.hok ha
  obtain ⟨od, J, _⟩ := J.look
  obtain ⟨tb, lk, nf⟩ := looks_kind q I hk
  obtain ⟨m, hF⟩ := I.fr
  have r2 : Vals [V.ref a, V.ref b] [Value.ref a, Value.ref b] := .cons rfl (.cons rfl .nil)
  refine PySem.W.cmp_K (op := .Eq) (Nat.lt_of_le_of_lt (Nat.le_add_right _ _) (hu_of hr)) hF I.ok.mod.kin J lk nf q.eq q.fn (thn (call_in F ⟨hr, rfl⟩ hb pass0 I r2 hs) fun w s' z => ?_)
  obtain ⟨v, H', I', rv, r, rfl, qr⟩ := z
  cases rv
  exact ⟨.bl r, H', I', rfl, qr⟩
theorem ne_bind (self : Value) : bindSpecial (.builtin "object.__ne__") self = pure (.builtin "object.__ne__", [self]) := PySem.F.cmp_object.ne.bind self
theorem op_neOwn (F : FnOk X.prog X.w X.K X.mg X.base CX0 n f fd ps sp) (hr : Room (n + 1) X.A) (hb : Binds X.K fd ps []) (q : EqC X.K C f) : OpR X (compareOp .NotEq) (rOwn C sp not) := by
  intro pins s σ H x y v u Q I rx ry h
  obtain ⟨a, b, dx, fs, rfl, rfl, ha, hk, hs⟩ := h
  cases rx
  cases ry
  obtain ⟨mA, J, _⟩ := ins_get I.hok ha
  obtain ⟨od, J, _⟩ := J.look
  obtain ⟨tb, lk, nf⟩ := looks_kind (M := model X.prog X.w) q I hk
  have hu : X.A.units + 1 < cLine := hu_of hr
  have hu0 : X.A.units < cLine := Nat.lt_of_succ_lt hu
  have KI := I.kIn
  have r2 : Vals [V.ref a, V.ref b] [Value.ref a, Value.ref b] := .cons rfl (.cons rfl .nil)
  -- the built-in's call
  have run : wpAny (model X.prog X.w) X.A (call (.builtin "object.__ne__") [.ref a, .ref b]) (fun v s' => ∃ r : Bool, v = .bool r ∧ EP X pins σ Q (.bool r) s') X.xe s := by
    have sub : PySem.W.Looks (model X.prog X.w) s.heap (isInstance (.ref a) (.type "object")) true := J.type.andThen (PySem.W.looks_mroIn KI q.top)
    refine wpAny_call (codeAny_call_builtin PySem.F.cmp_object.ne.plain PySem.F.cmpEntry_ne (PySem.W.check_slot PySem.F.cmpKind_ne PySem.F.cmpSplit_ne sub (PySem.F.cmpArgs_ne _ _) ?_))
    have inner : wpAny (model X.prog X.w) X.A.in1 (callSpecialIfBound? (.ref a) "__eq__" [.ref b]) (fun o s' => ∃ r : Bool, o = some (.bool r) ∧ EP X pins σ Q (.bool (!r)) s') X.xe s :=
      PySem.W.ifBound_K KI J q.eq q.fn (thn (call_in F ⟨hr.in1, rfl⟩ hb pass0 I r2 hs) fun w s' z => by
        obtain ⟨v, H', I', rv, r, rfl, qr⟩ := z
        cases rv
        exact ⟨r, rfl, .bl (!r), H', I', rfl, qr⟩)
    unfold Builtin.«object.__ne__»
    repeat (first | with_reducible refine wpAny_cRoomFor hu ?_ | (refine wpAny_bind (wpAny_mono inner (fun o s' z => ?_) fun _ _ e => e)) | wp_step)
    obtain ⟨r, rfl, ep⟩ := z
    refine wpAny_bind (wpAny_truthy_bool (wpAny_pure ?_))
    exact ⟨!r, rfl, ep⟩
  have one : wpAny (model X.prog X.w) X.A (tryCompare (.ref a) "__ne__" (.ref b)) (fun r s' => ∃ b, r = some (.bool b) ∧ EP X pins σ Q (.bool b) s') X.xe s := by
    simp only [tryCompare, callSpecialIfBound?, bindSpecialIfBound?]
    refine wpAny_bind (wpAny_holding (wpAny_bind (wpAny_bind (wpAny_bind (J.type.here ((PySem.W.looks_findIn KI q.ne).here ?_))))))
    refine wpAny_bind (wpAny_askSetting (wpAny_ite ?_))
    have fin : wpAny (model X.prog X.w) X.A (call (.builtin "object.__ne__") ([.ref a] ++ [.ref b]) >>= fun v => pure (some v)) (fun o s' => ∃ r : Bool, o = some (.bool r) ∧ EP X pins σ Q (.bool r) s') X.xe s :=
      wpAny_bind (wpAny_mono run (fun v s' z => wpAny_pure (by obtain ⟨r, rfl, ep⟩ := z; exact ⟨r, rfl, ep⟩)) fun _ _ e => e)
    have fin2 : wpAny (model X.prog X.w) X.A (call (.builtin "object.__ne__") ([.ref a] ++ [.ref b]) >>= fun v => pure (some v))
        (fun o s' => wpAny (model X.prog X.w) X.A (match o with | some .notImplemented => pure none | none => pure none | some v => pure (some v)) (fun r s' => ∃ b, r = some (.bool b) ∧ EP X pins σ Q (.bool b) s') X.xe s') X.xe s :=
      wpAny_mono fin (fun o s' z => by obtain ⟨r, rfl, ep⟩ := z; exact wpAny_pure ⟨r, rfl, ep⟩) fun _ _ e => e
    split
    · refine wpAny_bind ?_
      rw [ne_bind]
      exact wpAny_pure (wpAny_pure fin2)
    · refine wpAny_tryCatch (wpAny_bind ?_)
      rw [ne_bind]
      exact wpAny_pure (wpAny_pure fin2)
  show wpAny _ _ (richCompare .NotEq (.ref a) (.ref b)) _ _ _
  unfold richCompare
  simp only [PySem.oneThing_ref, PySem.cmpInfo_NotEq]
  refine wpAny_holding (wpAny_bind (wpAny_cRoomFor hu0 ?_))
  refine wpAny_bind (J.type.here (wpAny_bind (lk.here ?_)))
  have tail : wpAny (model X.prog X.w) X.A (tryCompare (.ref a) "__ne__" (.ref b)) (fun r s' => ∃ v, r = some v ∧ EP X pins σ Q v s') X.xe s := wpAny_mono one (fun o s' z => by obtain ⟨r, rfl, ep⟩ := z; exact ⟨_, rfl, ep⟩) fun _ _ e => e
  split
  · rename_i ne
    have no : PySem.W.subIn X.K tb (.ref C) = some false := by
      unfold PySem.W.notFirst at nf
      rw [Bool.or_eq_true] at nf
      rcases nf with e | e
      · rw [eq_of_beq e] at ne
        simp at ne
      · exact eq_of_beq e
    refine wpAny_bind ((PySem.W.looks_subIn KI no).here ?_)
    rw [if_neg (by decide)]
    exact wpAny_bind (wpAny_mono tail (fun o s' z => by obtain ⟨v, rfl, ep⟩ := z; exact wpAny_pure ep) fun _ _ e => e)
  · refine wpAny_bind (wpAny_pure ?_)
    rw [if_neg (by decide)]
    exact wpAny_bind (wpAny_mono tail (fun o s' z => by obtain ⟨v, rfl, ep⟩ := z; exact wpAny_pure ep) fun _ _ e => e)
end
end As

/-! ## H02 -/
namespace As
open PySem PySem.Spec PyProof.Rows L2
def top (i : Nat) : Stmt := PySem.Challenge.pw_asksold_k05_what_looks_see.main.body.getD i (.Pass ⟨0, 0, 0, 0⟩)
-- class AskError at 2
-- class BadPlan at 3
-- class BadFact at 4
-- class BadLook at 5
-- class BadStore at 6
-- class BadAsk at 7
-- class TooMany at 8
-- class BadPrices at 9
-- class NotForSale at 10
-- class BadAnswers at 11
-- class Contradiction at 12
-- class NoBuyer at 13
-- class BadDeed at 14
-- class BadStory at 15
-- class BadText at 16
abbrev s_is_number : Stmt := top 21
abbrev s_is_below : Stmt := top 22
abbrev s_is_name : Stmt := top 23
abbrev s_is_list : Stmt := top 24
abbrev s_is_pair : Stmt := top 25
abbrev s_is_column : Stmt := top 26
abbrev s_is_table : Stmt := top 27
abbrev s_have_distinct_names : Stmt := top 28
abbrev s_are_columns : Stmt := top 29
abbrev s_are_tables : Stmt := top 30
abbrev s_init : Stmt := inClass (top 31) 2
abbrev s_columns : Stmt := inClass (top 31) 3
abbrev s_tables : Stmt := inClass (top 31) 4
abbrev s_eq : Stmt := inClass (top 31) 5
abbrev s_size_of : Stmt := inClass (top 31) 6
abbrev s_sides : Stmt := inClass (top 31) 7
abbrev s_columns_of : Stmt := inClass (top 31) 8
abbrev s_spans : Stmt := inClass (top 31) 9
abbrev s_table_names : Stmt := inClass (top 31) 10
abbrev s_is_fact : Stmt := top 32
abbrev s_check_fact : Stmt := top 33
abbrev s_sees : Stmt := top 34
abbrev s_looks_that_see : Stmt := top 35
abbrev s_seers : Stmt := top 36
abbrev s_state : Stmt := top 38
abbrev s_draw : Stmt := top 39
abbrev s_pick : Stmt := top 40
abbrev s_mixed : Stmt := top 41
abbrev s_names : Stmt := top 42
abbrev s_lcolumns : Stmt := top 43
abbrev s_ltables : Stmt := top 44
abbrev s_said : Stmt := top 45
abbrev s_lfacts : Stmt := top 46
abbrev s_llooks : Stmt := top 47
abbrev s_lsees : Stmt := top 48
abbrev s_crossed : Stmt := top 49
abbrev s_law : Stmt := top 50
end As

/-! ## B1 -/
namespace As
open PySem PySem.Spec PyProof.Rows L2
section
variable {P : Program} {w : World} {K : PySem.W.Frag} {mg : Str → Option Value} {base : Heap}

def spNumber (K : PySem.W.Frag) : Sp := fun vs H Q _ => ∃ x t b1 b2, vs = [x] ∧ TyX K H x t ∧ PySem.W.kitOne K t (.type "int") = some b1 ∧ PySem.W.kitOne K t (.type "bool") = some b2 ∧ Q (.bl (b1 && !b2)) H
theorem sc_number : FnScope ["thing"] ["thing"] (defScope s_is_number) := ⟨rfl, rfl, rfl, by decide +kernel, rfl, by decide +kernel, by decide +kernel⟩
theorem ok_number {f : Addr} {fd : FuncData} (D : Df K mg "is_number" s_is_number ["thing"] f fd) (T : Bi mg) : FnOk P w K mg base CX0 1 f fd ["thing"] (spNumber K) := by
  refine D.F.ok sc_number (fun vs H Q E h => ?_) (fun cdv A outer s H vs Q E hr h => ?_)
  · obtain ⟨x, t, b1, b2, rfl, _⟩ := h; rfl
  · obtain ⟨x, t, b1, b2, rfl, ty, k1, k2, q⟩ := h
    refine ⟨_, pss_one (ps_ret (pe_and (pe_callB call_isi (by rfl) T.isinst (by decide +kernel) (pa_cons (pv 0) (pa_cons (pe_bltn (v := .ty "int") (by rfl) T.int (by decide +kernel) rfl) pa_nil)))
      (pe_one (pe_not (pe_callB call_isi (by rfl) T.isinst (by decide +kernel) (pa_cons (pv 0) (pa_cons (pe_bltn (v := .ty "bool") (by rfl) T.bool (by decide +kernel) rfl) pa_nil))))))), ?_⟩
    refine ⟨_, rfl, x, .ty "int", t, _, b1, rfl, .ty "int", ty, k1, b1, rfl, ?_⟩
    cases b1 with
    | false => exact iteF q
    | true => exact iteT ⟨_, rfl, x, .ty "bool", t, _, b2, rfl, .ty "bool", ty, k2, b2, rfl, q⟩
end
end As

/-! ## B2 -/
namespace As
open PySem PySem.Spec PyProof.Rows L2
section
variable {P : Program} {w : World} {K : PySem.W.Frag} {mg : Str → Option Value} {base : Heap}

def spName (K : PySem.W.Frag) : Sp := fun vs H Q _ => ∃ z, vs = [.str z] ∧ z.length ≤ sizeLine ∧ ∀ H', Same H H' → Q (.bl (nameB z)) H'
theorem sc_name : FnScope ["thing", "letter"] ["thing"] (defScope s_is_name) := ⟨rfl, rfl, rfl, by decide +kernel, rfl, by decide +kernel, by decide +kernel⟩
theorem ok_name {f : Addr} {fd : FuncData} (D : Df K mg "is_name" s_is_name ["thing"] f fd) (T : Bi mg) {t8 : Tok} (m8 : mg "MOST_LETTERS" = some (.int 8 t8)) : FnOk P w K mg base CX0 1 f fd ["thing"] (spName K) := by
  refine D.F.ok sc_name (fun vs H Q E h => ?_) (fun cdv A outer s H vs Q E hr h => ?_)
  · obtain ⟨z, rfl, _⟩ := h; rfl
  · obtain ⟨z, rfl, hz, q⟩ := h
    refine ⟨_, pss_cons (ps_if (PW.pt (pw_or (pt_not (pt_val (pe_callB call_isi (by rfl) T.isinst (by decide +kernel) (pa_cons (pv 0) (pa_cons (pe_bltn (v := .ty "str") (by rfl) T.str (by decide +kernel) rfl) pa_nil)))))
        (pw_or1 (pt_not (pt_chain op_le op_le pe_int (pe_callB call_len_str (by rfl) T.len PySem.boot_len (pa_cons (pv 0) pa_nil)) (pe_glob (v := .int 8) rfl m8 ⟨_, rfl⟩)))))) (pss_one (ps_ret pe_bl)) pss_nil)
      (pss_one (ps_ret (pe_callB (cr_all rfl) (by rfl) T.all (by decide +kernel) (pa_cons (pe_lc (own := [("letter", 1)]) (g := gName 1) (tt := tYes) rfl sc_name.nd (pi_str (pv 0)) (blkOk_by (N := ["thing", "letter"]) (sc := defScope s_is_name) (by decide +kernel))
        (fun _ _ _ _ _ => pg_name (i := 1) sc_name.nd rfl (Or.inl rfl)) (fun _ _ _ _ _ => pts_nil) (fun _ _ _ _ _ => pe_chain op_le_str op_le_str pe_str (pv 1) pe_str)) pa_nil)))), ?_⟩
    refine ⟨_, rfl, _, _, _, _, true, rfl, .ty "str", .base (.str z), kstr_str, true, rfl, ?_⟩
    refine iteF ?_
    refine ⟨_, rfl, z, rfl, hz, 1, _, rfl, rfl, _, rfl, ?_⟩
    have sq := @Same.refl H
    by_cases h1 : (1 : Int) ≤ z.length
    · rw [decide_eq_true h1]
      refine iteT ⟨_, _, rfl, rfl, _, rfl, ?_⟩
      by_cases h8 : (z.length : Int) ≤ 8
      · rw [decide_eq_true h8]
        refine iteF ⟨_, rfl, z, rfl, fun D hD => lc_same (B := H) walk_sign signs_length.symm (Same.refl H) hD (fun _ _ => trivial) (by rw [signs_length]; exact Nat.lt_of_le_of_lt (show z.cps.size ≤ 8 by have := @str_len z; omega) (by decide))
          (fun x => match x with | .str y => some (V.bl (y.cps.toList.all letter)) | _ => none) (fun x H2 Q1 Q2 hx s2 k1 k2 => ?_) (fun H' s' hD' => ?_)⟩
        · obtain ⟨c, hc, rfl⟩ := List.mem_map.mp hx
          refine ⟨rfl, ?_⟩
          refine iteT (B := Q2 H2) ?_
          refine ⟨_, rfl, _, _, rfl, rfl, _, rfl, ?_⟩
          have e1 : (!decide ((⟨#[c]⟩ : Str).cps.toList < (Str.ofString "a").cps.toList)) = decide (97 ≤ c) := one_le
          have e2 : (!decide ((Str.ofString "z").cps.toList < (⟨#[c]⟩ : Str).cps.toList)) = decide (c ≤ 122) := one_le
          rw [e1]
          by_cases ha : 97 ≤ c
          · rw [decide_eq_true ha]
            refine iteT ⟨_, _, rfl, rfl, ?_⟩
            rw [e2]
            refine k1 _ _ ?_ (Same.refl _)
            show some (V.bl (letter c && true)) = _
            unfold letter
            rw [decide_eq_true ha]; simp
          · rw [decide_eq_false ha]
            refine iteF (k1 _ _ ?_ (Same.refl _))
            show some (V.bl (letter c && true)) = _
            unfold letter
            rw [decide_eq_false ha]; simp
        · refine ⟨D, z.cps.toList.map letter, rfl, lof ?_, ?_⟩
          · rw [hD']
            congr 2
            unfold signs
            rw [List.filterMap_map, List.map_map, ← filterMap_some]
            congr 1
            funext c
            show some (V.bl (letter c && true)) = _
            rw [Bool.and_true]; rfl
          · rw [all_map]
            have e : nameB z = z.cps.toList.all letter := by
              unfold nameB
              rw [decide_eq_true (by omega)]; rfl
            rw [← e]
            exact q _ s'
      · rw [decide_eq_false h8]
        refine iteT ?_
        have e : nameB z = false := by
          unfold nameB
          rw [decide_eq_false (by omega)]; rfl
        rw [← e]
        exact q _ sq
    · rw [decide_eq_false h1]
      refine iteF ⟨_, rfl, ?_⟩
      refine iteT ?_
      have e : nameB z = false := by
        unfold nameB
        rw [decide_eq_false (by omega)]; rfl
      rw [← e]
      exact q _ sq
end
end As

/-! ## B3 -/
namespace As
open PySem PySem.Spec PyProof.Rows L2
/-- a list or a tuple -/
def Sq (H : Hp) (a : Addr) (xs : List V) : Prop := H a = some (.lst xs) ∨ H a = some (.tup xs)
theorem Sq.same {H H' : Hp} {a : Addr} {xs : List V} (h : Sq H a xs) (e : Same H H') : Sq H' a xs := h.elim (fun h => .inl (e _ _ h)) fun h => .inr (e _ _ h)
theorem Sq.or {K : PySem.W.Frag} {H : Hp} {a : Addr} {xs : List V} (h : Sq H a xs) : SqL K H a xs ∨ SqT K H a xs := h.elim (fun h => .inl (lof h)) fun h => .inr (tof h)
theorem kany1 {K : PySem.W.Frag} : PySem.W.kitAny K (.type "list") [.type "list", .type "tuple"] = some true := kitAny_cons klist_list (fun z => nomatch z) fun _ => rfl
theorem kany2 {K : PySem.W.Frag} : PySem.W.kitAny K (.type "tuple") [.type "list", .type "tuple"] = some true := kitAny_cons ktup_list (fun _ => kitAny_cons ktup_tup (fun z => nomatch z) fun _ => rfl) fun z => nomatch z

theorem bl_true {p : Prop} [Decidable p] (h : p) : V.bl (decide p) = V.bl true := by rw [decide_eq_true h]
abbrev CRow := Addr × Str × Int
def cv (r : CRow) : V := .ref r.1
structure ColsOk (H : Hp) (rs : List CRow) : Prop where
  row : ∀ r ∈ rs, H r.1 = some (.tup [.str r.2.1, .int r.2.2])
  len : 1 ≤ rs.length ∧ rs.length ≤ 6
  nm : ∀ r ∈ rs, nameB r.2.1 = true
  sz : ∀ r ∈ rs, 1 ≤ r.2.2 ∧ r.2.2 ≤ 6
  nd : (rs.map (·.2.1)).Nodup
abbrev TRow := Addr × Str × Addr × List Str
def tv (r : TRow) : V := .ref r.1
structure TabsOk (H : Hp) (cs : List Str) (rs : List TRow) : Prop where
  row : ∀ r ∈ rs, H r.1 = some (.tup [.str r.2.1, .ref r.2.2.1])
  prt : ∀ r ∈ rs, H r.2.2.1 = some (.tup (r.2.2.2.map V.str))
  len : 1 ≤ rs.length ∧ rs.length ≤ 8
  nm : ∀ r ∈ rs, nameB r.2.1 = true
  two : ∀ r ∈ rs, 1 ≤ r.2.2.2.length ∧ r.2.2.2.length ≤ 2
  own : ∀ r ∈ rs, ∀ x ∈ r.2.2.2, x ∈ cs
  nd : (rs.map (·.2.1)).Nodup
theorem ColsOk.same {H H' : Hp} {rs : List CRow} (h : ColsOk H rs) (e : Same H H') : ColsOk H' rs := ⟨fun r hr => e _ _ (h.row r hr), h.len, h.nm, h.sz, h.nd⟩
theorem TabsOk.same {H H' : Hp} {cs : List Str} {rs : List TRow} (h : TabsOk H cs rs) (e : Same H H') : TabsOk H' cs rs := ⟨fun r hr => e _ _ (h.row r hr), fun r hr => e _ _ (h.prt r hr), h.len, h.nm, h.two, h.own, h.nd⟩
theorem name_len {z : Str} (h : nameB z = true) : 1 ≤ z.length ∧ z.length ≤ 8 := by
  unfold nameB at h
  rw [Bool.and_eq_true] at h
  exact of_decide_eq_true h.1
theorem name_line {z : Str} (h : nameB z = true) : z.length ≤ sizeLine := Nat.le_trans (name_len h).2 (by decide)
theorem inV_str {x : Str} {xs : List Str} : inV (.str x) (xs.map V.str) = decide (x ∈ xs) := by
  unfold inV
  induction xs with
  | nil => rfl
  | cons y r ih =>
    rw [List.map_cons, List.any_cons, ih]
    show ((y == x) || decide (x ∈ r)) = decide (x ∈ y :: r)
    by_cases h : y = x
    · subst h; simp
    · have h' : ¬ x = y := fun e => h e.symm
      rw [(beq_eq_false_iff_ne).mpr h]; simp [h']
theorem flat_strs {xs : List Str} : (xs.map V.str).all flatV = true := by
  rw [List.all_map]; induction xs with
  | nil => rfl
  | cons a r ih => rw [List.all_cons, ih]; rfl

section
variable {P : Program} {w : World} {K : PySem.W.Frag} {mg : Str → Option Value} {base : Heap}

def spList (K : PySem.W.Frag) : Sp := fun vs H Q _ => ∃ a xs, vs = [.ref a] ∧ Sq H a xs ∧ ∀ H', Same H H' → Q (.bl true) H'
theorem sc_list : FnScope ["thing"] ["thing"] (defScope s_is_list) := ⟨rfl, rfl, rfl, by decide +kernel, rfl, by decide +kernel, by decide +kernel⟩
theorem ok_list {f : Addr} {fd : FuncData} (D : Df K mg "is_list" s_is_list ["thing"] f fd) (T : Bi mg) : FnOk P w K mg base CX0 1 f fd ["thing"] (spList K) := by
  refine D.F.ok sc_list (fun vs H Q E h => ?_) (fun cdv A outer s H vs Q E hr h => ?_)
  · obtain ⟨a, xs, rfl, _⟩ := h; rfl
  · obtain ⟨a, xs, rfl, hs, q⟩ := h
    refine ⟨_, pss_one (ps_ret (pe_callB call_isiT (by rfl) T.isinst (by decide +kernel) (pa_cons (pv 0) (pa_cons (pe_tup (pa_cons (pe_bltn (v := .ty "list") (by rfl) T.list (by decide +kernel) rfl)
      (pa_cons (pe_bltn (v := .ty "tuple") (by rfl) T.tuple (by decide +kernel) rfl) pa_nil))) pa_nil)))), ?_⟩
    refine ⟨_, rfl, by show 2 ≤ sizeLine; decide, fun p hp => ?_⟩
    have s1 : Same H (upd H p (.tup [.ty "list", .ty "tuple"])) := same_new hp
    rcases hs with hs | hs
    · exact ⟨_, p, _, .type "list", _, true, rfl, upd_same, .cons (.ty _) (.cons (.ty _) .nil), .base (.lst (s1 _ _ hs)), kany1, q _ s1⟩
    · exact ⟨_, p, _, .type "tuple", _, true, rfl, upd_same, .cons (.ty _) (.cons (.ty _) .nil), .base (.tup (s1 _ _ hs)), kany2, q _ s1⟩

def spPair (K : PySem.W.Frag) : Sp := fun vs H Q _ => ∃ a xs, vs = [.ref a] ∧ H a = some (.tup xs) ∧ Q (.bl (decide (xs.length = 2))) H
theorem sc_pair : FnScope ["thing"] ["thing"] (defScope s_is_pair) := ⟨rfl, rfl, rfl, by decide +kernel, rfl, by decide +kernel, by decide +kernel⟩
theorem ok_pair {f : Addr} {fd : FuncData} (D : Df K mg "is_pair" s_is_pair ["thing"] f fd) (T : Bi mg) : FnOk P w K mg base CX0 1 f fd ["thing"] (spPair K) := by
  refine D.F.ok sc_pair (fun vs H Q E h => ?_) (fun cdv A outer s H vs Q E hr h => ?_)
  · obtain ⟨a, xs, rfl, _⟩ := h; rfl
  · obtain ⟨a, xs, rfl, hs, q⟩ := h
    refine ⟨_, pss_one (ps_ret (pe_and (pe_callB call_isi (by rfl) T.isinst (by decide +kernel) (pa_cons (pv 0) (pa_cons (pe_bltn (v := .ty "tuple") (by rfl) T.tuple (by decide +kernel) rfl) pa_nil)))
      (pe_one (pe_cmpR op_eq (pe_callB call_len_seq (by rfl) T.len PySem.boot_len (pa_cons (pv 0) pa_nil)) pe_int (nomark _))))), ?_⟩
    refine ⟨_, rfl, _, _, _, _, true, rfl, .ty "tuple", .base (.tup hs), ktup_tup, true, rfl, iteT ?_⟩
    refine ⟨_, rfl, a, xs, rfl, .inr (tof hs), rfl, ?_⟩
    have e : decide (V.int (xs.length : Int) = V.int 2) = decide (xs.length = 2) := by
      by_cases h : xs.length = 2
      · rw [h]; rfl
      · rw [decide_eq_false h]; exact decide_eq_false fun z => h (by injection z with z; omega)
    rw [e]
    exact q

def spColumn (K : PySem.W.Frag) : Sp := fun vs H Q _ => ∃ t n m, vs = [.ref t] ∧ H t = some (.tup [.str n, .int m]) ∧ nameB n = true ∧ (1 ≤ m ∧ m ≤ 6) ∧ ∀ H', Same H H' → Q (.bl true) H'
theorem sc_column : FnScope ["thing"] ["thing"] (defScope s_is_column) := ⟨rfl, rfl, rfl, by decide +kernel, rfl, by decide +kernel, by decide +kernel⟩
theorem ok_column {f fn fp fu : Addr} {fd dn dp du : FuncData} (D : Df K mg "is_column" s_is_column ["thing"] f fd) (T : Bi mg) {t6 : Tok} (m6 : mg "MOST_VALUES" = some (.int 6 t6))
    (Dp : Df K mg "is_pair" s_is_pair ["thing"] fp dp) (Gp : FnOk P w K mg base CX0 1 fp dp ["thing"] (spPair K)) (Dn : Df K mg "is_name" s_is_name ["thing"] fn dn) (Gn : FnOk P w K mg base CX0 1 fn dn ["thing"] (spName K))
    (Du : Df K mg "is_number" s_is_number ["thing"] fu du) (Gu : FnOk P w K mg base CX0 1 fu du ["thing"] (spNumber K)) : FnOk P w K mg base CX0 2 f fd ["thing"] (spColumn K) := by
  refine D.F.ok sc_column (fun vs H Q E h => ?_) (fun cdv A outer s H vs Q E hr h => ?_)
  · obtain ⟨t, n, m, rfl, _⟩ := h; rfl
  · obtain ⟨t, n, m, rfl, ht, hn, hm, q⟩ := h
    refine ⟨_, pss_cons (ps_if (PW.pt (pw_or (pt_not (pt_val (pcall Dp Gp hr (pa_cons (pv 0) pa_nil)))) (pw_or1 (pt_not (pt_val (pcall Dn Gn hr (pa_cons (pe_ix ix_tup (pv 0) pe_int (fun _ _ => rfl)) pa_nil)))))))
        (pss_one (ps_ret pe_bl)) pss_nil)
      (pss_one (ps_ret (pe_and (pcall Du Gu hr (pa_cons (pe_ix ix_tup (pv 0) pe_int (fun _ _ => rfl)) pa_nil)) (pe_one (pe_chain op_le op_le pe_int (pe_ix ix_tup (pv 0) pe_int (fun _ _ => rfl)) (pe_glob (v := .int 6) rfl m6 ⟨_, rfl⟩)))))), ?_⟩
    refine ⟨_, rfl, t, _, rfl, ht, true, rfl, iteF ?_⟩
    refine ⟨_, rfl, t, _, 0, .str n, rfl, rfl, tof ht, rfl, n, rfl, name_line hn, fun H1 s1 => ?_⟩
    rw [hn]
    refine ⟨true, rfl, iteF ?_⟩
    have h1 := s1 _ _ ht
    refine ⟨_, rfl, t, _, 1, .int m, rfl, rfl, tof h1, rfl, .int m, .type "int", true, false, rfl, .base (.int m), kint_int, kint_bool, true, rfl, iteT ?_⟩
    refine ⟨_, rfl, t, _, 1, .int m, rfl, rfl, tof h1, rfl, 1, m, rfl, rfl, true, bl_true hm.1, iteT ?_⟩
    refine ⟨m, 6, rfl, rfl, ?_⟩
    show Q (.bl (decide (m ≤ 6))) H1
    rw [decide_eq_true hm.2]
    exact q _ s1

def spTable (K : PySem.W.Frag) : Sp := fun vs H Q _ => ∃ (t : Addr) (n : Str) (p : Addr) (ps : List Str) (c : Addr) (cs : List Str), vs = [.ref t, .ref c] ∧ H t = some (.tup [.str n, .ref p]) ∧ H p = some (.tup (ps.map V.str)) ∧ H c = some (.lst (cs.map V.str)) ∧ nameB n = true ∧
  (1 ≤ ps.length ∧ ps.length ≤ 2) ∧ (∀ x ∈ ps, x ∈ cs) ∧ ∀ H', Same H H' → Q (.bl true) H'
theorem sc_table : FnScope ["thing", "column_names", "names", "name"] ["thing", "column_names"] (defScope s_is_table) := ⟨rfl, rfl, rfl, by decide +kernel, rfl, by decide +kernel, by decide +kernel⟩
theorem ok_table {f fn fp : Addr} {fd dn dp : FuncData} (D : Df K mg "is_table" s_is_table ["thing", "column_names"] f fd) (T : Bi mg) {t2 : Tok} (m2 : mg "MOST_SIDES" = some (.int 2 t2))
    (Dp : Df K mg "is_pair" s_is_pair ["thing"] fp dp) (Gp : FnOk P w K mg base CX0 1 fp dp ["thing"] (spPair K)) (Dn : Df K mg "is_name" s_is_name ["thing"] fn dn) (Gn : FnOk P w K mg base CX0 1 fn dn ["thing"] (spName K)) :
    FnOk P w K mg base CX0 2 f fd ["thing", "column_names"] (spTable K) := by
  refine D.F.ok sc_table (fun vs H Q E h => ?_) (fun cdv A outer s H vs Q E hr h => ?_)
  · obtain ⟨t, n, p, ps, c, cs, rfl, _⟩ := h; rfl
  · obtain ⟨t, n, p, ps, c, cs, rfl, ht, hp, hc, hn, hl, ho, q⟩ := h
    refine ⟨_, pss_cons (ps_if (PW.pt (pw_or (pt_not (pt_val (pcall Dp Gp hr (pa_cons (pv 0) pa_nil)))) (pw_or1 (pt_not (pt_val (pcall Dn Gn hr (pa_cons (pe_ix ix_tup (pv 0) pe_int (fun _ _ => rfl)) pa_nil)))))))
        (pss_one (ps_ret pe_bl)) pss_nil)
      (pss_cons (ps_set (i := 2) sc_table.nd rfl (Or.inl rfl) (pe_ix ix_tup (pv 0) pe_int (fun _ _ => rfl)))
      (pss_cons (ps_if (PW.pt (pw_or (pt_not (pt_val (pe_callB call_isi (by rfl) T.isinst (by decide +kernel) (pa_cons (pv 2) (pa_cons (pe_bltn (v := .ty "tuple") (by rfl) T.tuple (by decide +kernel) rfl) pa_nil)))))
          (pw_or1 (pt_not (pt_chain op_le op_le pe_int (pe_callB call_len_seq (by rfl) T.len PySem.boot_len (pa_cons (pv 2) pa_nil)) (pe_glob (v := .int 2) rfl m2 ⟨_, rfl⟩)))))) (pss_one (ps_ret pe_bl)) pss_nil)
      (pss_one (ps_ret (pe_callB (cr_all rfl) (by rfl) T.all (by decide +kernel) (pa_cons (pe_lc (own := [("name", 3)]) (g := gName 3) (tt := tYes) rfl sc_table.nd (pi_tup (pv 2)) (blkOk_by (N := ["thing", "column_names", "names", "name"]) (sc := defScope s_is_table) (by decide +kernel))
        (fun _ _ _ _ _ => pg_name (i := 3) sc_table.nd rfl (Or.inl rfl)) (fun _ _ _ _ _ => pts_nil) (fun _ _ _ _ _ => pe_cmpR (inK K) (pv 3) (pv 1) rfl)) pa_nil)))))), ?_⟩
    refine ⟨_, rfl, t, _, rfl, ht, true, rfl, iteF ?_⟩
    refine ⟨_, rfl, t, _, 0, .str n, rfl, rfl, tof ht, rfl, n, rfl, name_line hn, fun H1 s1 => ?_⟩
    rw [hn]
    refine ⟨true, rfl, iteF ?_⟩
    refine ⟨_, rfl, t, _, 1, .ref p, rfl, rfl, tof (s1 _ _ ht), rfl, ?_⟩
    have hp1 := s1 _ _ hp
    refine ⟨_, rfl, _, _, _, _, true, rfl, .ty "tuple", .base (.tup hp1), ktup_tup, true, rfl, iteF ?_⟩
    refine ⟨_, rfl, p, _, rfl, .inr (tof hp1), 1, _, rfl, rfl, true, bl_true (by rw [List.length_map]; omega), iteT ?_⟩
    refine ⟨_, _, rfl, rfl, true, bl_true (by rw [List.length_map]; omega), iteF ?_⟩
    refine ⟨_, rfl, p, rfl, ⟨_, tof hp1⟩, fun D hD => lc_same (B := H1) walk_tup rfl (Same.refl H1) hD (fun H e => tof (e _ _ hp1)) (by rw [List.length_map]; exact Nat.lt_of_le_of_lt hl.2 (by decide)) (fun _ => some (.bl true)) (fun x H2 Q1 Q2 hx s2 k1 k2 => ?_) (fun H' s' hD' => ?_)⟩
    · obtain ⟨y, hy, rfl⟩ := List.mem_map.mp hx
      refine ⟨rfl, ?_⟩
      refine iteT (B := Q2 H2) ?_
      refine ⟨_, rfl, _, rfl, c, _, rfl, .inl (lof (s2 _ _ (s1 _ _ hc))), rfl, flat_strs, ?_⟩
      show Q1 (.bl (inV (.str y) (cs.map V.str))) H2
      rw [inV_str, decide_eq_true (ho y hy)]
      exact k1 _ _ rfl (Same.refl _)
    · refine ⟨D, ps.map fun _ => true, rfl, lof ?_, ?_⟩
      · rw [hD']
        congr 2
        rw [filterMap_some, List.map_map, List.map_map]; rfl
      · have e : (ps.map fun _ => true).all id = true := by
          rw [List.all_map]; simp
        rw [e]
        exact q _ (s1.trans s')
end
end As

/-! ## B4 -/
namespace As
open PySem PySem.Spec PyProof.Rows L2
/-- the class Plan as the module has it -/
structure PlC (K : PySem.W.Frag) (mg : Str → Option Value) (C : Addr) : Prop where
  m : mg "Plan" = some (.ref C)
  cls : ∃ mc u6 u8, ClX.CRead K C mc ∧ ClX.CVal K C mc "MOST_COLUMNS" (.int 6) u6 ∧ ClX.CVal K C mc "MOST_TABLES" (.int 8) u8
section
variable {P : Program} {w : World} {K : PySem.W.Frag} {mg : Str → Option Value} {base : Heap}

/-- rows: the place of a pair, its first item, its second -/
abbrev PRow := Addr × Str × V
def rv (r : PRow) : V := .ref r.1
def spDist (K : PySem.W.Frag) : Sp := fun vs H Q _ => ∃ (a : Addr) (rs : List PRow), vs = [.ref a] ∧ Sq H a (rs.map rv) ∧ (∀ r ∈ rs, H r.1 = some (.tup [.str r.2.1, r.2.2])) ∧ (rs.map (·.2.1)).Nodup ∧ rs.length ≤ 8 ∧ ∀ H', Same H H' → Q (.bl true) H'
theorem sc_dist : FnScope ["pairs", "pair"] ["pairs"] (defScope s_have_distinct_names) := ⟨rfl, rfl, rfl, by decide +kernel, rfl, by decide +kernel, by decide +kernel⟩
theorem nodup_key : ∀ {xs : List Str}, xs.Nodup → (xs.map (Sum.inr : Str → Key)).Nodup := fun h => by
  rw [List.Nodup, List.pairwise_map]
  exact h.imp fun h e => h (by injection e)
theorem ok_dist {f : Addr} {fd : FuncData} (D : Df K mg "have_distinct_names" s_have_distinct_names ["pairs"] f fd) (T : Bi mg) : FnOk P w K mg base CX0 1 f fd ["pairs"] (spDist K) := by
  refine D.F.ok sc_dist (fun vs H Q E h => ?_) (fun cdv A outer s H vs Q E hr h => ?_)
  · obtain ⟨a, rs, rfl, _⟩ := h; rfl
  · obtain ⟨a, rs, rfl, hs, hrow, nd, hl, q⟩ := h
    refine ⟨_, pss_one (ps_ret (pe_cmpR op_eq (pe_callB call_lenK (by rfl) T.len PySem.boot_len (pa_cons (pe_scK (own := [("pair", 1)]) (g := gName 1) (tt := tYes) rfl sc_dist.nd (pi_either (pi_list (pv 0)) (pi_tup (pv 0)))
        (blkOk_by (N := ["pairs", "pair"]) (sc := defScope s_have_distinct_names) (by decide +kernel)) (fun _ _ _ _ _ => pg_name (i := 1) sc_dist.nd rfl (Or.inl rfl)) (fun _ _ _ _ _ => pts_nil) (fun _ _ _ _ _ => pe_ix (ixT K) (pv 1) pe_int (fun _ _ => rfl))) pa_nil))
      (pe_callB call_len_seq (by rfl) T.len PySem.boot_len (pa_cons (pv 0) pa_nil)) (nomark _))), ?_⟩
    have turn : ∀ (x : V) (H1 : Hp) (Q1 : VK) (Q2 : Hp → Prop), x ∈ rs.map rv → Same H H1 → (∀ H4, Same H1 H4 → Q1 (kV (match rs.find? (fun r => decide (rv r = x)) with | some r => (.inr r.2.1 : Key) | none => .inl 0)) H4) →
        gName 1 x (wipe (L2.start ["pairs", "pair"] [.ref a]) [1]) H1 fun σ2 H2 => wipe σ2 [1] = wipe (L2.start ["pairs", "pair"] [.ref a]) [1] ∧ tYes σ2 H2 fun b H3 => if b = true then tOp (rIxT K) (tVar 1) (tC (.int 0)) σ2 H3 Q1 else Q2 H3 := by
      intro x H1 Q1 Q2 hx s1 k
      refine ⟨rfl, ?_⟩
      refine iteT (B := Q2 H1) ?_
      cases hf : rs.find? (fun r => decide (rv r = x)) with
      | none =>
        obtain ⟨r, hr', e⟩ := List.mem_map.mp hx
        exact absurd (List.find?_eq_none.mp hf r hr') (by simp [e])
      | some r =>
        have hm := List.mem_of_find?_eq_some hf
        have he : rv r = x := by have z := List.find?_some hf; simpa using z
        subst he
        rw [hf] at k
        exact ⟨_, rfl, r.1, _, 0, .str r.2.1, rfl, rfl, tof (s1 _ _ (hrow r hm)), rfl, k _ (Same.refl _)⟩
    have keys : ((rs.map rv).map (fun x => match rs.find? (fun r => decide (rv r = x)) with | some r => (.inr r.2.1 : Key) | none => .inl 0)).Nodup := by
      have e : (rs.map rv).map (fun x => match rs.find? (fun r => decide (rv r = x)) with | some r => (.inr r.2.1 : Key) | none => .inl 0) = (rs.map (·.2.1)).map Sum.inr := by
        rw [List.map_map, List.map_map]
        refine List.map_congr_left fun r hm => ?_
        show (match rs.find? (fun r' => decide (rv r' = rv r)) with | some r => (.inr r.2.1 : Key) | none => .inl 0) = .inr r.2.1
        cases hf : rs.find? (fun r' => decide (rv r' = rv r)) with
        | none => exact absurd (List.find?_eq_none.mp hf r hm) (by simp)
        | some r' =>
          have hm' := List.mem_of_find?_eq_some hf
          have he : rv r' = rv r := by have z := List.find?_some hf; simpa using z
          have h1 := hrow r hm
          have h2 := hrow r' hm'
          have ha : r'.1 = r.1 := by injection he
          rw [ha, h1] at h2
          injection h2 with h2; injection h2 with h2; injection h2 with h2; injection h2 with h2
          show Sum.inr r'.2.1 = _
          rw [h2]
      rw [e]; exact nodup_key nd
    have fin : ∀ (D : Addr) (H' : Hp) (S : Key → Bool), Same H H' → H' D = some (SetK P w D S (rs.map rv).length) →
        tCons (tVar 0) tNil (L2.start ["pairs", "pair"] [.ref a]) H' (fun vs H1 => ∃ p ys, vs = [V.ref p] ∧ (SqL K H1 p ys ∨ SqT K H1 p ys) ∧ rEq (.int ((rs.map rv).length : Nat)) (.int (ys.length : Nat)) H1 Q) := fun D H' S s' hD => by
      refine ⟨_, rfl, a, rs.map rv, rfl, (hs.same s').or, rfl, ?_⟩
      rw [decide_eq_true rfl]
      exact q _ s'
    have small : (rs.map rv).length + 1 < scanBound := by rw [List.length_map]; exact Nat.lt_of_le_of_lt (Nat.succ_le_succ hl) (by decide)
    rcases hs with hs | hs
    · refine .inl ⟨_, rfl, a, rfl, ⟨_, lof hs⟩, fun D hD => sc_same walk_list rfl (Same.refl H) hD (fun H e => lof (e _ _ hs)) small _ keys turn (fun H' S s' hD' => ?_)⟩
      exact ⟨D, S, _, rfl, hD', fin D H' S s' hD'⟩
    · refine .inr ⟨_, rfl, a, rfl, ⟨_, tof hs⟩, fun D hD => sc_same walk_tup rfl (Same.refl H) hD (fun H e => tof (e _ _ hs)) small _ keys turn (fun H' S s' hD' => ?_)⟩
      exact ⟨D, S, _, rfl, hD', fin D H' S s' hD'⟩

def colRow (r : CRow) : PRow := (r.1, r.2.1, .int r.2.2)
def tabRow (r : TRow) : PRow := (r.1, r.2.1, .ref r.2.2.1)
def spColumns (K : PySem.W.Frag) : Sp := fun vs H Q _ => ∃ (a : Addr) (rs : List CRow), vs = [.ref a] ∧ Sq H a (rs.map cv) ∧ ColsOk H rs ∧ ∀ H', Same H H' → Q (.bl true) H'
theorem sc_columns : FnScope ["thing", "item"] ["thing"] (defScope s_are_columns) := ⟨rfl, rfl, rfl, by decide +kernel, rfl, by decide +kernel, by decide +kernel⟩
theorem ok_columns {f fl fc fh C : Addr} {fd dl dc dh : FuncData} (D : Df K mg "are_columns" s_are_columns ["thing"] f fd) (T : Bi mg) (L : PlC K mg C)
    (Dl : Df K mg "is_list" s_is_list ["thing"] fl dl) (Gl' : FnOk P w K mg base CX0 1 fl dl ["thing"] (spList K)) (Dc : Df K mg "is_column" s_is_column ["thing"] fc dc) (Gc : FnOk P w K mg base CX0 2 fc dc ["thing"] (spColumn K))
    (Dh : Df K mg "have_distinct_names" s_have_distinct_names ["pairs"] fh dh) (Gh : FnOk P w K mg base CX0 1 fh dh ["pairs"] (spDist K)) : FnOk P w K mg base CX0 3 f fd ["thing"] (spColumns K) := by
  refine D.F.ok sc_columns (fun vs H Q E h => ?_) (fun cdv A outer s H vs Q E hr h => ?_)
  · obtain ⟨a, rs, rfl, _⟩ := h; rfl
  · obtain ⟨a, rs, rfl, hs, ok, q⟩ := h
    obtain ⟨mc, u6, u8, rd, c6, c8⟩ := L.cls
    have hr1 : Room 1 _ := hr.mono (by decide)
    refine ⟨_, pss_cons (ps_if (PW.pt (pw_or (pt_not (pt_val (pcall Dl Gl' hr1 (pa_cons (pv 0) pa_nil)))) (pw_or1 (pt_not (pt_chain op_le op_le pe_int (pe_callB call_len_seq (by rfl) T.len PySem.boot_len (pa_cons (pv 0) pa_nil)) (ClX.pe_cval (pe_glob (v := .ref C) rfl L.m rfl)))))))
        (pss_one (ps_ret pe_bl)) pss_nil)
      (pss_one (ps_ret (pe_and (pe_callB (cr_all rfl) (by rfl) T.all (by decide +kernel) (pa_cons (pe_lc (own := [("item", 1)]) (g := gName 1) (tt := tYes) rfl sc_columns.nd (pi_either (pi_list (pv 0)) (pi_tup (pv 0)))
          (blkOk_by (N := ["thing", "item"]) (sc := defScope s_are_columns) (by decide +kernel)) (fun _ _ _ _ _ => pg_name (i := 1) sc_columns.nd rfl (Or.inl rfl)) (fun _ _ _ _ _ => pts_nil) (fun _ _ _ _ _ => pcall Dc Gc hr (pa_cons (pv 1) pa_nil))) pa_nil))
        (pe_one (pcall Dh Gh hr1 (pa_cons (pv 0) pa_nil)))))), ?_⟩
    refine ⟨_, rfl, a, _, rfl, hs, fun H1 s1 => ⟨true, rfl, iteF ?_⟩⟩
    have hs1 := hs.same s1
    refine ⟨_, rfl, a, _, rfl, hs1.or, 1, _, rfl, rfl, true, bl_true (by rw [List.length_map]; have := ok.len; omega), iteT ?_⟩
    refine ⟨C, mc, .int 6, u6, rfl, rd, c6, _, _, rfl, rfl, true, bl_true (by rw [List.length_map]; have := ok.len; omega), iteF ?_⟩
    have ok1 := ok.same s1
    have turn : ∀ (x : V) (H2 : Hp) (Q1 : VK) (Q2 : Hp → Prop), x ∈ rs.map cv → Same H1 H2 → (∀ y H4, some (V.bl true) = some y → Same H2 H4 → Q1 y H4) → (∀ H3, some (V.bl true) = none → Same H2 H3 → Q2 H3) →
        gName 1 x (wipe (L2.start ["thing", "item"] [.ref a]) [1]) H2 fun σ2 H3 => wipe σ2 [1] = wipe (L2.start ["thing", "item"] [.ref a]) [1] ∧ tYes σ2 H3 fun b H4 => if b = true then tCall (spColumn K) [] E0 (tCons (tVar 1) tNil) σ2 H4 Q1 else Q2 H4 := by
      intro x H2 Q1 Q2 hx s2 k1 k2
      obtain ⟨r, hm, rfl⟩ := List.mem_map.mp hx
      refine ⟨rfl, ?_⟩
      refine iteT (B := Q2 H2) ?_
      exact ⟨_, rfl, r.1, r.2.1, r.2.2, rfl, s2 _ _ (ok1.row r hm), ok.nm r hm, ok.sz r hm, fun H4 s4 => k1 _ _ rfl s4⟩
    have fin : ∀ (D : Addr) (H' : Hp), Same H1 H' → H' D = some (.lst ((rs.map cv).filterMap fun _ => some (V.bl true))) →
        rAll K [.ref D] H' (fun x H2 => ∃ c, x = .bl c ∧ if c = true then tCall (spDist K) [] E0 (tCons (tVar 0) tNil) (L2.start ["thing", "item"] [.ref a]) H2 Q else Q (.bl false) H2) := by
      intro D H' s' hD
      refine ⟨D, rs.map fun _ => true, rfl, lof ?_, ?_⟩
      · rw [hD]; congr 2; rw [filterMap_some, List.map_map, List.map_map]; rfl
      · have e : (rs.map fun _ => true).all id = true := by rw [List.all_map]; simp
        rw [e]
        refine ⟨true, rfl, iteT ⟨_, rfl, a, rs.map colRow, rfl, ?_, ?_, ?_, ?_, fun H2 s2 => q _ ((s1.trans s').trans s2)⟩⟩
        · have e : (rs.map colRow).map rv = rs.map cv := by rw [List.map_map]; rfl
          rw [e]; exact hs1.same s'
        · intro r hm
          obtain ⟨r0, hm0, rfl⟩ := List.mem_map.mp hm
          exact s' _ _ (ok1.row r0 hm0)
        · rw [List.map_map]; exact ok.nd
        · rw [List.length_map]; have := ok.len; omega
    have small : (rs.map cv).length < sizeLine := by rw [List.length_map]; exact Nat.lt_of_le_of_lt ok.len.2 (by decide)
    rcases hs1 with hs1 | hs1
    · exact .inl ⟨_, rfl, a, rfl, ⟨_, lof hs1⟩, fun D hD => lc_same walk_list rfl (Same.refl H1) hD (fun H e => lof (e _ _ hs1)) small (fun _ => some (.bl true)) turn fun H' s' hD' => fin D H' s' hD'⟩
    · exact .inr ⟨_, rfl, a, rfl, ⟨_, tof hs1⟩, fun D hD => lc_same walk_tup rfl (Same.refl H1) hD (fun H e => tof (e _ _ hs1)) small (fun _ => some (.bl true)) turn fun H' s' hD' => fin D H' s' hD'⟩

def spTables (K : PySem.W.Frag) : Sp := fun vs H Q _ => ∃ (a c : Addr) (rs : List TRow) (cs : List CRow), vs = [.ref a, .ref c] ∧ Sq H a (rs.map tv) ∧ Sq H c (cs.map cv) ∧ ColsOk H cs ∧ TabsOk H (cs.map (·.2.1)) rs ∧ ∀ H', Same H H' → Q (.bl true) H'
theorem sc_tables : FnScope ["thing", "columns", "column_names", "name", "many", "item"] ["thing", "columns"] (defScope s_are_tables) := ⟨rfl, rfl, rfl, by decide +kernel, rfl, by decide +kernel, by decide +kernel⟩
theorem ok_tables {f fl fc fh C : Addr} {fd dl dc dh : FuncData} (D : Df K mg "are_tables" s_are_tables ["thing", "columns"] f fd) (T : Bi mg) (L : PlC K mg C)
    (Dl : Df K mg "is_list" s_is_list ["thing"] fl dl) (Gl' : FnOk P w K mg base CX0 1 fl dl ["thing"] (spList K)) (Dc : Df K mg "is_table" s_is_table ["thing", "column_names"] fc dc) (Gc : FnOk P w K mg base CX0 2 fc dc ["thing", "column_names"] (spTable K))
    (Dh : Df K mg "have_distinct_names" s_have_distinct_names ["pairs"] fh dh) (Gh : FnOk P w K mg base CX0 1 fh dh ["pairs"] (spDist K)) : FnOk P w K mg base CX0 3 f fd ["thing", "columns"] (spTables K) := by
  refine D.F.ok sc_tables (fun vs H Q E h => ?_) (fun cdv A outer s H vs Q E hr h => ?_)
  · obtain ⟨a, c, rs, cs, rfl, _⟩ := h; rfl
  · obtain ⟨a, c, rs, cs, rfl, hs, hcs, okc, ok, q⟩ := h
    obtain ⟨mc, u6, u8, rd, c6, c8⟩ := L.cls
    have hr1 : Room 1 _ := hr.mono (by decide)
    refine ⟨_, pss_cons (ps_if (PW.pt (pw_or (pt_not (pt_val (pcall Dl Gl' hr1 (pa_cons (pv 0) pa_nil)))) (pw_or1 (pt_not (pt_chain op_le op_le pe_int (pe_callB call_len_seq (by rfl) T.len PySem.boot_len (pa_cons (pv 0) pa_nil)) (ClX.pe_cval (pe_glob (v := .ref C) rfl L.m rfl)))))))
        (pss_one (ps_ret pe_bl)) pss_nil)
      (pss_cons (ps_set (i := 2) sc_tables.nd rfl (Or.inr rfl) (pe_lc (own := [("name", 3), ("many", 4)]) (g := gTup K 2 (gCons (gName 3) (gCons (gName 4) gNil))) (tt := tYes) rfl sc_tables.nd (pi_either (pi_list (pv 1)) (pi_tup (pv 1)))
          (blkOk_by (N := ["thing", "columns", "column_names", "name", "many", "item"]) (sc := defScope s_are_tables) (by decide +kernel)) (fun _ _ _ _ _ => pgT K (pg_tup rfl (pgs_cons (pg_name (i := 3) sc_tables.nd rfl (Or.inl rfl)) (pgs_cons (pg_name (i := 4) sc_tables.nd rfl (Or.inl rfl)) pgs_nil))))
          (fun _ _ _ _ _ => pts_nil) (fun _ _ _ _ _ => pv 3)))
      (pss_one (ps_ret (pe_and (pe_callB (cr_all rfl) (by rfl) T.all (by decide +kernel) (pa_cons (pe_lc (own := [("item", 5)]) (g := gName 5) (tt := tYes) rfl sc_tables.nd (pi_either (pi_list (pv 0)) (pi_tup (pv 0)))
          (blkOk_by (N := ["thing", "columns", "column_names", "name", "many", "item"]) (sc := defScope s_are_tables) (by decide +kernel)) (fun _ _ _ _ _ => pg_name (i := 5) sc_tables.nd rfl (Or.inl rfl)) (fun _ _ _ _ _ => pts_nil)
          (fun _ _ _ _ _ => pcall Dc Gc hr (pa_cons (pv 5) (pa_cons (pv 2) pa_nil)))) pa_nil))
        (pe_one (pcall Dh Gh hr1 (pa_cons (pv 0) pa_nil))))))), ?_⟩
    refine ⟨_, rfl, a, _, rfl, hs, fun H1 s1 => ⟨true, rfl, iteF ?_⟩⟩
    have hs1 := hs.same s1
    refine ⟨_, rfl, a, _, rfl, hs1.or, 1, _, rfl, rfl, true, bl_true (by rw [List.length_map]; have := ok.len; omega), iteT ?_⟩
    refine ⟨C, mc, .int 8, u8, rfl, rd, c8, _, _, rfl, rfl, true, bl_true (by rw [List.length_map]; have := ok.len; omega), iteF ?_⟩
    have hcs1 := hcs.same s1
    -- the rest, behind the names' list at N
    have rest : ∀ (N : Addr) (H2 : Hp), Same H1 H2 → H2 N = some (.lst ((cs.map (·.2.1)).map V.str)) →
        tRet (tAndV (tCB (rAll K) (tCons (tLc (fun σ H R => iList K (tVar 0) σ H R ∨ iTup K (tVar 0) σ H R) (gName 5) tYes (tCall (spTable K) [] E0 (tCons (tVar 5) (tCons (tVar 2) tNil))) [5]) tNil)) (tCall (spDist K) [] E0 (tCons (tVar 0) tNil)))
          { nx := fun _ H' => Q .non H', rt := Q } ((L2.start ["thing", "columns", "column_names", "name", "many", "item"] [.ref a, .ref c]).set 2 (some (.ref N))) H2 := by
      intro N H2 s2 hN
      have hs2 := hs1.same s2
      have ok2 := ok.same (s1.trans s2)
      have turn : ∀ (x : V) (H3 : Hp) (Q1 : VK) (Q2 : Hp → Prop), x ∈ rs.map tv → Same H2 H3 → (∀ y H4, some (V.bl true) = some y → Same H3 H4 → Q1 y H4) → (∀ H4, some (V.bl true) = none → Same H3 H4 → Q2 H4) →
          gName 5 x (wipe ((L2.start ["thing", "columns", "column_names", "name", "many", "item"] [.ref a, .ref c]).set 2 (some (.ref N))) [5]) H3 fun σ2 H4 => wipe σ2 [5] = wipe ((L2.start ["thing", "columns", "column_names", "name", "many", "item"] [.ref a, .ref c]).set 2 (some (.ref N))) [5] ∧
            tYes σ2 H4 fun b H5 => if b = true then tCall (spTable K) [] E0 (tCons (tVar 5) (tCons (tVar 2) tNil)) σ2 H5 Q1 else Q2 H5 := by
        intro x H3 Q1 Q2 hx s3 k1 k2
        obtain ⟨r, hm, rfl⟩ := List.mem_map.mp hx
        refine ⟨rfl, ?_⟩
        refine iteT (B := Q2 H3) ?_
        exact ⟨_, rfl, _, rfl, r.1, r.2.1, r.2.2.1, r.2.2.2, N, cs.map (·.2.1), rfl, s3 _ _ (ok2.row r hm), s3 _ _ (ok2.prt r hm), s3 _ _ hN, ok.nm r hm, ok.two r hm, ok.own r hm, fun H4 s4 => k1 _ _ rfl s4⟩
      have fin : ∀ (D : Addr) (H' : Hp), Same H2 H' → H' D = some (.lst ((rs.map tv).filterMap fun _ => some (V.bl true))) →
          rAll K [.ref D] H' (fun x H3 => ∃ c', x = .bl c' ∧ if c' = true then tCall (spDist K) [] E0 (tCons (tVar 0) tNil) ((L2.start ["thing", "columns", "column_names", "name", "many", "item"] [.ref a, .ref c]).set 2 (some (.ref N))) H3 Q else Q (.bl false) H3) := by
        intro D H' s' hD
        refine ⟨D, rs.map fun _ => true, rfl, lof ?_, ?_⟩
        · rw [hD]; congr 2; rw [filterMap_some, List.map_map, List.map_map]; rfl
        · have e : (rs.map fun _ => true).all id = true := by rw [List.all_map]; simp
          rw [e]
          refine ⟨true, rfl, iteT ⟨_, rfl, a, rs.map tabRow, rfl, ?_, ?_, ?_, ?_, fun H3 s3 => q _ (((s1.trans s2).trans s').trans s3)⟩⟩
          · have e : (rs.map tabRow).map rv = rs.map tv := by rw [List.map_map]; rfl
            rw [e]; exact hs2.same s'
          · intro r hm
            obtain ⟨r0, hm0, rfl⟩ := List.mem_map.mp hm
            exact s' _ _ (ok2.row r0 hm0)
          · rw [List.map_map]; exact ok.nd
          · rw [List.length_map]; exact ok.len.2
      have small : (rs.map tv).length < sizeLine := by rw [List.length_map]; exact Nat.lt_of_le_of_lt ok.len.2 (by decide)
      rcases hs2 with hs2 | hs2
      · exact .inl ⟨_, rfl, a, rfl, ⟨_, lof hs2⟩, fun D hD => lc_same walk_list rfl (Same.refl H2) hD (fun H e => lof (e _ _ hs2)) small (fun _ => some (.bl true)) turn fun H' s' hD' => fin D H' s' hD'⟩
      · exact .inr ⟨_, rfl, a, rfl, ⟨_, tof hs2⟩, fun D hD => lc_same walk_tup rfl (Same.refl H2) hD (fun H e => tof (e _ _ hs2)) small (fun _ => some (.bl true)) turn fun H' s' hD' => fin D H' s' hD'⟩
    have okc1 := okc.same s1
    let nameOf : V → Option V := fun x => match cs.find? (fun r => decide (cv r = x)) with | some r => some (.str r.2.1) | none => none
    have nameAt : ∀ r ∈ cs, nameOf (cv r) = some (.str r.2.1) := fun r hm => by
      show (match cs.find? (fun r' => decide (cv r' = cv r)) with | some r => some (V.str r.2.1) | none => none) = _
      cases hf : cs.find? (fun r' => decide (cv r' = cv r)) with
      | none => exact absurd (List.find?_eq_none.mp hf r hm) (by simp)
      | some r' =>
        have he : cv r' = cv r := by have z := List.find?_some hf; simpa using z
        have ha : r'.1 = r.1 := by injection he
        have h2 := okc.row r' (List.mem_of_find?_eq_some hf)
        rw [ha, okc.row r hm] at h2
        injection h2 with h2; injection h2 with h2; injection h2 with h2; injection h2 with h2
        show some (V.str r'.2.1) = _
        rw [h2]
    have names : (cs.map cv).filterMap nameOf = (cs.map (·.2.1)).map V.str := by
      rw [List.filterMap_map, List.map_map, ← filterMap_some]
      exact filterMap_same fun r hm => nameAt r hm
    have turn : ∀ (x : V) (H3 : Hp) (Q1 : VK) (Q2 : Hp → Prop), x ∈ cs.map cv → Same H1 H3 → (∀ y H4, nameOf x = some y → Same H3 H4 → Q1 y H4) → (∀ H4, nameOf x = none → Same H3 H4 → Q2 H4) →
        gTup K 2 (gCons (gName 3) (gCons (gName 4) gNil)) x (wipe (L2.start ["thing", "columns", "column_names", "name", "many", "item"] [.ref a, .ref c]) [3, 4]) H3 fun σ2 H4 => wipe σ2 [3, 4] = wipe (L2.start ["thing", "columns", "column_names", "name", "many", "item"] [.ref a, .ref c]) [3, 4] ∧
          tYes σ2 H4 fun b H5 => if b = true then tVar 3 σ2 H5 Q1 else Q2 H5 := by
      intro x H3 Q1 Q2 hx s3 k1 k2
      obtain ⟨r, hm, rfl⟩ := List.mem_map.mp hx
      refine ⟨r.1, _, rfl, tof (s3 _ _ (okc1.row r hm)), rfl, _, _, rfl, _, _, rfl, rfl, rfl, ?_⟩
      refine iteT (B := Q2 H3) ?_
      exact ⟨_, rfl, k1 _ _ (nameAt r hm) (Same.refl _)⟩
    have small : (cs.map cv).length < sizeLine := by rw [List.length_map]; exact Nat.lt_of_le_of_lt okc.len.2 (by decide)
    rcases hcs1 with hc1 | hc1
    · exact .inl ⟨_, rfl, c, rfl, ⟨_, lof hc1⟩, fun D hD => lc_same walk_list rfl (Same.refl H1) hD (fun H e => lof (e _ _ hc1)) small nameOf turn fun H' s' hD' => rest D H' s' (by rw [hD', names])⟩
    · exact .inr ⟨_, rfl, c, rfl, ⟨_, tof hc1⟩, fun D hD => lc_same walk_tup rfl (Same.refl H1) hD (fun H e => tof (e _ _ hc1)) small nameOf turn fun H' s' hD' => rest D H' s' (by rw [hD', names])⟩
end
end As

/-! ## B5 -/
namespace As
open PySem PySem.Spec PyProof.Rows L2

/-! what a row's place tells -/
def rowFn {ρ α : Type} (rows : List ρ) (at_ : ρ → Addr) (φ : ρ → α) (d : α) : V → α := fun x => match rows.find? (fun r => decide (V.ref (at_ r) = x)) with | some r => φ r | none => d
theorem rowFn_at {ρ α : Type} {rows : List ρ} {at_ : ρ → Addr} {φ : ρ → α} {d : α} (u : ∀ r ∈ rows, ∀ r' ∈ rows, at_ r = at_ r' → φ r = φ r') {r : ρ} (hr : r ∈ rows) : rowFn rows at_ φ d (.ref (at_ r)) = φ r := by
  unfold rowFn
  cases hf : rows.find? (fun r' => decide (V.ref (at_ r') = V.ref (at_ r))) with
  | none => exact absurd (List.find?_eq_none.mp hf r hr) (by simp)
  | some r' =>
    have z := List.find?_some hf
    have he : at_ r' = at_ r := by simpa using z
    exact u r' (List.mem_of_find?_eq_some hf) r hr he
theorem ColsOk.det {H : Hp} {cs : List CRow} (ok : ColsOk H cs) : ∀ r ∈ cs, ∀ r' ∈ cs, r.1 = r'.1 → r.2 = r'.2 := fun r hr r' hr' e => by
  have h1 := ok.row r hr
  have h2 := ok.row r' hr'
  rw [e, h2] at h1
  injection h1 with h1; injection h1 with h1; injection h1 with h1 h3; injection h3 with h3
  injection h1 with h1; injection h3 with h3
  exact Prod.ext h1.symm h3.symm
theorem map_str_inj : ∀ {xs ys : List Str}, xs.map V.str = ys.map V.str → xs = ys
  | [], [], _ => rfl
  | [], _ :: _, h => nomatch h
  | _ :: _, [], h => nomatch h
  | x :: xs, y :: ys, h => by
    injection h with h1 h2
    injection h1 with h1
    rw [h1, map_str_inj h2]
theorem TabsOk.det {H : Hp} {cs : List Str} {ts : List TRow} (ok : TabsOk H cs ts) : ∀ r ∈ ts, ∀ r' ∈ ts, r.1 = r'.1 → r.2 = r'.2 := fun r hr r' hr' e => by
  have h1 := ok.row r hr
  have h2 := ok.row r' hr'
  rw [e, h2] at h1
  injection h1 with h1; injection h1 with h1; injection h1 with h1 h3; injection h3 with h3
  injection h1 with h1; injection h3 with h3
  have p1 := ok.prt r hr
  have p2 := ok.prt r' hr'
  rw [← h3, p2] at p1
  injection p1 with p1; injection p1 with p1
  exact Prod.ext h1.symm (Prod.ext h3.symm (map_str_inj p1).symm)

/-! the plan as an object -/
theorem nCT : ¬ (Str.ofString "_columns") = (Str.ofString "_tables") := by decide +kernel
theorem nCS : ¬ (Str.ofString "_columns") = (Str.ofString "_sizes") := by decide +kernel
theorem nCP : ¬ (Str.ofString "_columns") = (Str.ofString "_spans") := by decide +kernel
theorem nTS : ¬ (Str.ofString "_tables") = (Str.ofString "_sizes") := by decide +kernel
theorem nTP : ¬ (Str.ofString "_tables") = (Str.ofString "_spans") := by decide +kernel
theorem nSP : ¬ (Str.ofString "_sizes") = (Str.ofString "_spans") := by decide +kernel
def pf3 (ct tt sz : Addr) : List (Str × V) := putF (Str.ofString "_sizes") (.ref sz) (putF (Str.ofString "_tables") (.ref tt) (putF (Str.ofString "_columns") (.ref ct) []))
theorem nCH : ¬ (Str.ofString "_columns") = (Str.ofString "_shapes") := by decide +kernel
theorem nTH : ¬ (Str.ofString "_tables") = (Str.ofString "_shapes") := by decide +kernel
theorem nSH : ¬ (Str.ofString "_sizes") = (Str.ofString "_shapes") := by decide +kernel
theorem nHP : ¬ (Str.ofString "_shapes") = (Str.ofString "_spans") := by decide +kernel
def pf4 (ct tt sz sh : Addr) : List (Str × V) := putF (Str.ofString "_shapes") (.ref sh) (pf3 ct tt sz)
def pf (ct tt sz sp sh : Addr) : List (Str × V) := putF (Str.ofString "_spans") (.ref sp) (pf4 ct tt sz sh)
theorem pf_C {ct tt sz sp sh : Addr} : (pf ct tt sz sp sh).lookup (Str.ofString "_columns") = some (.ref ct) := by
  unfold pf pf4 pf3; rw [lookup_putF, if_neg nCP, lookup_putF, if_neg nCH, lookup_putF, if_neg nCS, lookup_putF, if_neg nCT, lookup_putF, if_pos rfl]
theorem pf_T {ct tt sz sp sh : Addr} : (pf ct tt sz sp sh).lookup (Str.ofString "_tables") = some (.ref tt) := by
  unfold pf pf4 pf3; rw [lookup_putF, if_neg nTP, lookup_putF, if_neg nTH, lookup_putF, if_neg nTS, lookup_putF, if_pos rfl]
theorem pf_S {ct tt sz sp sh : Addr} : (pf ct tt sz sp sh).lookup (Str.ofString "_sizes") = some (.ref sz) := by
  unfold pf pf4 pf3; rw [lookup_putF, if_neg nSP, lookup_putF, if_neg nSH, lookup_putF, if_pos rfl]
theorem pf_P {ct tt sz sp sh : Addr} : (pf ct tt sz sp sh).lookup (Str.ofString "_spans") = some (.ref sp) := by
  unfold pf; rw [lookup_putF, if_pos rfl]
theorem pf_H {ct tt sz sp sh : Addr} : (pf ct tt sz sp sh).lookup (Str.ofString "_shapes") = some (.ref sh) := by
  unfold pf pf4; rw [lookup_putF, if_neg nHP, lookup_putF, if_pos rfl]
theorem pf4_S {ct tt sz sh : Addr} : (pf4 ct tt sz sh).lookup (Str.ofString "_sizes") = some (.ref sz) := by
  unfold pf4 pf3; rw [lookup_putF, if_neg nSH, lookup_putF, if_pos rfl]
theorem pf_no {ct tt sz sp sh : Addr} {m : Str} (h1 : ¬ m = (Str.ofString "_columns")) (h2 : ¬ m = (Str.ofString "_tables")) (h3 : ¬ m = (Str.ofString "_sizes")) (h4 : ¬ m = (Str.ofString "_spans")) (h5 : ¬ m = (Str.ofString "_shapes")) : (pf ct tt sz sp sh).lookup m = none := by
  unfold pf pf4 pf3; rw [lookup_putF, if_neg h4, lookup_putF, if_neg h5, lookup_putF, if_neg h3, lookup_putF, if_neg h2, lookup_putF, if_neg h1]; rfl

def colsD (cs : List CRow) : List (Key × V) := cs.map fun r => (.inr r.2.1, .int r.2.2)
/-- the number of values of a column, or None -/
def sizeV (cs : List CRow) (z : Str) : V := (valV (colsD cs) (.inr z)).getD .non
def spanVs (cs : List CRow) (r : TRow) : List V := r.2.2.2.map (sizeV cs)
/-- at p a plan of these columns and tables -/
def shapesD (ts : List TRow) : List (Key × V) := ts.map fun r => (.inr r.2.1, .ref r.2.2.1)
def PlanAt (H : Hp) (C p : Addr) (cs : List CRow) (ts : List TRow) : Prop := ∃ (dx ct tt sz sp sh : Addr) (ks : List (Key × V)), H p = some (.ins C dx (pf ct tt sz sp sh)) ∧ H ct = some (.tup (cs.map cv)) ∧ H tt = some (.tup (ts.map tv)) ∧
  H sz = some (.dK (colsD cs)) ∧ H sp = some (.dK ks) ∧ H sh = some (.dK (shapesD ts)) ∧ Paired (fun (r : TRow) (kv : Key × V) => kv.1 = .inr r.2.1 ∧ ∃ q, kv.2 = .ref q ∧ H q = some (.tup (spanVs cs r))) ts ks
theorem PlanAt.same {H H' : Hp} {C p : Addr} {cs : List CRow} {ts : List TRow} (h : PlanAt H C p cs ts) (e : Same H H') : PlanAt H' C p cs ts := by
  obtain ⟨dx, ct, tt, sz, sp, sh, ks, h1, h2, h3, h4, h5, hs, h6⟩ := h
  exact ⟨dx, ct, tt, sz, sp, sh, ks, e _ _ h1, e _ _ h2, e _ _ h3, e _ _ h4, e _ _ h5, e _ _ hs, paired_imp (fun _ _ r => ⟨r.1, r.2.elim fun q z => ⟨q, z.1, e _ _ z.2⟩⟩) h6⟩

theorem kTup_seq {K : PySem.W.Frag} {H : Hp} {a : Addr} {xs : List V} {Q : VK} (h : Sq H a xs) (k : ∀ q H', Same H H' → H' q = some (.tup xs) → Q (.ref q) H') : kTup K (.ref a) H Q := by
  rcases h with h | h
  · exact .inl ⟨a, xs, rfl, lof h, fun q hq => k q _ (same_new hq) upd_same⟩
  · exact .inr ⟨a, xs, rfl, tof h, k a H (Same.refl H) h⟩
theorem pfl {f : Str} {v : V} {fs : List (Str × V)} {n : Nat} (h : fs.length ≤ n) : (putF f v fs).length ≤ n + 1 := Nat.le_trans (length_putF f v fs) (Nat.succ_le_succ h)
theorem valV_cols {cs : List CRow} {c : Str} (h : c ∈ cs.map (·.2.1)) : ∃ v, valV (colsD cs) (.inr c) = some v := by
  unfold valV colsD
  cases hf : (cs.map fun r => ((.inr r.2.1 : Key), V.int r.2.2)).find? (fun kv => decide (kv.1 = .inr c)) with
  | some kv => exact ⟨_, rfl⟩
  | none =>
    obtain ⟨r, hr, e⟩ := List.mem_map.mp h
    exact absurd (List.find?_eq_none.mp hf (.inr r.2.1, .int r.2.2) (List.mem_map.mpr ⟨r, hr, rfl⟩)) (by simp [e])
section
variable {H : Hp} {p C dx : Addr} {fs : List (Str × V)}
theorem ne_ins {b : Addr} {o : HO} (hp : H p = some (.ins C dx fs)) (h : H b = some o) (n : ∀ C dx fs, o ≠ .ins C dx fs) : b ≠ p := fun e => by
  subst e; rw [hp] at h; injection h with h; exact n _ _ _ h.symm
theorem Sq.rem {a : Addr} {xs : List V} (hp : H p = some (.ins C dx fs)) (h : Sq H a xs) : Sq (As.rem H p) a xs := by
  rcases h with h | h
  · exact .inl (by rw [rem_ne (ne_ins hp h (fun _ _ _ z => nomatch z))]; exact h)
  · exact .inr (by rw [rem_ne (ne_ins hp h (fun _ _ _ z => nomatch z))]; exact h)
theorem ColsOk.rem {cs : List CRow} (hp : H p = some (.ins C dx fs)) (h : ColsOk H cs) : ColsOk (As.rem H p) cs :=
  ⟨fun r hr => by rw [rem_ne (ne_ins hp (h.row r hr) (fun _ _ _ z => nomatch z))]; exact h.row r hr, h.len, h.nm, h.sz, h.nd⟩
theorem TabsOk.rem {cs : List Str} {ts : List TRow} (hp : H p = some (.ins C dx fs)) (h : TabsOk H cs ts) : TabsOk (As.rem H p) cs ts :=
  ⟨fun r hr => by rw [rem_ne (ne_ins hp (h.row r hr) (fun _ _ _ z => nomatch z))]; exact h.row r hr, fun r hr => by rw [rem_ne (ne_ins hp (h.prt r hr) (fun _ _ _ z => nomatch z))]; exact h.prt r hr, h.len, h.nm, h.two, h.own, h.nd⟩
end
theorem paired_cols {cs cs0 : List CRow} {f g : V → V} {key : V → Key} : (∀ r ∈ cs, key (cv r) = .inr r.2.1 ∧ g (cv r) = .int r.2.2) → ∀ {kvs : List (Key × V)}, Paired (fun x (kv : Key × V) => kv.1 = key x ∧ kv.2 = g x) (cs.map cv) kvs → kvs = colsD cs := by
  induction cs with
  | nil => intro _ kvs h; cases h; rfl
  | cons r t ih =>
    intro hk kvs h
    rw [List.map_cons] at h
    cases h with
    | @cons a kv l1 l2 h1 h2 =>
      have e := ih (fun r hr => hk r (List.mem_cons_of_mem _ hr)) h2
      have z := hk r List.mem_cons_self
      show kv :: l2 = (.inr r.2.1, .int r.2.2) :: colsD t
      rw [e]
      congr 1
      exact Prod.ext (h1.1.trans z.1) (h1.2.trans z.2)
theorem paired_rows {ts : List TRow} {R : V → V → Prop} {S : TRow → V → Prop} {key : V → Key} : (∀ r ∈ ts, key (tv r) = .inr r.2.1 ∧ ∀ v, R (tv r) v → S r v) → ∀ {kvs : List (Key × V)}, Paired (fun x (kv : Key × V) => kv.1 = key x ∧ R x kv.2) (ts.map tv) kvs →
    Paired (fun (r : TRow) (kv : Key × V) => kv.1 = .inr r.2.1 ∧ S r kv.2) ts kvs := by
  induction ts with
  | nil => intro _ kvs h; cases h; exact .nil
  | cons r t ih =>
    intro hk kvs h
    rw [List.map_cons] at h
    cases h with
    | @cons a kv l1 l2 h1 h2 => exact .cons ⟨h1.1.trans (hk r List.mem_cons_self).1, (hk r List.mem_cons_self).2 _ h1.2⟩ (ih (fun r hr => hk r (List.mem_cons_of_mem _ hr)) h2)
/-- the class: its fields are no attributes of it -/
structure PlF (K : PySem.W.Frag) (C : Addr) : Prop where
  cl : Cls K C
  aC : NoAttr K C (Str.ofString "_columns")
  aT : NoAttr K C (Str.ofString "_tables")
  aS : NoAttr K C (Str.ofString "_sizes")
  aP : NoAttr K C (Str.ofString "_spans")
  aH : NoAttr K C (Str.ofString "_shapes")
/-- a dict comprehension over a list or a tuple -/
theorem dcE {K : PySem.W.Frag} {b : Addr} {i : Nat} {xs : List V} {g : TG} {tt : TT} {tk tv : TE} {vs : List Nat} {σ : L2.St} {H1 : Hp} {Q : VK} (hb : Sq H1 b xs) (hσ : σ[i]? = some (some (.ref b))) (hl : xs.length < sizeLine) (f : V → Key) (nd : (xs.map f).Nodup)
    (R : V → V → Hp → Prop) (mono : ∀ x v H H', Imm H H' → R x v H → R x v H')
    (hs : ∀ x H (Q1 : V → V → Hp → Prop) (Q2 : Hp → Prop), x ∈ xs → Same H1 H → (∀ v H5, Same H H5 → R x v H5 → Q1 (kV (f x)) v H5) →
      g x (wipe σ vs) H fun σ2 H2 => wipe σ2 vs = wipe σ vs ∧ tt σ2 H2 fun b H3 => if b = true then tk σ2 H3 (fun y H4 => tv σ2 H4 fun z H5 => Q1 y z H5) else Q2 H3)
    (hd : ∀ D H' kvs, Same H1 H' → H' D = some (.dK kvs) → Paired (fun x kv => kv.1 = f x ∧ R x kv.2 H') xs kvs → Q (.ref D) H') :
    tDc (fun σ H R => iList K (tVar i) σ H R ∨ iTup K (tVar i) σ H R) g tt tk tv vs σ H1 Q := by
  rcases hb with hb | hb
  · exact .inl ⟨_, hσ, b, rfl, ⟨_, lof hb⟩, fun D hD => dc_same walk_list rfl (Same.refl H1) hD (fun H e => lof (e _ _ hb)) hl f nd R mono hs fun H' ks s' h1 h2 => hd D H' ks s' h1 h2⟩
  · exact .inr ⟨_, hσ, b, rfl, ⟨_, tof hb⟩, fun D hD => dc_same walk_tup rfl (Same.refl H1) hD (fun H e => tof (e _ _ hb)) hl f nd R mono hs fun H' ks s' h1 h2 => hd D H' ks s' h1 h2⟩
theorem paired_shapes {ts : List TRow} {g : V → V} {key : V → Key} : (∀ r ∈ ts, key (tv r) = .inr r.2.1 ∧ g (tv r) = .ref r.2.2.1) → ∀ {kvs : List (Key × V)}, Paired (fun x (kv : Key × V) => kv.1 = key x ∧ kv.2 = g x) (ts.map tv) kvs → kvs = shapesD ts := by
  induction ts with
  | nil => intro _ kvs h; cases h; rfl
  | cons r t ih =>
    intro hk kvs h
    rw [List.map_cons] at h
    cases h with
    | @cons a kv l1 l2 h1 h2 =>
      have e := ih (fun r hr => hk r (List.mem_cons_of_mem _ hr)) h2
      have z := hk r List.mem_cons_self
      show kv :: l2 = (.inr r.2.1, .ref r.2.2.1) :: shapesD t
      rw [e]
      congr 1
      exact Prod.ext (h1.1.trans z.1) (h1.2.trans z.2)
theorem TabsOk.detA {H : Hp} {cs : List Str} {ts : List TRow} (ok : TabsOk H cs ts) : ∀ r ∈ ts, ∀ r' ∈ ts, r.1 = r'.1 → r.2.2.1 = r'.2.2.1 := fun r hr r' hr' e => by rw [ok.det r hr r' hr' e]
section
variable {P : Program} {w : World} {K : PySem.W.Frag} {mg : Str → Option Value} {base : Heap}

def spInit (K : PySem.W.Frag) (C : Addr) : Sp := fun vs H Q _ => ∃ (p dx a b : Addr) (cs : List CRow) (ts : List TRow), vs = [.ref p, .ref a, .ref b] ∧ H p = some (.ins C dx []) ∧ Sq H a (cs.map cv) ∧ Sq H b (ts.map tv) ∧ ColsOk H cs ∧ TabsOk H (cs.map (·.2.1)) ts ∧
  ∀ H', (∀ c o, c ≠ p → H c = some o → H' c = some o) → PlanAt H' C p cs ts → Q .non H'
abbrev scSpans : Scope := { kind := .function, names := [(".0", .local), ("name", .local), ("names", .local), ("tuple", .globalImplicit), ("self", .free)], isGenerator := false, isCoroutine := false }
abbrev nInit : List Str := ["self", "columns", "tables", "name", "many", "names", "column"]
theorem sc_init : FnScope nInit ["self", "columns", "tables"] (defScope s_init) := ⟨rfl, rfl, rfl, by decide +kernel, rfl, by decide +kernel, by decide +kernel⟩
theorem ok_init {f fc ft C : Addr} {fd dc dt : FuncData} (F : Fun K "__init__" "Plan.__init__" s_init f fd) (T : Bi mg) (L : PlF K C)
    (Dc : Df K mg "are_columns" s_are_columns ["thing"] fc dc) (Gc : FnOk P w K mg base CX0 3 fc dc ["thing"] (spColumns K)) (Dt : Df K mg "are_tables" s_are_tables ["thing", "columns"] ft dt) (Gt : FnOk P w K mg base CX0 3 ft dt ["thing", "columns"] (spTables K)) :
    FnOk P w K mg base CX0 4 f fd ["self", "columns", "tables"] (spInit K C) := by
  refine F.ok sc_init (fun vs H Q E h => ?_) (fun cdv A outer s H vs Q E hr h => ?_)
  · obtain ⟨p, dx, a, b, cs, ts, rfl, _⟩ := h; rfl
  · obtain ⟨p, dx, a, b, cs, ts, rfl, hp, ha, hb, okc, okt, q⟩ := h
    have ht := T.tuple
    refine ⟨_, pss_cons (ps_if (pt_not (pt_val (pcall Dc Gc hr (pa_cons (pv 1) pa_nil)))) (pss_one ps_dead) pss_nil)
      (pss_cons (ps_if (pt_not (pt_val (pcall Dt Gt hr (pa_cons (pv 2) (pa_cons (pv 1) pa_nil))))) (pss_one ps_dead) pss_nil)
      (pss_cons (ps_fld (pv 0) (tupK K (pv 1)) rfl) (pss_cons (ps_fld (pv 0) (tupK K (pv 2)) rfl)
      (pss_cons (ps_fld (pv 0) (pe_dc (own := [("name", 3), ("many", 4)]) (g := gTup K 2 (gCons (gName 3) (gCons (gName 4) gNil))) (tt := tYes) rfl sc_init.nd (pi_either (piL K (pv 1)) (piT K (pv 1)))
          (blkOk_by (N := nInit) (sc := defScope s_init) (by decide +kernel)) (fun _ _ _ _ _ => pgT K (pg_tup rfl (pgs_cons (pg_name (i := 3) sc_init.nd rfl (Or.inl rfl)) (pgs_cons (pg_name (i := 4) sc_init.nd rfl (Or.inl rfl)) pgs_nil))))
          (fun _ _ _ _ _ => pts_nil) (fun _ _ _ _ _ => pv 3) (fun _ _ _ _ _ => pv 4)) rfl)
      (pss_cons (ps_fld (pv 0) (pe_dc (own := [("name", 3), ("names", 5)]) (g := gTup K 2 (gCons (gName 3) (gCons (gName 5) gNil))) (tt := tYes) rfl sc_init.nd (pi_either (piL K (pv 2)) (piT K (pv 2)))
          (blkOk_by (N := nInit) (sc := defScope s_init) (by decide +kernel)) (fun _ _ _ _ _ => pgT K (pg_tup rfl (pgs_cons (pg_name (i := 3) sc_init.nd rfl (Or.inl rfl)) (pgs_cons (pg_name (i := 5) sc_init.nd rfl (Or.inl rfl)) pgs_nil))))
          (fun _ _ _ _ _ => pts_nil) (fun _ _ _ _ _ => pv 3) (fun _ _ _ _ _ => pv 5)) rfl)
      (pss_one (ps_fld (pv 0) (pe_dc (own := [("name", 3), ("names", 5)]) (g := gTup K 2 (gCons (gName 3) (gCons (gName 5) gNil))) (tt := tYes) rfl sc_init.nd (pi_either (piL K (pv 2)) (piT K (pv 2)))
          (blkOk_by (N := nInit) (sc := defScope s_init) (by decide +kernel)) (fun _ _ _ _ _ => pgT K (pg_tup rfl (pgs_cons (pg_name (i := 3) sc_init.nd rfl (Or.inl rfl)) (pgs_cons (pg_name (i := 5) sc_init.nd rfl (Or.inl rfl)) pgs_nil))))
          (fun _ _ _ _ _ => pts_nil) (fun _ _ _ _ _ => pv 3)
          (fun _ _ _ _ _ => tupK K (pe_lc (own := [("column", 6)]) (g := gName 6) (tt := tYes) rfl sc_init.nd (piT K (pv 5)) (blkOk_by (N := nInit) (sc := relS scSpans (defScope s_init)) (by decide +kernel)) (fun _ _ _ _ _ => pg_name (i := 6) sc_init.nd rfl (Or.inl rfl))
            (fun _ _ _ _ _ => pts_nil) (fun _ _ _ _ _ => pe_dget (hu_of hr) (fldK K (pv 0)) (pv 6) (fun _ _ => rfl))))) rfl))))))), ?_⟩
    refine ⟨_, rfl, a, cs, rfl, ha, okc, fun H1 s1 => ⟨true, rfl, iteF ?_⟩⟩
    refine ⟨_, rfl, _, rfl, b, a, ts, cs, rfl, hb.same s1, ha.same s1, okc.same s1, okt.same s1, fun H2 s2 => ⟨true, rfl, iteF ?_⟩⟩
    have s12 := s1.trans s2
    -- what stands for good
    have sB : Same (As.rem H p) H2 := same_rem.trans s12
    have bp : As.rem H p p = none := rem_self
    have aB := ha.rem hp
    have bB := hb.rem hp
    have cB := okc.rem hp
    have tB := okt.rem hp
    have p2 := s12 _ _ hp
    generalize hBe : As.rem H p = B at sB bp aB bB cB tB
    -- self._columns, self._tables
    refine ⟨_, rfl, kTup_seq (aB.same sB) fun ct H3 s3 hct => ?_⟩
    refine ⟨_, rfl, p, C, dx, [], rfl, s3 _ _ p2, L.cl, L.aC, by decide, ?_⟩
    have ct3 := ne_ins (s3 _ _ p2) hct (fun _ _ _ z => nomatch z)
    have sB4 : Same B (upd H3 p (.ins C dx (putF (Str.ofString "_columns") (.ref ct) []))) := same_mut (sB.trans s3) bp
    have hct4 : (upd H3 p (.ins C dx (putF (Str.ofString "_columns") (.ref ct) []))) ct = some (.tup (cs.map cv)) := by rw [upd_ne ct3]; exact hct
    have p4 : (upd H3 p (.ins C dx (putF (Str.ofString "_columns") (.ref ct) []))) p = some (.ins C dx (putF (Str.ofString "_columns") (.ref ct) [])) := upd_same
    generalize (upd H3 p (.ins C dx (putF (Str.ofString "_columns") (.ref ct) []))) = H4 at sB4 hct4 p4 ⊢
    refine ⟨_, rfl, kTup_seq (bB.same sB4) fun tt H5 s5 htt => ?_⟩
    refine ⟨_, rfl, p, C, dx, _, rfl, s5 _ _ p4, L.cl, L.aT, Nat.lt_of_le_of_lt (pfl (Nat.le_refl 0)) (by decide), ?_⟩
    have tt5 := ne_ins (s5 _ _ p4) htt (fun _ _ _ z => nomatch z)
    have sB6 : Same B (upd H5 p (.ins C dx (putF (Str.ofString "_tables") (.ref tt) (putF (Str.ofString "_columns") (.ref ct) [])))) := same_mut (sB4.trans s5) bp
    have hct6 : (upd H5 p (.ins C dx (putF (Str.ofString "_tables") (.ref tt) (putF (Str.ofString "_columns") (.ref ct) [])))) ct = some (.tup (cs.map cv)) := by rw [upd_ne ct3]; exact s5 _ _ hct4
    have htt6 : (upd H5 p (.ins C dx (putF (Str.ofString "_tables") (.ref tt) (putF (Str.ofString "_columns") (.ref ct) [])))) tt = some (.tup (ts.map tv)) := by rw [upd_ne tt5]; exact htt
    have p6 : (upd H5 p (.ins C dx (putF (Str.ofString "_tables") (.ref tt) (putF (Str.ofString "_columns") (.ref ct) [])))) p = some (.ins C dx (putF (Str.ofString "_tables") (.ref tt) (putF (Str.ofString "_columns") (.ref ct) []))) := upd_same
    generalize (upd H5 p (.ins C dx (putF (Str.ofString "_tables") (.ref tt) (putF (Str.ofString "_columns") (.ref ct) [])))) = H6 at sB6 hct6 htt6 p6 ⊢
    have c6 := cB.same sB6
    have smallC : (cs.map cv).length < sizeLine := by rw [List.length_map]; exact Nat.lt_of_le_of_lt okc.len.2 (by decide)
    have smallT : (ts.map tv).length < sizeLine := by rw [List.length_map]; exact Nat.lt_of_le_of_lt okt.len.2 (by decide)
    have keyAt : ∀ r ∈ cs, rowFn cs (·.1) (fun r => (Sum.inr r.2.1 : Key)) (.inl 0) (cv r) = .inr r.2.1 := fun r hr => rowFn_at (fun r hr r' hr' e => by rw [okc.det r hr r' hr' e]) hr
    have valAt : ∀ r ∈ cs, rowFn cs (·.1) (fun r => V.int r.2.2) .non (cv r) = .int r.2.2 := fun r hr => rowFn_at (fun r hr r' hr' e => by rw [okc.det r hr r' hr' e]) hr
    have keyT : ∀ r ∈ ts, rowFn ts (·.1) (fun r => (Sum.inr r.2.1 : Key)) (.inl 0) (tv r) = .inr r.2.1 := fun r hr => rowFn_at (fun r hr r' hr' e => by rw [okt.det r hr r' hr' e]) hr
    have spanT : ∀ r ∈ ts, rowFn ts (·.1) (fun r => spanVs cs r) [] (tv r) = spanVs cs r := fun r hr => rowFn_at (fun r hr r' hr' e => by unfold spanVs; rw [okt.det r hr r' hr' e]) hr
    have ndC : ((cs.map cv).map (rowFn cs (·.1) (fun r => (Sum.inr r.2.1 : Key)) (.inl 0))).Nodup := by
      have e : (cs.map cv).map (rowFn cs (·.1) (fun r => (Sum.inr r.2.1 : Key)) (.inl 0)) = (cs.map (·.2.1)).map Sum.inr := by
        rw [List.map_map, List.map_map]; exact List.map_congr_left keyAt
      rw [e]; exact nodup_key okc.nd
    have ndT : ((ts.map tv).map (rowFn ts (·.1) (fun r => (Sum.inr r.2.1 : Key)) (.inl 0))).Nodup := by
      have e : (ts.map tv).map (rowFn ts (·.1) (fun r => (Sum.inr r.2.1 : Key)) (.inl 0)) = (ts.map (·.2.1)).map Sum.inr := by
        rw [List.map_map, List.map_map]; exact List.map_congr_left keyT
      rw [e]; exact nodup_key okt.nd
    have valT : ∀ r ∈ ts, rowFn ts (·.1) (fun r => V.ref r.2.2.1) .non (tv r) = .ref r.2.2.1 := fun r hr => rowFn_at (fun r hr r' hr' e => by rw [okt.det r hr r' hr' e]) hr
    -- self._sizes
    dsimp only [tSeq, sFld]
    refine dcE (K := K) (i := 1) (σ := L2.start nInit [.ref p, .ref a, .ref b]) (aB.same sB6) rfl smallC _ ndC (fun x v H => v = rowFn cs (·.1) (fun r => V.int r.2.2) .non x) (fun _ _ _ _ _ h => h) (fun x H7 Q1 Q2 hx s7 k => ?_) (fun sz H7 ks s7 hsz hks => ?_)
    · obtain ⟨r, hr, rfl⟩ := List.mem_map.mp hx
      refine ⟨r.1, _, rfl, tof (s7 _ _ (c6.row r hr)), rfl, _, _, rfl, _, _, rfl, rfl, rfl, ?_⟩
      refine iteT (B := Q2 H7) ⟨_, rfl, _, rfl, ?_⟩
      have key : kV (rowFn cs (·.1) (fun r => (Sum.inr r.2.1 : Key)) (.inl 0) (cv r)) = V.str r.2.1 := by rw [keyAt r hr]; rfl
      rw [← key]
      exact k _ _ (Same.refl _) (valAt r hr).symm
    rw [paired_cols (cs0 := cs) (f := fun x => x) (fun r hr => ⟨keyAt r hr, valAt r hr⟩) hks] at hsz
    refine ⟨_, rfl, p, C, dx, _, rfl, s7 _ _ p6, L.cl, L.aS, Nat.lt_of_le_of_lt (pfl (pfl (Nat.le_refl 0))) (by decide), ?_⟩
    have z7 := ne_ins (s7 _ _ p6) hsz (fun _ _ _ z => nomatch z)
    have sB8 : Same B (upd H7 p (.ins C dx (pf3 ct tt sz))) := same_mut (sB6.trans s7) bp
    have hct8 : (upd H7 p (.ins C dx (pf3 ct tt sz))) ct = some (.tup (cs.map cv)) := by rw [upd_ne ct3]; exact s7 _ _ hct6
    have htt8 : (upd H7 p (.ins C dx (pf3 ct tt sz))) tt = some (.tup (ts.map tv)) := by rw [upd_ne tt5]; exact s7 _ _ htt6
    have hsz8 : (upd H7 p (.ins C dx (pf3 ct tt sz))) sz = some (.dK (colsD cs)) := by rw [upd_ne z7]; exact hsz
    have p8 : (upd H7 p (.ins C dx (pf3 ct tt sz))) p = some (.ins C dx (pf3 ct tt sz)) := upd_same
    have e8 : upd H7 p (.ins C dx (putF (Str.ofString "_sizes") (.ref sz) (putF (Str.ofString "_tables") (.ref tt) (putF (Str.ofString "_columns") (.ref ct) [])))) = upd H7 p (.ins C dx (pf3 ct tt sz)) := rfl
    rw [e8]
    generalize (upd H7 p (.ins C dx (pf3 ct tt sz))) = H8 at sB8 hct8 htt8 hsz8 p8 ⊢
    -- self._shapes
    have t8 := tB.same sB8
    refine dcE (K := K) (i := 2) (σ := L2.start nInit [.ref p, .ref a, .ref b]) (bB.same sB8) rfl smallT _ ndT (fun x v H => v = rowFn ts (·.1) (fun r => V.ref r.2.2.1) .non x) (fun _ _ _ _ _ h => h) (fun x H9 Q1 Q2 hx s9 k => ?_) (fun sh H9 ks9 s9 hsh hks9 => ?_)
    · obtain ⟨r, hr, rfl⟩ := List.mem_map.mp hx
      refine ⟨r.1, _, rfl, tof (s9 _ _ (t8.row r hr)), rfl, _, _, rfl, _, _, rfl, rfl, rfl, ?_⟩
      refine iteT (B := Q2 H9) ⟨_, rfl, _, rfl, ?_⟩
      have key : kV (rowFn ts (·.1) (fun r => (Sum.inr r.2.1 : Key)) (.inl 0) (tv r)) = V.str r.2.1 := by rw [keyT r hr]; rfl
      rw [← key]
      exact k _ _ (Same.refl _) (valT r hr).symm
    rw [paired_shapes (fun r hr => ⟨keyT r hr, valT r hr⟩) hks9] at hsh
    refine ⟨_, rfl, p, C, dx, _, rfl, s9 _ _ p8, L.cl, L.aH, Nat.lt_of_le_of_lt (pfl (pfl (pfl (Nat.le_refl 0)))) (by decide), ?_⟩
    have z9 := ne_ins (s9 _ _ p8) hsh (fun _ _ _ z => nomatch z)
    have z8 := ne_ins p8 hsz8 (fun _ _ _ z => nomatch z)
    have sBA : Same B (upd H9 p (.ins C dx (pf4 ct tt sz sh))) := same_mut (sB8.trans s9) bp
    have hctA : (upd H9 p (.ins C dx (pf4 ct tt sz sh))) ct = some (.tup (cs.map cv)) := by rw [upd_ne ct3]; exact s9 _ _ hct8
    have httA : (upd H9 p (.ins C dx (pf4 ct tt sz sh))) tt = some (.tup (ts.map tv)) := by rw [upd_ne tt5]; exact s9 _ _ htt8
    have hszA : (upd H9 p (.ins C dx (pf4 ct tt sz sh))) sz = some (.dK (colsD cs)) := by rw [upd_ne z8]; exact s9 _ _ hsz8
    have hshA : (upd H9 p (.ins C dx (pf4 ct tt sz sh))) sh = some (.dK (shapesD ts)) := by rw [upd_ne z9]; exact hsh
    have pA : (upd H9 p (.ins C dx (pf4 ct tt sz sh))) p = some (.ins C dx (pf4 ct tt sz sh)) := upd_same
    have eA : upd H9 p (.ins C dx (putF (Str.ofString "_shapes") (.ref sh) (pf3 ct tt sz))) = upd H9 p (.ins C dx (pf4 ct tt sz sh)) := rfl
    rw [eA]
    generalize (upd H9 p (.ins C dx (pf4 ct tt sz sh))) = HA at sBA hctA httA hszA hshA pA ⊢
    -- self._spans
    have tA := tB.same sBA
    refine dcE (K := K) (i := 2) (σ := L2.start nInit [.ref p, .ref a, .ref b]) (bB.same sBA) rfl smallT _ ndT (fun x v H => ∃ q, v = V.ref q ∧ H q = some (.tup (rowFn ts (·.1) (fun r => spanVs cs r) [] x))) (fun x v H H' e ⟨q, h1, h2⟩ => ⟨q, h1, e _ _ h2⟩) (fun x H9 Q1 Q2 hx s9 k => ?_) (fun sp H9 ks s9 hsp hks => ?_)
    · obtain ⟨r, hr, rfl⟩ := List.mem_map.mp hx
      have t9 := tA.same s9
      refine ⟨r.1, _, rfl, tof (t9.row r hr), rfl, _, _, rfl, _, _, rfl, rfl, rfl, ?_⟩
      refine iteT (B := Q2 H9) ⟨_, rfl, ?_⟩
      have hq := t9.prt r hr
      have key : kV (rowFn ts (·.1) (fun r => (Sum.inr r.2.1 : Key)) (.inl 0) (tv r)) = V.str r.2.1 := by rw [keyT r hr]; rfl
      refine ⟨_, rfl, r.2.2.1, rfl, ⟨_, tof hq⟩, fun D hD => lc_same (B := H9) walk_tup rfl (Same.refl H9) hD (fun H e => tof (e _ _ hq)) (by rw [List.length_map]; exact Nat.lt_of_le_of_lt (okt.two r hr).2 (by decide))
        (fun y => match y with | .str c => some (sizeV cs c) | _ => none) (fun y H10 Q3 Q4 hy s10 k1 k2 => ?_) (fun H10 s10 hD10 => ?_)⟩
      · obtain ⟨c, hc, rfl⟩ := List.mem_map.mp hy
        refine ⟨rfl, ?_⟩
        refine iteT (B := Q4 H10) ?_
        obtain ⟨v, hv⟩ := valV_cols (okt.own r hr c hc)
        have sv : sizeV cs c = v := by unfold sizeV; rw [hv]; rfl
        refine ⟨_, rfl, p, C, dx, _, _, rfl, s10 _ _ (s9 _ _ pA), L.cl, L.aS, pf4_S, _, rfl, sz, v, rfl, ?_, k1 v _ (by show some (sizeV cs c) = _; rw [sv]) (Same.refl _)⟩
        have g := DGet.k (k := Sum.inr c) (s10 _ _ (s9 _ _ hszA))
        rw [hv] at g
        exact g
      · refine kTup_seq (.inl hD10) fun q H11 s11 hq11 => ?_
        rw [← key]
        refine k _ _ (s10.trans s11) ⟨q, rfl, ?_⟩
        rw [hq11, spanT r hr]
        congr 2
        rw [List.filterMap_map]
        unfold spanVs
        rw [← filterMap_some]; rfl
    refine ⟨_, rfl, p, C, dx, _, rfl, s9 _ _ pA, L.cl, L.aP, Nat.lt_of_le_of_lt (pfl (pfl (pfl (pfl (Nat.le_refl 0))))) (by decide), q _ (fun c o hc e => ?_) ?_⟩
    · rw [upd_ne hc]
      exact (sBA.trans s9) _ _ (by rw [← hBe, rem_ne hc]; exact e)
    · have p9 := s9 _ _ pA
      have up : ∀ {c : Addr} {o : HO}, H9 c = some o → (∀ C dx fs, o ≠ .ins C dx fs) → (upd H9 p (.ins C dx (pf ct tt sz sp sh))) c = some o := fun {c o} h n => by rw [upd_ne (ne_ins p9 h n)]; exact h
      refine ⟨dx, ct, tt, sz, sp, sh, ks, upd_same, up (s9 _ _ hctA) (fun _ _ _ z => nomatch z), up (s9 _ _ httA) (fun _ _ _ z => nomatch z), up (s9 _ _ hszA) (fun _ _ _ z => nomatch z), up hsp (fun _ _ _ z => nomatch z), up (s9 _ _ hshA) (fun _ _ _ z => nomatch z), ?_⟩
      refine paired_rows (R := fun x v => ∃ q, v = .ref q ∧ H9 q = some (.tup (rowFn ts (·.1) (fun r => spanVs cs r) [] x))) (S := fun r v => ∃ q, v = .ref q ∧ (upd H9 p (.ins C dx (pf ct tt sz sp sh))) q = some (.tup (spanVs cs r))) (fun r hr => ⟨keyT r hr, fun v hv => ?_⟩) hks
      obtain ⟨q, e, hq⟩ := hv
      rw [spanT r hr] at hq
      exact ⟨q, e, up hq (fun _ _ _ z => nomatch z)⟩
end
end As

/-! ## B6 -/
namespace As
open PySem PySem.Spec PyProof.Rows L2
theorem dk_get {H : Hp} {d : Addr} {kvs : List (Key × V)} {z : Str} (h : H d = some (.dK kvs)) : DGet H d (.str z) (valV kvs (.inr z)) := DGet.k (k := Sum.inr z) h
section
variable {P : Program} {w : World} {K : PySem.W.Frag} {mg : Str → Option Value} {base : Heap}
/-- a value of another type than str -/
def NoStr (K : PySem.W.Frag) (H : Hp) (x : V) : Prop := ∃ t, TyX K H x t ∧ PySem.W.kitOne K t (.type "str") = some false
def spSizeOf (K : PySem.W.Frag) (C : Addr) : Sp := fun vs H Q _ => ∃ (p : Addr) (x : V) (cs : List CRow) (ts : List TRow), vs = [.ref p, x] ∧ PlanAt H C p cs ts ∧ ((∃ z, x = .str z ∧ Q (sizeV cs z) H) ∨ (NoStr K H x ∧ Q .non H))
/-- the row of a table -/
def tabOf (ts : List TRow) (z : Str) : Option TRow := ts.find? fun r => decide (r.2.1 = z)
theorem paired_find {ts : List TRow} {S : TRow → V → Prop} {z : Str} : ∀ {kvs : List (Key × V)}, Paired (fun (r : TRow) (kv : Key × V) => kv.1 = .inr r.2.1 ∧ S r kv.2) ts kvs →
    (tabOf ts z = none ∧ valV kvs (.inr z) = none) ∨ ∃ r v, tabOf ts z = some r ∧ valV kvs (.inr z) = some v ∧ S r v := by
  induction ts with
  | nil => intro kvs h; cases h; exact .inl ⟨rfl, rfl⟩
  | cons r t ih =>
    intro kvs h
    cases h with
    | @cons a kv l1 l2 h1 h2 =>
      obtain ⟨k, v⟩ := kv
      obtain ⟨rfl, hv⟩ := h1
      by_cases e : r.2.1 = z
      · refine .inr ⟨r, v, ?_, ?_, hv⟩
        · unfold tabOf; rw [List.find?_cons]; simp [e]
        · unfold valV; rw [List.find?_cons]; simp [e]
      · have e1 : tabOf (r :: t) z = tabOf t z := by unfold tabOf; rw [List.find?_cons]; simp [e]
        have e2 : valV ((.inr r.2.1, v) :: l2) (.inr z : Key) = valV l2 (.inr z) := by
          unfold valV; rw [List.find?_cons]
          have : ¬ ((.inr r.2.1 : Key) = .inr z) := fun q => e (by injection q)
          simp [this]
        rw [e1, e2]
        exact ih h2
def spSpans (K : PySem.W.Frag) (C : Addr) : Sp := fun vs H Q _ => ∃ (p : Addr) (x : V) (cs : List CRow) (ts : List TRow), vs = [.ref p, x] ∧ PlanAt H C p cs ts ∧
  ((∃ z, x = .str z ∧ (tabOf ts z = none → Q .non H) ∧ ∀ r q, tabOf ts z = some r → H q = some (.tup (spanVs cs r)) → Q (.ref q) H) ∨ (NoStr K H x ∧ Q .non H))
theorem sc_spans : FnScope ["self", "table"] ["self", "table"] (defScope s_spans) := ⟨rfl, rfl, rfl, by decide +kernel, rfl, by decide +kernel, by decide +kernel⟩
theorem ok_spans {f C : Addr} {fd : FuncData} (F : Fun K "spans" "Plan.spans" s_spans f fd) (T : Bi mg) (L : PlF K C) : FnOk P w K mg base CX0 1 f fd ["self", "table"] (spSpans K C) := by
  refine F.ok sc_spans (fun vs H Q E h => ?_) (fun cdv A outer s H vs Q E hr h => ?_)
  · obtain ⟨p, x, cs, ts, rfl, _⟩ := h; rfl
  · obtain ⟨p, x, cs, ts, rfl, ⟨dx, ct, tt, sz, sp, sh, ks, h1, h2, h3, h4, h5, hs, h6⟩, q⟩ := h
    refine ⟨_, pss_cons (ps_if (pt_not (pt_val (pe_callB call_isi (by rfl) T.isinst (by decide +kernel) (pa_cons (pv 1) (pa_cons (pe_bltn (v := .ty "str") (by rfl) T.str (by decide +kernel) rfl) pa_nil))))) (pss_one (ps_ret pe_non)) pss_nil)
      (pss_one (ps_ret (pe_dget1 (hu_of hr) (pe_fld (pv 0) rfl) (pv 1) ⟨rfl, rfl, rfl, rfl⟩))), ?_⟩
    rcases q with ⟨z, rfl, q0, q1⟩ | ⟨⟨t, ty, k⟩, q⟩
    · refine ⟨_, rfl, _, _, _, _, true, rfl, .ty "str", .base (.str z), kstr_str, true, rfl, iteF ?_⟩
      refine ⟨_, rfl, p, C, dx, _, _, rfl, h1, L.cl, L.aP, pf_P, sp, rfl, .inl ⟨_, .inl h5⟩, _, rfl, _, dk_get h5, ?_⟩
      rcases paired_find (z := z) (S := fun r v => ∃ q, v = .ref q ∧ H q = some (.tup (spanVs cs r))) h6 with ⟨e1, e2⟩ | ⟨r, v, e1, e2, q, rfl, hq⟩
      · rw [e2]; exact q0 e1
      · rw [e2]; exact q1 r q e1 hq
    · exact ⟨_, rfl, _, _, t, _, false, rfl, .ty "str", ty, k, false, rfl, iteT q⟩

/-- the number of sides of a table, or None -/
def sidesV (ts : List TRow) (z : Str) : V := match tabOf ts z with | some r => .int (r.2.2.2.length : Nat) | none => .non
def spSides (K : PySem.W.Frag) (C : Addr) : Sp := fun vs H Q _ => ∃ (p : Addr) (x : V) (cs : List CRow) (ts : List TRow), vs = [.ref p, x] ∧ PlanAt H C p cs ts ∧ ((∃ z, x = .str z ∧ Q (sidesV ts z) H) ∨ (NoStr K H x ∧ Q .non H))
end
end As

/-! ## A6 -/
namespace As
open PySem PySem.Spec PyProof.Rows L2
theorem name_ok {z : Str} (h : nameB z = true) : PyData.strOk z = true := by
  unfold nameB at h
  rw [Bool.and_eq_true] at h
  have h2 := h.2
  rw [List.all_eq_true] at h2
  unfold PyData.strOk
  rw [Array.all_eq_true_iff_forall_mem]
  intro c hc
  have h3 := h2 c (Array.mem_toList_iff.mpr hc)
  unfold letter at h3
  rw [Bool.and_eq_true] at h3
  have h4 := of_decide_eq_true h3.2
  exact decide_eq_true (by omega)
def colD (c : Str × Int) : PyData := .tuple [.str c.1, .int c.2]
def tabD (c : Str × List Str) : PyData := .tuple [.str c.1, .tuple (c.2.map .str)]
section
open PyData
theorem strs_lay : ∀ {xs : List Str}, (∀ x ∈ xs, strOk x = true) → canLayAll0 (xs.map .str) = true
  | [], _ => by simp [canLayAll0]
  | x :: xs, h => by
    have h1 := strs_lay fun y hy => h y (List.mem_cons_of_mem _ hy)
    have h2 := h x List.mem_cons_self
    simp [canLayAll0, canLay0, h1, h2]
theorem strs_depth : ∀ {xs : List Str}, depthAll (xs.map .str) = 0
  | [] => by simp [depthAll]
  | x :: xs => by simp [depthAll, depth, strs_depth (xs := xs)]
theorem cols_lay : ∀ {xs : List (Str × Int)}, (∀ x ∈ xs, strOk x.1 = true) → canLayAll0 (xs.map colD) = true
  | [], _ => by simp [canLayAll0]
  | x :: xs, h => by
    have h1 := cols_lay fun y hy => h y (List.mem_cons_of_mem _ hy)
    have h2 := h x List.mem_cons_self
    simp [canLayAll0, canLay0, colD, h2] at h1 ⊢
    exact h1
theorem cols_depth : ∀ {xs : List (Str × Int)}, depthAll (xs.map colD) ≤ 1
  | [] => by simp [depthAll]
  | x :: xs => by
    have h1 := cols_depth (xs := xs)
    have h2 : depth (colD x) = 1 := by simp [depth, depthAll, colD]
    simp only [List.map_cons, depthAll]
    omega
theorem tabs_lay : ∀ {xs : List (Str × List Str)}, (∀ x ∈ xs, strOk x.1 = true ∧ ∀ y ∈ x.2, strOk y = true) → canLayAll0 (xs.map tabD) = true
  | [], _ => by simp [canLayAll0]
  | x :: xs, h => by
    have h1 := tabs_lay fun y hy => h y (List.mem_cons_of_mem _ hy)
    have h2 := h x List.mem_cons_self
    have h3 := strs_lay h2.2
    have e : canLay0 (tabD x) = true := by
      show canLay0 (.tuple [.str x.1, .tuple (x.2.map .str)]) = true
      simp only [canLay0, canLayAll0, h2.1, h3, Bool.and_true]
    simp only [List.map_cons, canLayAll0, e, h1, Bool.and_true]
theorem tabs_depth : ∀ {xs : List (Str × List Str)}, depthAll (xs.map tabD) ≤ 2
  | [] => by simp [depthAll]
  | x :: xs => by
    have h1 := tabs_depth (xs := xs)
    have h2 : depth (tabD x) ≤ 2 := by
      have h3 := strs_depth (xs := x.2)
      show depth (.tuple [.str x.1, .tuple (x.2.map .str)]) ≤ 2
      simp only [depth, depthAll, h3]
      omega
    simp only [List.map_cons, depthAll]
    omega
theorem shaped_tup {ds : List PyData} (h1 : canLayAll0 ds = true) (h2 : depthAll ds ≤ 2) : SeqAt.shaped (.tuple ds) = true := by
  show (canLay0 (.tuple ds) && decide (depth (.tuple ds) ≤ 64)) = true
  rw [Bool.and_eq_true]
  exact ⟨by simp only [canLay0]; exact h1, decide_eq_true (by simp only [depth]; omega)⟩
theorem shaped_lst {ds : List PyData} (h1 : canLayAll0 ds = true) (h2 : depthAll ds ≤ 2) : SeqAt.shaped (.list ds) = true := by
  show (canLay0 (.list ds) && decide (depth (.list ds) ≤ 64)) = true
  rw [Bool.and_eq_true]
  exact ⟨by simp only [canLay0]; exact h1, decide_eq_true (by simp only [depth]; omega)⟩
theorem eqvAll_dec {α : Type} [DecidableEq α] {f : α → PyData} (h : ∀ a b, eqv (f a) (f b) = decide (a = b)) : ∀ {xs ys : List α}, eqvAll (xs.map f) (ys.map f) = decide (xs = ys)
  | [], [] => by simp [eqvAll]
  | [], _ :: _ => by simp [eqvAll]
  | _ :: _, [] => by simp [eqvAll]
  | x :: xs, y :: ys => by
    simp only [List.map_cons, eqvAll, h, eqvAll_dec h]
    by_cases e : x = y
    · subst e; simp
    · simp [e]
theorem eqv_str (a b : Str) : eqv (.str a) (.str b) = decide (a = b) := by
  simp only [eqv]
  by_cases h : a = b
  · subst h; simp
  · rw [decide_eq_false h]; exact beq_eq_false_iff_ne.mpr h
theorem eqv_col (a b : Str × Int) : eqv (colD a) (colD b) = decide (a = b) := by
  obtain ⟨x, i⟩ := a
  obtain ⟨y, j⟩ := b
  have e : eqv (colD (x, i)) (colD (y, j)) = (eqv (.str x) (.str y) && ((i == j) && true)) := by simp only [colD, eqv, eqvAll]
  rw [e, eqv_str]
  by_cases h : x = y
  · subst h
    by_cases h2 : i = j
    · subst h2; simp
    · simp [h2]
  · simp [h]
theorem eqv_tab (a b : Str × List Str) : eqv (tabD a) (tabD b) = decide (a = b) := by
  obtain ⟨x, xs⟩ := a
  obtain ⟨y, ys⟩ := b
  have e : eqv (tabD (x, xs)) (tabD (y, ys)) = (eqv (.str x) (.str y) && (eqvAll (xs.map .str) (ys.map .str) && true)) := by simp only [tabD, eqv, eqvAll]
  rw [e, eqv_str, eqvAll_dec eqv_str]
  by_cases h : x = y
  · subst h
    by_cases h2 : xs = ys
    · subst h2; simp
    · simp [h2]
  · simp [h]
theorem eqv_tup {α : Type} [DecidableEq α] {f : α → PyData} (h : ∀ a b, eqv (f a) (f b) = decide (a = b)) {xs ys : List α} : eqv (.tuple (xs.map f)) (.tuple (ys.map f)) = decide (xs = ys) := by
  simp only [eqv]; exact eqvAll_dec h
theorem eqv_lst {α : Type} [DecidableEq α] {f : α → PyData} (h : ∀ a b, eqv (f a) (f b) = decide (a = b)) {xs ys : List α} : eqv (.list (xs.map f)) (.list (ys.map f)) = decide (xs = ys) := by
  simp only [eqv]; exact eqvAll_dec h
end
section
variable {K : PySem.W.Frag} {H : Hp}
theorem dp_strs : ∀ {xs : List Str}, DpAll K H (xs.map V.str) (xs.map .str)
  | [] => .nil
  | x :: _ => .cons (.str x) dp_strs
theorem dp_cols : ∀ {cs : List CRow}, (∀ r ∈ cs, H r.1 = some (.tup [.str r.2.1, .int r.2.2])) → DpAll K H (cs.map cv) ((cs.map (·.2)).map colD)
  | [], _ => .nil
  | r :: _, h => .cons (.tup (tof (h r List.mem_cons_self)) (.cons (.str _) (.cons (.int _) .nil))) (dp_cols fun x hx => h x (List.mem_cons_of_mem _ hx))
def tkey (r : TRow) : Str × List Str := (r.2.1, r.2.2.2)
theorem dp_tabs : ∀ {ts : List TRow}, (∀ r ∈ ts, H r.1 = some (.tup [.str r.2.1, .ref r.2.2.1])) → (∀ r ∈ ts, H r.2.2.1 = some (.tup (r.2.2.2.map V.str))) → DpAll K H (ts.map tv) ((ts.map tkey).map tabD)
  | [], _, _ => .nil
  | r :: _, h, h2 => .cons (.tup (tof (h r List.mem_cons_self)) (.cons (.str _) (.cons (.tup (tof (h2 r List.mem_cons_self)) dp_strs) .nil))) (dp_tabs (fun x hx => h x (List.mem_cons_of_mem _ hx)) fun x hx => h2 x (List.mem_cons_of_mem _ hx))
theorem cols_ok {cs : List CRow} (ok : ColsOk H cs) : PyData.canLayAll0 ((cs.map (·.2)).map colD) = true := cols_lay fun x hx => by
  obtain ⟨r, hr, rfl⟩ := List.mem_map.mp hx
  exact name_ok (ok.nm r hr)
theorem tabs_ok {cs : List CRow} {ts : List TRow} (okc : ColsOk H cs) (ok : TabsOk H (cs.map (·.2.1)) ts) : PyData.canLayAll0 ((ts.map tkey).map tabD) = true := tabs_lay fun x hx => by
  obtain ⟨r, hr, rfl⟩ := List.mem_map.mp hx
  refine ⟨name_ok (ok.nm r hr), fun y hy => ?_⟩
  obtain ⟨c, hc, rfl⟩ := List.mem_map.mp (ok.own r hr y hy)
  exact name_ok (okc.nm c hc)
/-- two tuples of columns, two lists of columns, compared -/
theorem cmp_colsT {cs cs' : List CRow} {a b : Addr} {Q : VK} (h : H a = some (.tup (cs.map cv))) (h' : H b = some (.tup (cs'.map cv))) (ok : ColsOk H cs) (ok' : ColsOk H cs') (q : Q (.bl (decide (cs.map (·.2) = cs'.map (·.2)))) H) : rEqD K (.ref a) (.ref b) H Q :=
  ⟨_, _, .tup (tof h) (dp_cols ok.row), .tup (tof h') (dp_cols ok'.row), shaped_tup (cols_ok ok) (Nat.le_trans cols_depth (by decide)), shaped_tup (cols_ok ok') (Nat.le_trans cols_depth (by decide)), by rw [eqv_tup eqv_col]; exact q⟩
theorem cmp_tabsT {cs cs' : List CRow} {ts ts' : List TRow} {a b : Addr} {Q : VK} (h : H a = some (.tup (ts.map tv))) (h' : H b = some (.tup (ts'.map tv))) (okc : ColsOk H cs) (okc' : ColsOk H cs') (ok : TabsOk H (cs.map (·.2.1)) ts) (ok' : TabsOk H (cs'.map (·.2.1)) ts')
    (q : Q (.bl (decide (ts.map tkey = ts'.map tkey))) H) : rEqD K (.ref a) (.ref b) H Q :=
  ⟨_, _, .tup (tof h) (dp_tabs ok.row ok.prt), .tup (tof h') (dp_tabs ok'.row ok'.prt), shaped_tup (tabs_ok okc ok) tabs_depth, shaped_tup (tabs_ok okc' ok') tabs_depth, by rw [eqv_tup eqv_tab]; exact q⟩
end
end As

/-! ## A7 -/
namespace As
open PySem PySem.Spec PyProof.Rows L2 TL
theorem tl_len {z : Str} : z.length = (tl z).length := by show z.cps.size = z.cps.toList.length; rw [Array.length_toList]
theorem nameB_tl {z : Str} : nameB z = (decide (1 ≤ (tl z).length ∧ (tl z).length ≤ 8) && (tl z).all letter) := by
  unfold nameB; rw [tl_len]
theorem nameB_iff {z : Str} : nameB z = true ↔ (1 ≤ (tl z).length ∧ (tl z).length ≤ 8) ∧ ∀ c ∈ tl z, letter c = true := by
  rw [nameB_tl, Bool.and_eq_true, decide_eq_true_iff, List.all_eq_true]
def sg (c : Nat) : Str := ⟨#[c]⟩
theorem join_signs : ∀ cs : List Nat, tl (Txt.join (Str.ofString "") (cs.map sg)) = cs := fun cs => by
  rw [join_eq, tl_join]
  have e : tl (Str.ofString "") = [] := by decide +kernel
  rw [e]
  induction cs with
  | nil => rfl
  | cons c r ih =>
    cases r with
    | nil => rfl
    | cons d r =>
      show [c] ++ ([] ++ joinL [] ((List.map sg (d :: r)).map tl)) = c :: d :: r
      rw [ih]; rfl
theorem cut7 {z : Str} : tl (cutS z none (some 7)) = (tl z).take 7 := by
  unfold cutS
  show (((z.cps.toList.drop (HT.sIx z.length 0 none)).take (HT.sIx z.length z.length (some 7) - HT.sIx z.length 0 none)).toArray).toList = _
  rw [List.toList_toArray, HT.sIx_none, show (7 : Int) = ((7 : Nat) : Int) from rfl, HT.sIx_nat, List.drop_zero, Nat.sub_zero]
  by_cases h : 7 ≤ z.length
  · rw [Nat.min_eq_left h]
  · rw [Nat.min_eq_right (by omega), tl_len, List.take_length, List.take_of_length_le (by have := @tl_len z; omega)]
/-- z[:7] and one more sign -/
def longer (z : Str) (c : Nat) : Str := cutS z none (some 7) ++ sg c
theorem tl_longer {z : Str} {c : Nat} : tl (longer z c) = (tl z).take 7 ++ [c] := by
  unfold longer; rw [tl_append, cut7]; rfl
theorem longer_name {z : Str} {c : Nat} (h : nameB z = true) (hc : letter c = true) : nameB (longer z c) = true := by
  rw [nameB_iff] at h ⊢
  rw [tl_longer]
  refine ⟨?_, fun x hx => ?_⟩
  · rw [List.length_append, List.length_take]
    simp
    omega
  · rcases List.mem_append.mp hx with hx | hx
    · exact h.2 x (List.mem_of_mem_take hx)
    · rw [List.mem_singleton] at hx; rw [hx]; exact hc
theorem longer_inj {z : Str} {c d : Nat} (h : longer z c = longer z d) : c = d := by
  have e := congrArg tl h
  rw [tl_longer, tl_longer] at e
  have e2 := List.append_cancel_left e
  injection e2
theorem longer_len {z : Str} {c : Nat} : (longer z c).length ≤ 8 := by
  rw [tl_len, tl_longer, List.length_append, List.length_take]; simp; omega
def abc : Str := Str.ofString "abcdefghijklmnopqrstuvwxyz"
theorem abc_tl : tl abc = (List.range 26).map (· + 97) := by decide +kernel
theorem abc_letter : ∀ c ∈ tl abc, letter c = true := by decide +kernel
theorem abc_nodup : (tl abc).Nodup := by decide +kernel
theorem nodup_sub {α : Type} [DecidableEq α] : ∀ {xs ys : List α}, xs.Nodup → (∀ x ∈ xs, x ∈ ys) → xs.length ≤ ys.length
  | [], _, _, _ => Nat.zero_le _
  | x :: xs, ys, nd, h => by
    have n2 := List.nodup_cons.mp nd
    have ih := nodup_sub (ys := ys.erase x) n2.2 fun y hy => by
      have hne : y ≠ x := fun e => n2.1 (e ▸ hy)
      exact (List.mem_erase_of_ne hne).mpr (h y (List.mem_cons_of_mem _ hy))
    have hx := h x List.mem_cons_self
    rw [List.length_erase_of_mem hx] at ih
    have := List.length_pos_of_mem hx
    rw [List.length_cons]; omega
/-- of 27 words one is new -/
theorem some_new {z : Str} {fs : List Str} (h : fs.length < 26) : ∃ x r, (z :: (tl abc).map (longer z)).filter (fun y => !decide (y ∈ fs)) = x :: r ∧ x ∉ fs := by
  cases e : (z :: (tl abc).map (longer z)).filter (fun y => !decide (y ∈ fs)) with
  | cons x r =>
    have hx : x ∈ (z :: (tl abc).map (longer z)).filter (fun y => !decide (y ∈ fs)) := by rw [e]; exact List.mem_cons_self
    exact ⟨x, r, rfl, by have := (List.mem_filter.mp hx).2; simpa using this⟩
  | nil =>
    have all : ∀ x ∈ (tl abc).map (longer z), x ∈ fs := fun x hx => by
      have := List.filter_eq_nil_iff.mp e x (List.mem_cons_of_mem _ hx)
      simpa using this
    have nd : ((tl abc).map (longer z)).Nodup := by
      rw [List.Nodup, List.pairwise_map]
      exact abc_nodup.imp fun ne e => ne (longer_inj e)
    have l := nodup_sub nd all
    rw [List.length_map, abc_tl, List.length_map, List.length_range] at l
    omega
theorem new_name {z x : Str} {r fs : List Str} (hz : nameB z = true) (h : (z :: (tl abc).map (longer z)).filter (fun y => !decide (y ∈ fs)) = x :: r) : nameB x = true := by
  have hx : x ∈ (z :: (tl abc).map (longer z)).filter (fun y => !decide (y ∈ fs)) := by rw [h]; exact List.mem_cons_self
  rcases List.mem_cons.mp (List.mem_filter.mp hx).1 with e | e
  · rw [e]; exact hz
  · obtain ⟨c, hc, rfl⟩ := List.mem_map.mp e
    exact longer_name hz (abc_letter c hc)
end As

/-! ## B8 -/
namespace As
open PySem PySem.Spec PyProof.Rows L2
theorem dp_ints {K : PySem.W.Frag} {H : Hp} : ∀ {ns : List Int}, DpAll K H (ns.map V.int) (ns.map .int)
  | [] => .nil
  | n :: _ => .cons (.int n) dp_ints
theorem ints_lay : ∀ {ns : List Int}, PyData.canLayAll0 (ns.map .int) = true ∧ PyData.depthAll (ns.map .int) = 0
  | [] => by simp [PyData.canLayAll0, PyData.depthAll]
  | n :: ns => by
    have h := ints_lay (ns := ns)
    simp [PyData.canLayAll0, PyData.canLay0, PyData.depthAll, PyData.depth, h.1, h.2]
theorem ints_nil {ns : List Int} : PyData.eqv (.list (ns.map .int)) (.list []) = decide (ns = []) := by
  cases ns with
  | nil => simp [PyData.eqv, PyData.eqvAll]
  | cons n ns => simp [PyData.eqv, PyData.eqvAll]
theorem ixN_lt {n : Nat} {i : Int} (h0 : 0 ≤ i) (h1 : i < n) : ixN n i = some i.toNat := by
  unfold ixN; rw [if_pos h0, if_pos h1]
theorem atI_lt {α : Type} {xs : List α} {i : Int} {v : α} (h0 : 0 ≤ i) (h1 : i < xs.length) (h : xs[i.toNat]? = some v) : atI xs i = some v := by
  unfold atI; rw [ixN_lt h0 h1]; exact h
section
variable {P : Program} {w : World} {K : PySem.W.Frag} {mg : Str → Option Value} {base : Heap}
def spState (K : PySem.W.Frag) : Sp := fun vs H Q _ => ∃ (s : Addr) (ns : List Int), vs = [.ref s] ∧ SqL K H s (ns.map V.int) ∧ ns.length ≤ 63 ∧ ∀ a c H', Gd a c H H' → Q (.ref a) H'
abbrev nState : List Str := ["script", "cells", "cell"]
theorem sc_state : FnScope nState ["script"] (defScope s_state) := ⟨rfl, rfl, rfl, by decide +kernel, rfl, by decide +kernel, by decide +kernel⟩
theorem ok_state {f : Addr} {fd : FuncData} (D : Df K mg "_law_state" s_state ["script"] f fd) (T : Bi mg) : FnOk P w K mg base CX0 1 f fd ["script"] (spState K) := by
  refine D.F.ok sc_state (fun vs H Q E h => ?_) (fun cdv A outer s H vs Q E hr h => ?_)
  · obtain ⟨s, ns, rfl, _⟩ := h; rfl
  · obtain ⟨sa, ns, rfl, hs, hl, q⟩ := h
    refine ⟨_, pss_cons (ps_setLc (i := 1) (own := [("cell", 2)]) (g := gName 2) (tt := tYes) rfl sc_state.nd rfl rfl (sw_true rfl rfl rfl (by decide +kernel)) (pi_list (pe_slice sl_list (pv 0) po_none (po_some pe_int)))
        (blkOk_by (N := nState) (sc := defScope s_state) (by decide +kernel)) (fun _ _ _ _ _ => pg_name (i := 2) sc_state.nd rfl (Or.inl rfl)) (fun _ _ _ _ _ => pts_nil)
        (fun _ _ _ _ _ => pe_callB call_abs (by rfl) T.abs boot_abs (pa_cons (pv 2) pa_nil)))
      (pss_cons (ps_if (pt_cmpR (op_eqD (hu64 hr)) (pv 1) (pe_lst pa_nil) (nomark _)) (pss_one (ps_set (i := 1) sc_state.nd rfl (Or.inl rfl) (pe_lst (pa_cons pe_int pa_nil)))) pss_nil)
      (pss_one (ps_ret (pe_lst (pa_cons (pv 1) (pa_cons pe_int (pa_cons pe_int pa_nil))))))), ?_⟩
    have fin : ∀ (c : Addr) (ms : List Int) (H1 : Hp), Same H H1 → H c = none → H1 c = some (.lst (ms.map V.int)) → 0 < ms.length → ms.length ≤ 63 → ∀ a, H1 a = none → Q (.ref a) (upd H1 a (.lst [.ref c, .int 0, .int 1])) := by
      intro c ms H1 s1 nc hc h0 h1 a na
      have nac : a ≠ c := (ne_of_none hc na).symm
      refine q a c _ ⟨same_new' s1 na, s1.free na, nc, 0, 1, ms, nac, upd_same, by rw [upd_ne nac.symm]; exact hc, h0, h1, by decide, by decide⟩
    refine ⟨_, rfl, 63, rfl, sa, _, rfl, hs, fun p np => ⟨p, rfl, ⟨_, lof upd_same⟩, fun D hD => ?_⟩⟩
    have cut : cutV (ns.map V.int) none (some 63) = ns.map V.int := by
      unfold cutV
      rw [HT.sIx_none, show (63 : Int) = ((63 : Nat) : Int) from rfl, HT.sIx_nat, List.length_map]
      rw [List.drop_zero, Nat.min_eq_right hl, Nat.sub_zero, List.take_of_length_le (by rw [List.length_map]; exact Nat.le_refl _)]
    have s1 : Same H (upd H p (.lst (cutV (ns.map V.int) none (some 63)))) := same_new np
    rw [cut] at s1
    have hp : (upd H p (.lst (cutV (ns.map V.int) none (some 63)))) p = some (.lst (ns.map V.int)) := by rw [upd_same, cut]
    have nD := hD
    rw [cut] at hD ⊢
    rw [cut] at hp
    generalize upd H p (.lst (ns.map V.int)) = H1 at s1 hp hD ⊢
    refine lc_same (B := H1) walk_list rfl (Same.refl H1) hD (fun H e => lof (e _ _ hp)) (by rw [List.length_map]; exact Nat.lt_of_le_of_lt hl (by decide)) (fun x => match x with | .int i => some (.int (if i < 0 then -i else i)) | _ => none) (fun x H2 Q1 Q2 hx s2 k1 k2 => ?_) (fun H2 s2 hD2 => ?_)
    · obtain ⟨n, hn, rfl⟩ := List.mem_map.mp hx
      refine ⟨rfl, ?_⟩
      refine iteT (B := Q2 H2) ?_
      exact ⟨_, rfl, n, rfl, k1 _ _ rfl (Same.refl _)⟩
    · have e2 : H2 D = some (.lst ((ns.map fun i => if i < 0 then -i else i).map V.int)) := by
        rw [hD2]; congr 2
        rw [List.filterMap_map, List.map_map, ← filterMap_some]; rfl
      have nDH : H D = none := s1.free hD
      refine ⟨_, rfl, by decide, fun z nz => ?_⟩
      have s3 := same_new (o := .lst ([] : List V)) nz
      refine ⟨_, _, .lst (lof (s3 _ _ e2)) dp_ints, .lst (lof upd_same) .nil, shaped_lst ints_lay.1 (by rw [ints_lay.2]; decide), shaped_lst (by simp [PyData.canLayAll0]) (by simp [PyData.depthAll]), ?_⟩
      rw [ints_nil]
      refine ⟨_, rfl, ?_⟩
      have s4 := (s1.trans s2).trans s3
      refine ite2 (fun h => ?_) (fun h => ?_)
      · refine ⟨by decide, fun c nc => ?_⟩
        refine ⟨_, rfl, by show 3 ≤ sizeLine; decide, fun a na => ?_⟩
        exact fin c [1] _ (same_new' s4 nc) (s4.free nc) upd_same (by decide) (by decide) a na
      · refine ⟨_, rfl, by show 3 ≤ sizeLine; decide, fun a na => ?_⟩
        refine fin D _ _ s4 nDH (s3 _ _ e2) ?_ (by rw [List.length_map]; exact hl) a na
        have hne : ¬ (ns.map fun i => if i < 0 then -i else i) = [] := fun e => h (decide_eq_true e)
        exact List.length_pos_iff.mpr hne

/-- a draw below n -/
def spDraw : Sp := fun vs H Q _ => ∃ (a c : Addr) (n : Int), vs = [.ref a, .int n] ∧ StAt H a c ∧ 0 < n ∧ n < 1073741824 ∧ ∀ r H', 0 ≤ r → r < n → StAt H' a c → Fr a c H H' → Q (.int r) H'
abbrev nDraw : List Str := ["state", "size_most", "at", "cells", "cell"]
theorem sc_draw : FnScope nDraw ["state", "size_most"] (defScope s_draw) := ⟨rfl, rfl, rfl, by decide +kernel, rfl, by decide +kernel, by decide +kernel⟩
theorem ok_draw {f : Addr} {fd : FuncData} (D : Df K mg "_law_draw" s_draw ["state", "size_most"] f fd) (T : Bi mg) : FnOk P w K mg base CX0 1 f fd ["state", "size_most"] spDraw := by
  refine D.F.ok sc_draw (fun vs H Q E h => ?_) (fun cdv A outer s H vs Q E hr h => ?_)
  · obtain ⟨a, c, n, rfl, _⟩ := h; rfl
  · obtain ⟨a, c, n, rfl, ⟨i, h, cs, nac, ha, hc, c0, c63, h0, hm⟩, n0, n30, q⟩ := h
    refine ⟨_, pss_cons (ps_set (i := 2) sc_draw.nd rfl (Or.inl rfl) (pe_op op_mod (pe_ix ix_list (pv 0) pe_int (fun _ _ => rfl)) (pe_callB call_len_seq (by rfl) T.len PySem.boot_len (pa_cons (pe_ix ix_list (pv 0) pe_int (fun _ _ => rfl)) pa_nil))))
      (pss_cons (ps_set (i := 3) sc_draw.nd rfl (Or.inl rfl) (pe_ix ix_list (pv 0) pe_int (fun _ _ => rfl)))
      (pss_cons (ps_set (i := 4) sc_draw.nd rfl (Or.inl rfl) (pe_ix ix_list (pv 3) (pv 2) (fun _ _ => rfl)))
      (pss_cons (ps_if (pt_cmpR op_ge (pv 4) (pe_op op_pow pe_int pe_int) (nomark _))
        (pss_cons (ps_asg (pe_op op_fdivW (pv 4) (pv 1)) (pg_sub (pv 3) (pv 2) set_list (fun _ => rfl))) (pss_one (ps_ret (pe_op op_mod (pv 4) (pv 1))))) pss_nil)
      (pss_cons (ps_asg (pe_op op_add (pe_ix ix_list (pv 0) pe_int (fun _ _ => rfl)) pe_int) (pg_sub (pv 0) pe_int set_list (fun _ => rfl)))
      (pss_cons (ps_asg (pe_op op_mod (pe_op op_add (pe_op op_add (pe_op op_mul (pe_ix ix_list (pv 0) pe_int (fun _ _ => rfl)) pe_int) (pv 4)) pe_int) pe_int) (pg_sub (pv 0) pe_int set_list (fun _ => rfl)))
      (pss_one (ps_ret (pe_op op_mod (pe_op op_fdiv (pe_op op_mod (pe_op op_mul (pe_ix ix_list (pv 0) pe_int (fun _ _ => rfl)) (pe_ix ix_list (pv 0) pe_int (fun _ _ => rfl))) pe_int) pe_int) (pv 1))))))))), ?_⟩
    have lpos : (0 : Int) < ((cs.map V.int).length : Nat) := by rw [List.length_map]; omega
    have m0 : 0 ≤ i % ((cs.map V.int).length : Nat) := Int.emod_nonneg _ (by omega)
    have m1 : i % ((cs.map V.int).length : Nat) < ((cs.map V.int).length : Nat) := Int.emod_lt_of_pos _ lpos
    refine ⟨_, rfl, a, _, 1, .int i, rfl, rfl, lof ha, rfl, _, rfl, a, _, 0, .ref c, rfl, rfl, lof ha, rfl, c, _, rfl, .inl (lof hc), i, _, rfl, rfl, lpos, ?_⟩
    refine ⟨_, rfl, a, _, 0, .ref c, rfl, rfl, lof ha, rfl, ?_⟩
    let j := i % ((cs.map V.int).length : Nat)
    have jl : j.toNat < cs.length := by have m2 : j < ((cs.map V.int).length : Nat) := m1; rw [List.length_map] at m2; have m3 : 0 ≤ j := m0; omega
    have hget : (cs.map V.int)[j.toNat]? = some (.int cs[j.toNat]) := by rw [List.getElem?_map, List.getElem?_eq_getElem jl]; rfl
    obtain ⟨z, hz⟩ : ∃ z, cs[j.toNat] = z := ⟨_, rfl⟩
    rw [hz] at hget
    refine ⟨_, rfl, _, rfl, c, _, j, .int z, rfl, rfl, lof hc, atI_lt m0 m1 hget, ?_⟩
    refine ⟨_, rfl, 10, 18, rfl, rfl, ⟨by decide, by decide, by decide⟩, z, _, rfl, rfl, _, rfl, ?_⟩
    refine ite2 (fun _ => ?_) (fun _ => ?_)
    · -- a large cell gives its last digit
      refine ⟨_, rfl, _, rfl, z, n, rfl, rfl, wide_div n0 (b := 30) (by omega) (by decide) (by decide), _, rfl, _, rfl, c, _, j, _, rfl, rfl, hc, ixN_lt m0 m1, ?_⟩
      refine ⟨_, rfl, _, rfl, z, n, rfl, rfl, n0, q _ _ (Int.emod_nonneg _ (by omega)) (Int.emod_lt_of_pos _ n0) ⟨i, h, cs.set j.toNat (z / n), nac, by rw [upd_ne nac]; exact ha, ?_, by rw [List.length_set]; exact c0, by rw [List.length_set]; exact c63, h0, hm⟩ fun b o _ nb e => by rw [upd_ne nb]; exact e⟩
      rw [upd_same, List.map_set]
    · refine ⟨_, rfl, a, _, 1, .int i, rfl, rfl, lof ha, rfl, i, 1, rfl, rfl, _, rfl, a, _, 1, 1, rfl, rfl, ha, rfl, ?_⟩
      refine ⟨_, rfl, a, _, 2, .int h, rfl, rfl, lof upd_same, rfl, h, 48271, rfl, rfl, .inr ⟨by decide, by decide⟩, _, rfl, _, z, rfl, rfl, _, 12345, rfl, rfl, _, 2147483647, rfl, rfl, (show (0 : Int) < 2147483647 by decide), ?_⟩
      have g0 : 0 ≤ (h * 48271 + z + 12345) % 2147483647 := Int.emod_nonneg _ (by decide)
      have g1 : (h * 48271 + z + 12345) % 2147483647 < 2147483647 := Int.emod_lt_of_pos _ (by decide)
      let g := (h * 48271 + z + 12345) % 2147483647
      refine ⟨_, rfl, a, _, 2, 2, rfl, rfl, upd_same, rfl, ?_⟩
      refine ⟨_, rfl, a, _, 2, .int g, rfl, rfl, lof upd_same, rfl, _, rfl, a, _, 2, .int g, rfl, rfl, lof upd_same, rfl, g, g, rfl, rfl, .inl ⟨Int.lt_of_lt_of_le (by decide) g0, Int.lt_trans g1 (by decide)⟩, _, 2147483629, rfl, rfl, (show (0 : Int) < 2147483629 by decide), _, 16, rfl, rfl, ⟨by decide, by decide⟩, _, rfl, _, n, rfl, rfl, n0, ?_⟩
      refine q _ _ (Int.emod_nonneg _ (by omega)) (Int.emod_lt_of_pos _ n0) ⟨i + 1, g, cs, nac, upd_same, by rw [upd_ne nac.symm, upd_ne nac.symm]; exact hc, c0, c63, g0, g1⟩ fun b o na _ e => by rw [upd_ne na, upd_ne na]; exact e
end
end As

/-! ## B9 -/
namespace As
open PySem PySem.Spec PyProof.Rows L2
section
variable {P : Program} {w : World} {K : PySem.W.Frag} {mg : Str → Option Value} {base : Heap}
def spPick : Sp := fun vs H Q _ => ∃ (a c : Addr) (x : V), vs = [.ref a, x] ∧ StAt H a c ∧
  ((∃ (s : Addr) (xs : List V), x = .ref s ∧ s ≠ a ∧ s ≠ c ∧ H s = some (.lst xs) ∧ 0 < xs.length ∧ xs.length < 1000000 ∧ ∀ v H', v ∈ xs → StAt H' a c → Fr a c H H' → Q v H') ∨
   ∃ z : Str, x = .str z ∧ 0 < z.length ∧ z.length < 1000000 ∧ ∀ (k : Nat) H', k ∈ z.cps.toList → StAt H' a c → Fr a c H H' → Q (.str ⟨#[k]⟩) H')
theorem sc_pick : FnScope ["state", "some"] ["state", "some"] (defScope s_pick) := ⟨rfl, rfl, rfl, by decide +kernel, rfl, by decide +kernel, by decide +kernel⟩
theorem ok_pick {f fd' : Addr} {fd dd : FuncData} (D : Df K mg "_law_pick" s_pick ["state", "some"] f fd) (T : Bi mg) (Dd : Df K mg "_law_draw" s_draw ["state", "size_most"] fd' dd) (Gd' : FnOk P w K mg base CX0 1 fd' dd ["state", "size_most"] spDraw) :
    FnOk P w K mg base CX0 2 f fd ["state", "some"] spPick := by
  refine D.F.ok sc_pick (fun vs H Q E h => ?_) (fun cdv A outer s H vs Q E hr h => ?_)
  · obtain ⟨a, c, x, rfl, _⟩ := h; rfl
  · obtain ⟨a, c, x, rfl, st, q⟩ := h
    refine ⟨_, pss_one (ps_ret (pe_ix ix_seq (pv 1) (pcall Dd Gd' hr (pa_cons (pv 0) (pa_cons (pe_callB call_len (by rfl) T.len PySem.boot_len (pa_cons (pv 1) pa_nil)) pa_nil))) (fun _ _ => rfl))), ?_⟩
    rcases q with ⟨s, xs, rfl, na, nc, hs, l0, l1, q⟩ | ⟨z, rfl, l0, l1, q⟩
    · refine ⟨_, rfl, _, rfl, _, rfl, _, _, rfl, .inl ⟨xs, lof hs, rfl⟩, a, c, (xs.length : Nat), rfl, st, by omega, by omega, fun r H' r0 r1 st' fr => ?_⟩
      have hi : r.toNat < xs.length := by omega
      exact .inl ⟨s, xs, r, xs[r.toNat], rfl, rfl, lof (fr _ _ na nc hs), atI_lt r0 r1 (List.getElem?_eq_getElem hi), q _ _ (List.getElem_mem hi) st' fr⟩
    · refine ⟨_, rfl, _, rfl, _, rfl, .str z, _, rfl, ⟨Nat.le_of_lt (Nat.lt_trans l1 (by decide)), rfl⟩, a, c, (z.length : Nat), rfl, st, by omega, by omega, fun r H' r0 r1 st' fr => ?_⟩
      have hi : r.toNat < z.cps.toList.length := by rw [Array.length_toList]; have := @str_len z; omega
      exact .inr (.inr ⟨z, r, z.cps.toList[r.toNat], rfl, rfl, Nat.le_of_lt (Nat.lt_trans l1 (by decide)), atI_lt r0 (by rw [Array.length_toList]; exact r1) (List.getElem?_eq_getElem hi), q _ _ (List.getElem_mem hi) st' fr⟩)

/-- plain data, not deep -/
def Plain (K : PySem.W.Frag) (B : Hp) (x : V) : Prop := ∃ d, Dp K B x d ∧ PyData.canLay0 d = true ∧ PyData.depth d ≤ 2
mutual
theorem dp_same {K : PySem.W.Frag} {H H' : Hp} (e : Same H H') : ∀ {v : V} {d : PyData}, Dp K H v d → Dp K H' v d
  | _, _, .non => .non
  | _, _, .bl b => .bl b
  | _, _, .int i => .int i
  | _, _, .str x => .str x
  | _, _, .lst h a => .lst (e.seq h) (dpAll_same e a)
  | _, _, .tup h a => .tup (same_t e h) (dpAll_same e a)
theorem dpAll_same {K : PySem.W.Frag} {H H' : Hp} (e : Same H H') : ∀ {vs : List V} {ds : List PyData}, DpAll K H vs ds → DpAll K H' vs ds
  | _, _, .nil => .nil
  | _, _, .cons h a => .cons (dp_same e h) (dpAll_same e a)
end
theorem plain_all {B : Hp} : ∀ {xs : List V}, (∀ x ∈ xs, Plain K B x) → ∃ ds, DpAll K B xs ds ∧ PyData.canLayAll0 ds = true ∧ PyData.depthAll ds ≤ 2
  | [], _ => ⟨[], .nil, by simp [PyData.canLayAll0], by simp [PyData.depthAll]⟩
  | x :: xs, h => by
    obtain ⟨ds, h1, h2, h3⟩ := plain_all fun y hy => h y (List.mem_cons_of_mem _ hy)
    obtain ⟨d, g1, g2, g3⟩ := h x List.mem_cons_self
    refine ⟨d :: ds, .cons g1 h1, ?_, ?_⟩
    · simp only [PyData.canLayAll0, g2, h2, Bool.and_self]
    · simp only [PyData.depthAll]; omega
theorem dpAll_len {B : Hp} : ∀ {xs : List V} {ds : List PyData}, DpAll K B xs ds → xs.length = ds.length
  | _, _, .nil => rfl
  | _, _, .cons _ a => by rw [List.length_cons, List.length_cons, dpAll_len a]
/-- xs != [] -/
theorem ne_nil {B H : Hp} {l e : Addr} {xs : List V} {Q : VK} (pl : ∀ x ∈ xs, Plain K B x) (s : Same B H) (h : H l = some (.lst xs)) (he : H e = some (.lst [])) (q : Q (.bl (!decide (xs = []))) H) : rNeD K (.ref l) (.ref e) H Q := by
  obtain ⟨ds, h1, h2, h3⟩ := plain_all pl
  refine ⟨_, _, .lst (lof h) (dpAll_same s h1), .lst (lof he) .nil, shaped_lst h2 h3, shaped_lst (by simp [PyData.canLayAll0]) (by simp [PyData.depthAll]), ?_⟩
  have hl := dpAll_len h1
  have e : PyData.eqv (.list ds) (.list []) = decide (xs = []) := by
    cases ds with
    | nil => cases xs with
      | nil => simp [PyData.eqv, PyData.eqvAll]
      | cons => simp at hl
    | cons => cases xs with
      | nil => simp at hl
      | cons => simp [PyData.eqv, PyData.eqvAll]
  rw [e]; exact q
theorem eq_nil {B H : Hp} {l e : Addr} {xs : List V} {Q : VK} (pl : ∀ x ∈ xs, Plain K B x) (s : Same B H) (h : H l = some (.lst xs)) (he : H e = some (.lst [])) (q : Q (.bl (decide (xs = []))) H) : rEqD K (.ref l) (.ref e) H Q := by
  obtain ⟨ds, h1, h2, h3⟩ := plain_all pl
  refine ⟨_, _, .lst (lof h) (dpAll_same s h1), .lst (lof he) .nil, shaped_lst h2 h3, shaped_lst (by simp [PyData.canLayAll0]) (by simp [PyData.depthAll]), ?_⟩
  have hl := dpAll_len h1
  have e : PyData.eqv (.list ds) (.list []) = decide (xs = []) := by
    cases ds with
    | nil => cases xs with
      | nil => simp [PyData.eqv, PyData.eqvAll]
      | cons => simp at hl
    | cons => cases xs with
      | nil => simp at hl
      | cons => simp [PyData.eqv, PyData.eqvAll]
  rw [e]; exact q
theorem seq_at {r : Int} {n : Nat} (h0 : 0 ≤ r) (h1 : r < n) : seqIndex? r n = some r.toNat := (ixN_seq (ixN_lt h0 h1)).1

theorem erase_perm {α : Type} : ∀ (xs : List α) (i : Nat) (h : i < xs.length), ([xs[i]] ++ xs.eraseIdx i).Perm xs
  | x :: xs, 0, _ => .refl _
  | x :: xs, i + 1, h => by
    have hi : i < xs.length := by simpa using h
    have ih := erase_perm xs i hi
    show (xs[i] :: x :: xs.eraseIdx i).Perm (x :: xs)
    exact (List.Perm.swap x xs[i] _).trans (ih.cons x)
def spMixed (K : PySem.W.Frag) : Sp := fun vs H Q _ => ∃ (a c s : Addr) (xs : List V) (B : Hp), vs = [.ref a, .ref s] ∧ Gd a c B H ∧ H s = some (.lst xs) ∧ xs.length ≤ 1000 ∧ (∀ x ∈ xs, Plain K B x) ∧
  ∀ p ys B' H', ys.Perm xs → Same B B' → Gd a c B' H' → H p = none → B' p = some (.lst ys) → Q (.ref p) H'
abbrev nMixed : List Str := ["state", "some", "left", "found"]
theorem sc_mixed : FnScope nMixed ["state", "some"] (defScope s_mixed) := ⟨rfl, rfl, rfl, by decide +kernel, rfl, by decide +kernel, by decide +kernel⟩
theorem ok_mixed {f fd' : Addr} {fd dd : FuncData} (D : Df K mg "_law_mixed" s_mixed ["state", "some"] f fd) (T : Bi mg) (Dd : Df K mg "_law_draw" s_draw ["state", "size_most"] fd' dd) (Gd' : FnOk P w K mg base CX0 1 fd' dd ["state", "size_most"] spDraw) :
    FnOk P w K mg base CX0 2 f fd ["state", "some"] (spMixed K) := by
  refine D.F.ok sc_mixed (fun vs H Q E h => ?_) (fun cdv A outer s H vs Q E hr h => ?_)
  · obtain ⟨a, c, s, xs, B, rfl, _⟩ := h; rfl
  · obtain ⟨a, c, s, xs, B, rfl, g, hs, hl, pl, q⟩ := h
    refine ⟨_, pss_cons (ps_par (i := 2) (j := 3) rfl sc_mixed.nd rfl rfl (by decide) rfl rfl (pa_cons (pe_callTy call_list_of (by rfl) T.list boot_list (pa_cons (pv 1) pa_nil)) (pa_cons (pe_lst pa_nil) pa_nil)) (by rfl))
      (pss_cons (ps_while PassesOwn.never (pt_cmpR (op_neD (hu64 hr)) (pv 2) (pe_lst pa_nil) (nomark _))
        (pss_one (ps_expr (pe_bm PySem.F.plainAttrs_list PySem.F.slot_list_append PySem.F.type_list_append mt_append (pv 3)
          (pa_cons (pe_bm PySem.F.plainAttrs_list PySem.F.slot_list_pop PySem.F.type_list_pop mt_popAt (pv 2) (pa_cons (pcall Dd Gd' hr (pa_cons (pv 0) (pa_cons (pe_callB call_len_seq (by rfl) T.len PySem.boot_len (pa_cons (pv 2) pa_nil)) pa_nil))) pa_nil)) pa_nil)))))
      (pss_one (ps_ret (pv 3)))), ?_⟩
    refine ⟨_, rfl, s, xs, rfl, .inl (lof hs), fun l nl => ⟨Nat.zero_le _, fun f nf => ⟨_, _, rfl, ?_⟩⟩⟩
    have g1 := g.new (o := .lst xs) nl
    have g2 := g1.new (o := .lst []) nf
    have nlf : l ≠ f := ne_of_none upd_same nf
    have nHf : H f = none := by rw [upd_ne nlf.symm] at nf; exact nf
    refine while_by (fun σ H' => ∃ ls fs, σ = [some (.ref a), some (.ref s), some (.ref l), some (.ref f)] ∧ Gd a c B H' ∧ H' l = some (.lst ls) ∧ H' f = some (.lst fs) ∧ (fs ++ ls).Perm xs)
      (fun σ H' => match H' l with | some (.lst ls) => ls.length | _ => 0) ⟨xs, [], rfl, g2, by rw [upd_ne nlf, upd_same], upd_same, .refl _⟩ ?_ ?_
    · rintro σ H' ⟨ls, fs, rfl, g', h1, h2, pm⟩
      have sub : ∀ x ∈ ls, x ∈ xs := fun x hx => pm.mem_iff.mp (List.mem_append_right _ hx)
      have len : fs.length + ls.length = xs.length := by rw [← List.length_append]; exact pm.length_eq
      refine ⟨_, rfl, Nat.zero_le _, fun e ne => ?_⟩
      have s3 : Same H' (upd H' e (.lst [])) := same_new ne
      refine ne_nil (fun x hx => pl x (sub x hx)) (g'.ex.trans s3) (s3 _ _ h1) upd_same ⟨_, rfl, ?_⟩
      have g3 := g'.same s3
      have k1 := s3 _ _ h1
      have k2 := s3 _ _ h2
      generalize upd H' e (.lst []) = H3 at g3 k1 k2 ⊢
      refine ite2 (fun hne => ?_) (fun hn => ?_)
      · have lne : ls ≠ [] := fun z => by rw [z] at hne; simp at hne
        have lpos : 0 < ls.length := List.length_pos_iff.mpr lne
        refine ⟨_, rfl, .inl ⟨rfl, _, lof k2⟩, _, rfl, .inl ⟨rfl, _, lof k1⟩, _, rfl, _, rfl, l, ls, rfl, .inl (lof k1), a, c, (ls.length : Nat), rfl, g3.st, by omega, by omega, fun r H4 r0 r1 st4 fr4 => ?_⟩
        have la := g.ne_a nl
        have lc := g.ne_c nl
        have fa := g.ne_a nHf
        have fc := g.ne_c nHf
        have k4 := fr4 _ _ la lc k1
        have k5 := fr4 _ _ fa fc k2
        have g4 := g3.fr fr4 st4
        have hi : r.toNat < ls.length := by omega
        refine ⟨l, ls, r, r.toNat, ls[r.toNat], rfl, rfl, k4, by omega, by omega, seq_at r0 r1, List.getElem?_eq_getElem hi, ?_⟩
        refine ⟨f, fs, _, rfl, rfl, by rw [upd_ne nlf.symm]; exact k5, Nat.lt_of_le_of_lt (show fs.length ≤ 1000 by omega) (by decide), ?_⟩
        have g5 := (g4.chg (o := .lst (ls.eraseIdx r.toNat)) (g.free nl) la lc).chg (o := .lst (fs ++ [ls[r.toNat]])) (g.free nHf) fa fc
        have e1 : (upd (upd H4 l (.lst (ls.eraseIdx r.toNat))) f (.lst (fs ++ [ls[r.toNat]]))) l = some (.lst (ls.eraseIdx r.toNat)) := by rw [upd_ne nlf, upd_same]
        refine ⟨⟨ls.eraseIdx r.toNat, fs ++ [ls[r.toNat]], rfl, g5, e1, upd_same, ?_⟩, ?_⟩
        · refine List.Perm.trans ?_ pm
          rw [List.append_assoc]
          refine List.Perm.append_left fs ?_
          exact erase_perm _ _ hi
        · show (match (upd (upd H4 l (.lst (ls.eraseIdx r.toNat))) f (.lst (fs ++ [ls[r.toNat]]))) l with | some (.lst ls) => ls.length | _ => 0) < (match H' l with | some (.lst ls) => ls.length | _ => 0)
          rw [e1, h1]
          show (ls.eraseIdx r.toNat).length < ls.length
          rw [List.length_eraseIdx, if_pos hi]; omega
      · have l0 : ls = [] := by
          cases ls with
          | nil => rfl
          | cons x t => exact absurd (by simp) hn
        subst l0
        rw [List.append_nil] at pm
        have fa := g.ne_a nHf
        have fc := g.ne_c nHf
        exact ⟨_, rfl, q f fs (upd B f (.lst fs)) H3 pm (same_new (g.free nHf)) (g3.know k2 fa fc) nHf upd_same⟩
    · rintro σ H' Q1 Q2 imp ⟨v, hv, sz, k⟩
      refine ⟨v, hv, sz, fun p np => ?_⟩
      obtain ⟨d, e, h1, h2, h3, h4, b, hb, q⟩ := k p np
      exact ⟨d, e, h1, h2, h3, h4, b, hb, imp _ _ q⟩
end
end As

/-! ## B10 -/
namespace As
open PySem PySem.Spec PyProof.Rows L2 TL
section
variable {P : Program} {w : World} {K : PySem.W.Frag} {mg : Str → Option Value} {base : Heap}
/-- distinct names -/
structure Names (ws : List Str) : Prop where
  nd : ws.Nodup
  nm : ∀ x ∈ ws, nameB x = true
def spNames : Sp := fun vs H Q _ => ∃ (a c : Addr) (n : Int) (B : Hp), vs = [.ref a, .int n] ∧ Gd a c B H ∧ 1 ≤ n ∧ n ≤ 8 ∧ ∀ p ws B' H', Same B B' → Gd a c B' H' → H p = none → B' p = some (.lst (ws.map V.str)) → ws.length = n.toNat → Names ws → Q (.ref p) H'
abbrev nNames : List Str := ["state", "size", "found", "letters", "k", "word", "some", "sign", "one"]
theorem sc_names : FnScope nNames ["state", "size"] (defScope s_names) := ⟨rfl, rfl, rfl, by decide +kernel, rfl, by decide +kernel, by decide +kernel⟩
theorem signs_sum : ∀ cs : List Nat, ((cs.map sg).map (·.length)).sum = cs.length
  | [] => rfl
  | c :: r => by rw [List.map_cons, List.map_cons, List.sum_cons, signs_sum r, List.length_cons]; show 1 + r.length = r.length + 1; omega
theorem menu_name {w1 : Str} (h : nameB w1 = true) {v : V} (hv : v ∈ [V.str w1, V.str w1, V.str w1, V.str (Str.ofString "column"), V.str (Str.ofString "table"), V.str (Str.ofString "fact"), V.str (Str.ofString "price"), V.str (Str.ofString "plan"), V.str (Str.ofString "a")]) : ∃ z, v = .str z ∧ nameB z = true := by
  simp only [List.mem_cons, List.not_mem_nil, or_false] at hv
  rcases hv with rfl | rfl | rfl | rfl | rfl | rfl | rfl | rfl | rfl
  · exact ⟨_, rfl, h⟩
  · exact ⟨_, rfl, h⟩
  · exact ⟨_, rfl, h⟩
  · exact ⟨_, rfl, by decide +kernel⟩
  · exact ⟨_, rfl, by decide +kernel⟩
  · exact ⟨_, rfl, by decide +kernel⟩
  · exact ⟨_, rfl, by decide +kernel⟩
  · exact ⟨_, rfl, by decide +kernel⟩
  · exact ⟨_, rfl, by decide +kernel⟩
theorem abc_len : 0 < abc.length ∧ abc.length < 1000000 := by decide +kernel
theorem ok_names {f fp fd' : Addr} {fd dp dd : FuncData} (D : Df K mg "_law_names" s_names ["state", "size"] f fd) (T : Bi mg) (Dd : Df K mg "_law_draw" s_draw ["state", "size_most"] fd' dd) (Gd' : FnOk P w K mg base CX0 1 fd' dd ["state", "size_most"] spDraw)
    (Dp : Df K mg "_law_pick" s_pick ["state", "some"] fp dp) (Gp : FnOk P w K mg base CX0 2 fp dp ["state", "some"] spPick) : FnOk P w K mg base CX0 3 f fd ["state", "size"] spNames := by
  refine D.F.ok sc_names (fun vs H Q E h => ?_) (fun cdv A outer s H vs Q E hr h => ?_)
  · obtain ⟨a, c, n, B, rfl, _⟩ := h; rfl
  · obtain ⟨a, c, n, B, rfl, g, n1, n8, q⟩ := h
    have hr1 : Room 1 _ := hr.mono (by decide)
    refine ⟨_, pss_cons (ps_asg (pe_tup (pa_cons (pe_lst pa_nil) (pa_cons pe_str pa_nil))) (pg_tup rfl (pgs_cons (pg_name (i := 2) sc_names.nd rfl (Or.inr rfl)) (pgs_cons (pg_name (i := 3) sc_names.nd rfl (Or.inr rfl)) pgs_nil))))
      (pss_cons (ps_for PassesOwn.never rfl (pi_range1 rfl T.range (pa_cons (pv 1) pa_nil)) (pg_name (i := 4) sc_names.nd rfl (Or.inl rfl))
        (pss_cons (ps_set (i := 5) sc_names.nd rfl (Or.inr rfl) (pe_join pe_str (pe_lc (own := [("sign", 7)]) (g := gName 7) (tt := tYes) rfl sc_names.nd (pi_range1 rfl T.range (pa_cons (pe_op op_add pe_int (pcall Dd Gd' hr1 (pa_cons (pv 0) (pa_cons pe_int pa_nil)))) pa_nil))
            (blkOk_by (N := nNames) (sc := defScope s_names) (by decide +kernel)) (fun _ _ _ _ _ => pg_name (i := 7) sc_names.nd rfl (Or.inl rfl)) (fun _ _ _ _ _ => pts_nil) (fun _ _ _ _ _ => pcall Dp Gp hr (pa_cons (pv 0) (pa_cons (pv 3) pa_nil))))))
        (pss_cons (ps_set (i := 5) sc_names.nd rfl (Or.inr rfl) (pcall Dp Gp hr (pa_cons (pv 0) (pa_cons (pe_lst (pa_cons (pv 5) (pa_cons (pv 5) (pa_cons (pv 5) (pa_cons pe_str (pa_cons pe_str (pa_cons pe_str (pa_cons pe_str (pa_cons pe_str (pa_cons pe_str pa_nil)))))))))) pa_nil))))
        (pss_cons (ps_set (i := 6) sc_names.nd rfl (Or.inl rfl) (pe_op op_cat (pe_lst (pa_cons (pv 5) pa_nil)) (pe_lc (own := [("sign", 7)]) (g := gName 7) (tt := tYes) rfl sc_names.nd (pi_str (pv 3))
            (blkOk_by (N := nNames) (sc := defScope s_names) (by decide +kernel)) (fun _ _ _ _ _ => pg_name (i := 7) sc_names.nd rfl (Or.inl rfl)) (fun _ _ _ _ _ => pts_nil) (fun _ _ _ _ _ => pe_op op_add_str (pe_slice sl_str (pv 5) po_none (po_some pe_int)) (pv 7)))))
        (pss_one (ps_expr (pe_bm PySem.F.plainAttrs_list PySem.F.slot_list_append PySem.F.type_list_append mt_append (pv 2) (pa_cons (pe_ix ix_list (pe_lc (own := [("one", 8)]) (g := gName 8) (tt := tTest (tOp (rIn K true) (tVar 8) (tVar 2))) rfl sc_names.nd (pi_list (pv 6))
            (blkOk_by (N := nNames) (sc := defScope s_names) (by decide +kernel)) (fun _ _ _ _ _ => pg_name (i := 8) sc_names.nd rfl (Or.inl rfl)) (fun _ _ _ _ _ => pts_one (pt_cmpR (notInK K) (pv 8) (pv 2) rfl)) (fun _ _ _ _ _ => pv 8)) pe_int (fun _ _ => rfl)) pa_nil))))))))
      (pss_one (ps_ret (pv 2)))), ?_⟩
    refine ⟨Nat.zero_le _, fun f nf => ⟨by show 2 ≤ sizeLine; decide, fun t nt => ⟨t, _, rfl, tof upd_same, rfl, _, _, rfl, _, _, rfl, rfl, ?_⟩⟩⟩
    have ntf : t ≠ f := (ne_of_none upd_same nt).symm
    have ga := (g.new (o := .lst []) nf).new (o := .tup [V.ref f, V.str (Str.ofString "abcdefghijklmnopqrstuvwxyz")]) nt
    have fa := g.ne_a nf
    have fc := g.ne_c nf
    have fB : B f = none := g.free nf
    refine ⟨_, rfl, n, rfl, by omega, by omega, for_range (lo := 0) (n := n.toNat) (fun i σ H' => ∃ (B' : Hp) (fs : List Str) (x4 x5 x6 x7 x8 : Option V), σ = [some (.ref a), some (.int n), some (.ref f), some (.str abc), x4, x5, x6, x7, x8] ∧ Same B B' ∧ Gd a c B' H' ∧ B' f = none ∧
        H' f = some (.lst (fs.map V.str)) ∧ fs.length = i ∧ Names fs) ⟨B, [], none, none, none, none, none, rfl, Same.refl B, ga, fB, by rw [upd_ne ntf.symm, upd_same]; rfl, rfl, ⟨List.nodup_nil, fun _ z => nomatch z⟩⟩ ?_ ?_⟩
    · rintro i σ H0 hi ⟨B0, fs, x4, x5, x6, x7, x8, rfl, s0, g0, f0, hf0, len, nms⟩
      have gk := g0.know hf0 fa fc
      have sk : Same B (upd B0 f (.lst (fs.map V.str))) := same_new' s0 f0
      have kf : (upd B0 f (.lst (fs.map V.str))) f = some (.lst (fs.map V.str)) := upd_same
      generalize upd B0 f (.lst (fs.map V.str)) = B1 at gk sk kf
      -- the word of letters
      refine ⟨⟨_, rfl⟩, _, rfl, a, c, 8, rfl, gk.st, by decide, by decide, fun r H3 r0 r1 st3 fr3 => ⟨1, r, rfl, rfl, 1 + r, rfl, by omega, by omega, fun D hD => ?_⟩⟩
      have g3 := gk.fr fr3 st3
      refine lc_draw (B := B1) (H1 := H3) (a := a) (c := c) walk_range g3 hD (fun _ _ _ _ => trivial) (Nat.lt_of_le_of_lt (show (1 + r).toNat ≤ 8 by omega) (by decide)) (fun i acc _ => ∃ cs : List Nat, acc = (cs.map sg).map V.str ∧ cs.length = i ∧ ∀ k ∈ cs, letter k = true)
        ⟨[], rfl, rfl, fun _ z => nomatch z⟩ (fun _ _ _ _ h _ => h) (fun i acc _ ⟨cs, e, l, _⟩ => by rw [e, List.length_map, List.length_map, l]; exact Nat.le_refl _) (fun j H4 B4 acc Q1 Q2 hj s4 g4 p4 d4 k1 k2 => ?_) (fun H4 B4 acc s4 g4 d4 p4 => ?_)
      · obtain ⟨cs, rfl, lc, ls⟩ := p4
        refine ⟨rfl, ?_⟩
        refine iteT (B := Q2 H4) ?_
        refine ⟨_, rfl, _, rfl, a, c, .str abc, rfl, g4.st, .inr ⟨abc, rfl, abc_len.1, abc_len.2, fun k H5 hk st5 fr5 => k1 _ _ B4 (Same.refl _) (g4.fr fr5 st5) ⟨cs ++ [k], ?_, ?_, fun x hx => ?_⟩⟩⟩
        · rw [List.map_append, List.map_append]; rfl
        · rw [List.length_append, lc]; rfl
        · rcases List.mem_append.mp hx with hx | hx
          · exact ls x hx
          · rw [List.mem_singleton] at hx; rw [hx]; exact abc_letter k hk
      · obtain ⟨cs, rfl, lcs, ls⟩ := p4
        refine ⟨_, D, cs.map sg, rfl, rfl, .inl (lof (g4.ex _ _ d4)), ?_, ?_⟩
        · rw [signs_sum, List.length_map]
          have : (Str.ofString "").length = 0 := by decide +kernel
          rw [this, lcs]; omega
        have w1 : nameB (Txt.join (Str.ofString "") (cs.map sg)) = true := by
          rw [nameB_iff, join_signs]
          exact ⟨by omega, ls⟩
        generalize Txt.join (Str.ofString "") (cs.map sg) = wd at w1 ⊢
        have kf4 : B4 f = some (.lst (fs.map V.str)) := s4 _ _ kf
        -- or one of the words
        refine ⟨_, rfl, _, rfl, _, rfl, _, rfl, by show 9 ≤ sizeLine; decide, fun L nL => ⟨a, c, .ref L, rfl, (g4.new nL).st, .inl ⟨L, _, rfl, g4.ne_a nL, g4.ne_c nL, upd_same, by show 0 < 9; decide, by show 9 < 1000000; decide, fun v H6 hv st6 fr6 => ?_⟩⟩⟩
        obtain ⟨z, rfl, hz⟩ := menu_name w1 hv
        have g6 := (g4.new nL).fr fr6 st6
        -- the words that may stand in for it
        refine ⟨_, rfl, by show 1 ≤ sizeLine; decide, fun L1 n1 => ?_⟩
        have g7 := g6.new (o := .lst [V.str z]) n1
        have h7 : (upd H6 L1 (.lst [V.str z])) L1 = some (.lst [V.str z]) := upd_same
        generalize upd H6 L1 (.lst [V.str z]) = H7 at g7 h7 ⊢
        refine ⟨_, rfl, abc, rfl, fun D2 nD2 => lc_same (B := H7) walk_sign signs_length.symm (Same.refl H7) nD2 (fun _ _ => trivial) (by rw [signs_length]; exact Nat.lt_trans abc_len.2 (by decide))
          (fun x => match x with | .str y => some (.str (cutS z none (some 7) ++ y)) | _ => none) (fun x H8 Q1 Q2 hx s8 k1 k2 => ?_) (fun H8 s8 hD8 => ?_)⟩
        · obtain ⟨k, hk, rfl⟩ := List.mem_map.mp hx
          refine ⟨rfl, ?_⟩
          refine iteT (B := Q2 H8) ?_
          refine ⟨_, rfl, 7, rfl, z, rfl, name_line hz, _, rfl, _, _, rfl, rfl, ?_, k1 _ _ rfl (Same.refl _)⟩
          have e1 := cutS_length z none (some 7)
          have e2 := (name_len hz).2
          refine Nat.le_trans (m := 9) ?_ (by decide)
          show (cutS z none (some 7)).length + 1 ≤ 9
          omega
        · have e8 : H8 D2 = some (.lst (((tl abc).map (longer z)).map V.str)) := by
            rw [hD8]
            unfold signs
            rw [List.filterMap_map, List.map_map, ← filterMap_some]
            rfl
          have l8 := s8 _ _ h7
          refine ⟨L1, D2, _, _, rfl, rfl, l8, e8, by rw [List.length_map, List.length_map, abc_tl, List.length_map, List.length_range]; show 27 ≤ sizeLine; decide, fun S nS => ?_⟩
          have g8 := (g7.same s8).new (o := .lst ([V.str z] ++ ((tl abc).map (longer z)).map V.str)) nS
          have hS : (upd H8 S (.lst ([V.str z] ++ ((tl abc).map (longer z)).map V.str))) S = some (.lst ((z :: (tl abc).map (longer z)).map V.str)) := upd_same
          generalize upd H8 S (.lst ([V.str z] ++ ((tl abc).map (longer z)).map V.str)) = H9 at g8 hS ⊢
          have hf9 := g8.ex _ _ kf4
          refine ⟨_, rfl, .inl ⟨rfl, _, lof hf9⟩, _, rfl, S, rfl, ⟨_, lof hS⟩, fun D3 nD3 => lc_same (B := H9) walk_list rfl (Same.refl H9) nD3 (fun H e => lof (e _ _ hS)) (by rw [List.length_map, List.length_cons, List.length_map, abc_tl, List.length_map, List.length_range]; decide)
            (fun x => match x with | .str y => if y ∈ fs then none else some (.str y) | _ => none) (fun x H10 Q1 Q2 hx s10 k1 k2 => ?_) (fun H10 s10 hD10 => ?_)⟩
          · obtain ⟨y, hy, rfl⟩ := List.mem_map.mp hx
            refine ⟨rfl, _, rfl, _, rfl, f, _, rfl, .inl (lof (s10 _ _ hf9)), rfl, flat_strs, _, rfl, ?_⟩
            rw [inV_str]
            by_cases hm : y ∈ fs
            · rw [decide_eq_true hm]
              exact iteF (k2 _ (by show (if y ∈ fs then none else some (V.str y)) = none; rw [if_pos hm]) (Same.refl _))
            · rw [decide_eq_false hm]
              exact iteT ⟨_, rfl, k1 _ _ (by show (if y ∈ fs then none else some (V.str y)) = _; rw [if_neg hm]) (Same.refl _)⟩
          · have e10 : H10 D3 = some (.lst (((z :: (tl abc).map (longer z)).filter (fun y => !decide (y ∈ fs))).map V.str)) := by
              rw [hD10]; congr 2
              generalize (z :: (tl abc).map (longer z)) = ws
              induction ws with
              | nil => rfl
              | cons y r ih =>
                rw [List.map_cons, List.filterMap_cons, List.filter_cons, ih]
                by_cases hm : y ∈ fs
                · simp [hm]
                · simp [hm]
            obtain ⟨x, r', ex, nx⟩ := some_new (z := z) (fs := fs) (by omega)
            rw [ex] at e10
            have nmx := new_name hz ex
            have hf10 := s10 _ _ hf9
            refine ⟨D3, _, 0, .str x, rfl, rfl, lof e10, atI_lt (by decide) (by rw [List.length_map, List.length_cons]; omega) rfl, f, _, .str x, rfl, rfl, hf10, ?_, ?_⟩
            · rw [List.length_map]; exact Nat.lt_of_le_of_lt (show fs.length ≤ 8 by omega) (by decide)
            have g10 := g8.same s10
            refine ⟨rem B4 f, fs ++ [x], _, _, _, _, _, rfl, same_into_rem (sk.trans s4) fB, (g10.less same_rem).chg rem_self fa fc, rem_self, ?_, ?_, ?_⟩
            · rw [upd_same, List.map_append]; rfl
            · rw [List.length_append, len]; rfl
            · refine ⟨?_, fun y hy => ?_⟩
              · rw [List.nodup_append]
                refine ⟨nms.nd, by simp, fun u hu v hv e => ?_⟩
                rw [List.mem_singleton] at hv
                exact nx (by rw [← hv, ← e]; exact hu)
              · rcases List.mem_append.mp hy with hy | hy
                · exact nms.nm y hy
                · rw [List.mem_singleton] at hy; rw [hy]; exact nmx
    · rintro σ H' ⟨B', fs, x4, x5, x6, x7, x8, rfl, s', g', f', hf', len, nms⟩
      exact ⟨_, rfl, q f fs (upd B' f (.lst (fs.map V.str))) H' (same_new' s' f') (g'.know hf' fa fc) nf upd_same len nms⟩
end
end As

/-! ## B11 -/
namespace As
open PySem PySem.Spec PyProof.Rows L2 TL
theorem ne_lst {B : Hp} {D b : Addr} {acc : List V} {o : HO} (hD : B D = some (.lst acc)) (h : B b = some o) (n : ∀ xs, o ≠ .lst xs) : b ≠ D := fun e => by
  subst e; rw [hD] at h; injection h with h; exact n _ h.symm
theorem rem_tup {B : Hp} {D b : Addr} {acc xs : List V} (hD : B D = some (.lst acc)) (h : B b = some (.tup xs)) : rem B D b = some (.tup xs) := by
  rw [rem_ne (ne_lst hD h (fun _ z => nomatch z))]; exact h
theorem getD_str {ws : List Str} {i : Nat} (h : i < ws.length) : (ws.map V.str).getD i .non = .str ws[i] := by
  rw [List.getD_eq_getElem?_getD, List.getElem?_map, List.getElem?_eq_getElem h]; rfl
section
variable {P : Program} {w : World} {K : PySem.W.Frag} {mg : Str → Option Value} {base : Heap}
def spLCols : Sp := fun vs H Q _ => ∃ (a c : Addr) (m sm : Int) (B : Hp), vs = [.ref a, .int m, .int sm] ∧ Gd a c B H ∧ (1 ≤ m ∧ m ≤ 6) ∧ (1 ≤ sm ∧ sm ≤ 6) ∧
  ∀ p rs B' H', Same B B' → Gd a c B' H' → B p = none → B' p = some (.lst (rs.map cv)) → ColsOk B' rs → Q (.ref p) H'
abbrev nLCols : List Str := ["state", "most", "size_most", "names", "name"]
theorem sc_lcols : FnScope nLCols ["state", "most", "size_most"] (defScope s_lcolumns) := ⟨rfl, rfl, rfl, by decide +kernel, rfl, by decide +kernel, by decide +kernel⟩
theorem ok_lcols {f fn fd' : Addr} {fd dn dd : FuncData} (D : Df K mg "_law_columns" s_lcolumns ["state", "most", "size_most"] f fd) (T : Bi mg) (Dd : Df K mg "_law_draw" s_draw ["state", "size_most"] fd' dd) (Gd' : FnOk P w K mg base CX0 1 fd' dd ["state", "size_most"] spDraw)
    (Dn : Df K mg "_law_names" s_names ["state", "size"] fn dn) (Gn : FnOk P w K mg base CX0 3 fn dn ["state", "size"] spNames) : FnOk P w K mg base CX0 4 f fd ["state", "most", "size_most"] spLCols := by
  refine D.F.ok sc_lcols (fun vs H Q E h => ?_) (fun cdv A outer s H vs Q E hr h => ?_)
  · obtain ⟨a, c, m, sm, B, rfl, _⟩ := h; rfl
  · obtain ⟨a, c, m, sm, B, rfl, g, hm, hsm, q⟩ := h
    have hr1 : Room 1 _ := hr.mono (by decide)
    refine ⟨_, pss_cons (ps_set (i := 3) sc_lcols.nd rfl (Or.inl rfl) (pcall Dn Gn hr (pa_cons (pv 0) (pa_cons (pe_op op_add pe_int (pcall Dd Gd' hr1 (pa_cons (pv 0) (pa_cons (pv 1) pa_nil)))) pa_nil))))
      (pss_one (ps_ret (pe_lc (own := [("name", 4)]) (g := gName 4) (tt := tYes) rfl sc_lcols.nd (pi_list (pv 3)) (blkOk_by (N := nLCols) (sc := defScope s_lcolumns) (by decide +kernel)) (fun _ _ _ _ _ => pg_name (i := 4) sc_lcols.nd rfl (Or.inl rfl)) (fun _ _ _ _ _ => pts_nil)
        (fun _ _ _ _ _ => pe_tup (pa_cons (pv 4) (pa_cons (pe_op op_add pe_int (pcall Dd Gd' hr1 (pa_cons (pv 0) (pa_cons (pv 2) pa_nil)))) pa_nil)))))), ?_⟩
    refine ⟨_, rfl, _, rfl, _, rfl, a, c, m, rfl, g.st, by omega, by omega, fun r H1 r0 r1 st1 fr1 => ⟨1, r, rfl, rfl, ?_⟩⟩
    have g1 := g.fr fr1 st1
    refine ⟨a, c, 1 + r, B, rfl, g1, by omega, by omega, fun N ws B2 H2 s2 g2 nN hN lw nw => ?_⟩
    refine ⟨_, rfl, N, rfl, ⟨_, lof (g2.ex _ _ hN)⟩, fun D hD => ?_⟩
    have lwm : (ws.map V.str).length = ws.length := List.length_map _
    refine lc_draw (B := B2) (H1 := H2) (a := a) (c := c) (n := (ws.map V.str).length) (walk_at (K := K) (a := N) (xs := ws.map V.str) .non) g2 hD (fun B' H s gd => lof (gd.ex _ _ (s _ _ hN))) (Nat.lt_of_le_of_lt (show (ws.map V.str).length ≤ 8 by omega) (by decide))
      (fun i acc B => ∃ rs : List CRow, acc = rs.map cv ∧ rs.length = i ∧ (∀ r ∈ rs, B r.1 = some (.tup [.str r.2.1, .int r.2.2])) ∧ rs.map (·.2.1) = ws.take i ∧ ∀ r ∈ rs, 1 ≤ r.2.2 ∧ r.2.2 ≤ 6)
      ⟨[], rfl, rfl, (fun _ z => nomatch z), rfl, fun _ z => nomatch z⟩ (fun i acc acc0 B' ⟨rs, e, l, h, t, z⟩ hd => ⟨rs, e, l, fun r hr => rem_tup hd (h r hr), t, z⟩) (fun i acc _ ⟨rs, e, l, _⟩ => by rw [e, List.length_map, l]; exact Nat.le_refl _)
      (fun j H4 B4 acc Q1 Q2 hj s4 g4 p4 d4 k1 k2 => ?_) (fun H4 B4 acc s4 g4 d4 p4 => ?_)
    · obtain ⟨rs, rfl, lr, ht, tk, sz⟩ := p4
      have hj' : j < ws.length := by omega
      refine ⟨rfl, ?_⟩
      refine iteT (B := Q2 H4) ?_
      rw [getD_str hj']
      refine ⟨_, rfl, _, rfl, _, rfl, a, c, sm, rfl, g4.st, by omega, by omega, fun r H5 r0 r1 st5 fr5 => ⟨1, r, rfl, rfl, by show 2 ≤ sizeLine; decide, fun t nt => ?_⟩⟩
      have g5 := g4.fr fr5 st5
      have ht' : ∀ r ∈ rs, B4 r.1 = some (.tup [.str r.2.1, .int r.2.2]) := fun r hr => same_rem _ _ (ht r hr)
      refine k1 _ _ (upd B4 t (.tup [.str ws[j], .int (1 + r)])) (same_new (g5.free nt)) (g5.add nt) ⟨rs ++ [(t, ws[j], 1 + r)], ?_, ?_, fun x hx => ?_, ?_, fun x hx => ?_⟩
      · rw [List.map_append]; rfl
      · rw [List.length_append, lr]; rfl
      · rcases List.mem_append.mp hx with hx | hx
        · exact same_new (g5.free nt) _ _ (ht' x hx)
        · rw [List.mem_singleton] at hx; subst hx; exact upd_same
      · rw [List.map_append, tk, List.take_succ, List.getElem?_eq_getElem hj']; rfl
      · rcases List.mem_append.mp hx with hx | hx
        · exact sz x hx
        · rw [List.mem_singleton] at hx; subst hx; exact ⟨show 1 ≤ 1 + r by omega, show 1 + r ≤ 6 by omega⟩
    · obtain ⟨rs, rfl, lr, ht, tk, sz⟩ := p4
      have tk' : rs.map (·.2.1) = ws := by rw [tk, lwm, List.take_length]
      refine q D rs B4 H4 (s2.trans s4) g4 (Same.free s2 (g2.free hD)) d4 ⟨fun r hr => same_rem _ _ (ht r hr), ⟨by omega, by omega⟩, fun r hr => nw.nm _ (by rw [← tk']; exact List.mem_map.mpr ⟨r, hr, rfl⟩), sz, by rw [tk']; exact nw.nd⟩

theorem cut2 {n1 n2 : Str} {r : Int} (h0 : 0 ≤ r) (h1 : r < 2) : cutV [V.str n1, V.str n2] none (some (1 + r)) = ([n1, n2].take (1 + r).toNat).map V.str := by
  rcases (show r = 0 ∨ r = 1 by omega) with rfl | rfl <;> rfl
def spLTabs : Sp := fun vs H Q _ => ∃ (a c cl : Addr) (m : Int) (cs : List CRow) (B : Hp), vs = [.ref a, .ref cl, .int m] ∧ Gd a c B H ∧ B cl = some (.lst (cs.map cv)) ∧ ColsOk B cs ∧ (1 ≤ m ∧ m ≤ 8) ∧
  ∀ p ts B' H', Same B B' → Gd a c B' H' → B p = none → B' p = some (.lst (ts.map tv)) → TabsOk B' (cs.map (·.2.1)) ts → Q (.ref p) H'
abbrev nLTabs : List Str := ["state", "columns", "most", "found", "name", "parts"]
theorem sc_ltabs : FnScope nLTabs ["state", "columns", "most"] (defScope s_ltables) := ⟨rfl, rfl, rfl, by decide +kernel, rfl, by decide +kernel, by decide +kernel⟩
theorem ok_ltabs {f fn fp fd' : Addr} {fd dn dp dd : FuncData} (D : Df K mg "_law_tables" s_ltables ["state", "columns", "most"] f fd) (T : Bi mg) (Dd : Df K mg "_law_draw" s_draw ["state", "size_most"] fd' dd) (Gd' : FnOk P w K mg base CX0 1 fd' dd ["state", "size_most"] spDraw)
    (Dp : Df K mg "_law_pick" s_pick ["state", "some"] fp dp) (Gp : FnOk P w K mg base CX0 2 fp dp ["state", "some"] spPick)
    (Dn : Df K mg "_law_names" s_names ["state", "size"] fn dn) (Gn : FnOk P w K mg base CX0 3 fn dn ["state", "size"] spNames) : FnOk P w K mg base CX0 4 f fd ["state", "columns", "most"] spLTabs := by
  refine D.F.ok sc_ltabs (fun vs H Q E h => ?_) (fun cdv A outer s H vs Q E hr h => ?_)
  · obtain ⟨a, c, cl, m, cs, B, rfl, _⟩ := h; rfl
  · obtain ⟨a, c, cl, m, cs, B, rfl, g, hcl, okc, hm, q⟩ := h
    have hr1 : Room 1 _ := hr.mono (by decide)
    have hr2 : Room 2 _ := hr.mono (by decide)
    refine ⟨_, pss_cons (ps_set (i := 3) sc_ltabs.nd rfl (Or.inl rfl) (pe_lst pa_nil))
      (pss_cons (ps_for PassesOwn.never rfl (pi_list (pcall Dn Gn hr (pa_cons (pv 0) (pa_cons (pe_op op_add pe_int (pcall Dd Gd' hr1 (pa_cons (pv 0) (pa_cons (pv 2) pa_nil)))) pa_nil)))) (pg_name (i := 4) sc_ltabs.nd rfl (Or.inl rfl))
        (pss_cons (ps_set (i := 5) sc_ltabs.nd rfl (Or.inl rfl) (pe_lst (pa_cons (pe_ix ix_tup (pcall Dp Gp hr2 (pa_cons (pv 0) (pa_cons (pv 1) pa_nil))) pe_int (fun _ _ => rfl)) (pa_cons (pe_ix ix_tup (pcall Dp Gp hr2 (pa_cons (pv 0) (pa_cons (pv 1) pa_nil))) pe_int (fun _ _ => rfl)) pa_nil))))
        (pss_one (ps_expr (pe_bm PySem.F.plainAttrs_list PySem.F.slot_list_append PySem.F.type_list_append mt_append (pv 3) (pa_cons (pe_tup (pa_cons (pv 4) (pa_cons (tupK K (hm := T.tuple) (pe_slice sl_list (pv 5) po_none (po_some (pe_op op_add pe_int (pcall Dd Gd' hr1 (pa_cons (pv 0) (pa_cons pe_int pa_nil))))))) pa_nil))) pa_nil))))))
      (pss_one (ps_ret (pv 3)))), ?_⟩
    refine ⟨Nat.zero_le _, fun f nf => ?_⟩
    have fa := g.ne_a nf
    have fc := g.ne_c nf
    have fB := g.free nf
    have gf := g.add (o := .lst []) nf
    have hff : (upd B f (.lst [])) f = some (.lst []) := upd_same
    have sB : Same B (upd B f (.lst [])) := same_new fB
    have hHf : (upd H f (.lst [])) f = some (.lst []) := upd_same
    generalize upd B f (.lst []) = B1 at gf hff sB
    generalize upd H f (.lst []) = H0 at gf hHf ⊢
    refine ⟨_, rfl, _, rfl, _, rfl, a, c, m, rfl, gf.st, by omega, by omega, fun r H1 r0 r1 st1 fr1 => ⟨1, r, rfl, rfl, a, c, 1 + r, B1, rfl, gf.fr fr1 st1, by omega, by omega, fun N ws B2 H2 s2 g2 nN hN lw nw => ?_⟩⟩
    have nNf : N ≠ f := fun e => by
      subst e; rw [fr1 _ _ fa fc hHf] at nN; cases nN
    have f2 : B2 f = some (.lst []) := s2 _ _ hff
    have sk : Same B (rem B2 f) := same_into_rem (sB.trans s2) fB
    have gk : Gd a c (rem B2 f) H2 := g2.less same_rem
    have kN : (rem B2 f) N = some (.lst (ws.map V.str)) := by rw [rem_ne nNf]; exact hN
    have kf : (rem B2 f) f = none := rem_self
    have hf2 : H2 f = some (.lst []) := g2.ex _ _ f2
    generalize rem B2 f = Bk at sk gk kN kf
    have cla : cl ≠ a := ne_of_none hcl g.na
    have clc : cl ≠ c := ne_of_none hcl g.nc
    refine ⟨N, rfl, ⟨_, lof (gk.ex _ _ kN)⟩, for_list (K := K) (a := N) (xs := ws.map V.str) (fun i σ H' => ∃ (B' : Hp) (ts : List TRow) (x4 x5 : Option V), σ = [some (.ref a), some (.ref cl), some (.int m), some (.ref f), x4, x5] ∧ Same Bk B' ∧ Gd a c B' H' ∧ B' f = none ∧ H' f = some (.lst (ts.map tv)) ∧
        ts.length = i ∧ (∀ r ∈ ts, B' r.1 = some (.tup [.str r.2.1, .ref r.2.2.1])) ∧ (∀ r ∈ ts, B' r.2.2.1 = some (.tup (r.2.2.2.map V.str))) ∧ ts.map (·.2.1) = ws.take i ∧ ∀ r ∈ ts, (1 ≤ r.2.2.2.length ∧ r.2.2.2.length ≤ 2) ∧ ∀ x ∈ r.2.2.2, x ∈ cs.map (·.2.1))
      ⟨Bk, [], none, none, rfl, Same.refl Bk, gk, kf, hf2, rfl, (fun _ z => nomatch z), (fun _ z => nomatch z), rfl, fun _ z => nomatch z⟩ (fun i σ H' _ ⟨B', ts, _, _, _, s', g', _⟩ => lof (g'.ex _ _ (s' _ _ kN))) ?_ ?_⟩
    · rintro i x σ H3 hx ⟨B3, ts, x4, x5, rfl, s3, g3, f3, hf3, lt, h1, h2, tk, h4⟩
      have hi : i < ws.length := by have := (List.getElem?_eq_some_iff.mp hx).1; rw [List.length_map] at this; exact this
      have ex : x = .str ws[i] := by
        rw [List.getElem?_map, List.getElem?_eq_getElem hi] at hx; exact (Option.some.inj hx).symm
      subst ex
      have g4 := g3.know hf3 fa fc
      have s4 : Same B3 (upd B3 f (.lst (ts.map tv))) := same_new f3
      have k4 : (upd B3 f (.lst (ts.map tv))) f = some (.lst (ts.map tv)) := upd_same
      generalize upd B3 f (.lst (ts.map tv)) = B4 at g4 s4 k4
      have okc4 := okc.same (sk.trans (s3.trans s4))
      have hcl4 := s4 _ _ (s3 _ _ (sk _ _ hcl))
      have pos : 0 < (cs.map cv).length ∧ (cs.map cv).length < 1000000 := by rw [List.length_map]; have := okc.len; omega
      refine ⟨_, rfl, _, rfl, a, c, .ref cl, rfl, g4.st, .inl ⟨cl, _, rfl, cla, clc, g4.ex _ _ hcl4, pos.1, pos.2, fun v H5 hv st5 fr5 => ?_⟩⟩
      obtain ⟨r1, hr1', rfl⟩ := List.mem_map.mp hv
      have g5 := g4.fr fr5 st5
      refine ⟨r1.1, _, 0, .str r1.2.1, rfl, rfl, tof (g5.ex _ _ (okc4.row r1 hr1')), rfl, ?_⟩
      refine ⟨_, rfl, _, rfl, a, c, .ref cl, rfl, g5.st, .inl ⟨cl, _, rfl, cla, clc, g5.ex _ _ hcl4, pos.1, pos.2, fun v H6 hv st6 fr6 => ?_⟩⟩
      obtain ⟨r2, hr2', rfl⟩ := List.mem_map.mp hv
      have g6 := g5.fr fr6 st6
      refine ⟨r2.1, _, 0, .str r2.2.1, rfl, rfl, tof (g6.ex _ _ (okc4.row r2 hr2')), rfl, by show 2 ≤ sizeLine; decide, fun L nL => ?_⟩
      have g7 := g6.add (o := .lst [.str r1.2.1, .str r2.2.1]) nL
      have kL : (upd B4 L (.lst [.str r1.2.1, .str r2.2.1])) L = some (.lst [.str r1.2.1, .str r2.2.1]) := upd_same
      have s7 : Same B4 (upd B4 L (.lst [.str r1.2.1, .str r2.2.1])) := same_new (g6.free nL)
      generalize upd B4 L (.lst [.str r1.2.1, .str r2.2.1]) = B7 at g7 kL s7
      generalize upd H6 L (.lst [.str r1.2.1, .str r2.2.1]) = H7 at g7 ⊢
      refine ⟨_, rfl, .inl ⟨rfl, _, lof (g7.ex _ _ (s7 _ _ k4))⟩, _, rfl, _, rfl, _, rfl, a, c, 2, rfl, g7.st, by decide, by decide, fun r H8 r0 r1' st8 fr8 => ⟨1, r, rfl, rfl, 1 + r, rfl, L, _, rfl, lof ((g7.fr fr8 st8).ex _ _ kL), fun S nS => ?_⟩⟩
      have g8 := (g7.fr fr8 st8).new (o := .lst (cutV [.str r1.2.1, .str r2.2.1] none (some (1 + r)))) nS
      rw [cut2 r0 r1'] at g8 ⊢
      have kS : (upd H8 S (.lst (([r1.2.1, r2.2.1].take (1 + r).toNat).map V.str))) S = some (.lst (([r1.2.1, r2.2.1].take (1 + r).toNat).map V.str)) := upd_same
      generalize upd H8 S (.lst (([r1.2.1, r2.2.1].take (1 + r).toNat).map V.str)) = H9 at g8 kS ⊢
      refine .inl ⟨S, _, rfl, lof kS, fun q1 nq => ⟨by show 2 ≤ sizeLine; decide, fun t nt => ?_⟩⟩
      have g9 := g8.add (o := .tup (([r1.2.1, r2.2.1].take (1 + r).toNat).map V.str)) nq
      have s9 : Same B7 (upd B7 q1 (.tup (([r1.2.1, r2.2.1].take (1 + r).toNat).map V.str))) := same_new (g8.free nq)
      have kq : (upd B7 q1 (.tup (([r1.2.1, r2.2.1].take (1 + r).toNat).map V.str))) q1 = some (.tup (([r1.2.1, r2.2.1].take (1 + r).toNat).map V.str)) := upd_same
      generalize upd B7 q1 (.tup (([r1.2.1, r2.2.1].take (1 + r).toNat).map V.str)) = B9 at g9 s9 kq
      generalize upd H9 q1 (.tup (([r1.2.1, r2.2.1].take (1 + r).toNat).map V.str)) = H10 at g9 nt ⊢
      have g10 := g9.add (o := .tup [.str ws[i], .ref q1]) nt
      have s10 : Same B9 (upd B9 t (.tup [.str ws[i], .ref q1])) := same_new (g9.free nt)
      have kt : (upd B9 t (.tup [.str ws[i], .ref q1])) t = some (.tup [.str ws[i], .ref q1]) := upd_same
      generalize upd B9 t (.tup [.str ws[i], .ref q1]) = B10 at g10 s10 kt
      generalize upd H10 t (.tup [.str ws[i], .ref q1]) = H11 at g10 ⊢
      have kf10 := s10 _ _ (s9 _ _ (s7 _ _ k4))
      have s310 : Same B3 B10 := s4.trans (s7.trans (s9.trans s10))
      refine ⟨f, _, .ref t, rfl, rfl, g10.ex _ _ kf10, ?_, rem B10 f, ts ++ [(t, ws[i], q1, [r1.2.1, r2.2.1].take (1 + r).toNat)], _, _, rfl, same_into_rem (s3.trans s310) kf, (g10.less same_rem).chg rem_self fa fc, rem_self, ?_, ?_, fun x hx => ?_, fun x hx => ?_, ?_, fun x hx => ?_⟩
      · rw [List.length_map]; exact Nat.lt_of_le_of_lt (show ts.length ≤ 8 by omega) (by decide)
      · rw [upd_same, List.map_append]; rfl
      · rw [List.length_append, lt]; rfl
      · rcases List.mem_append.mp hx with hx | hx
        · exact rem_tup kf10 (s310 _ _ (h1 x hx))
        · rw [List.mem_singleton] at hx; subst hx; exact rem_tup kf10 kt
      · rcases List.mem_append.mp hx with hx | hx
        · exact rem_tup kf10 (s310 _ _ (h2 x hx))
        · rw [List.mem_singleton] at hx; subst hx; exact rem_tup kf10 (s10 _ _ kq)
      · rw [List.map_append, tk, List.take_succ, List.getElem?_eq_getElem hi]; rfl
      · rcases List.mem_append.mp hx with hx | hx
        · exact h4 x hx
        · rw [List.mem_singleton] at hx; subst hx
          refine ⟨?_, fun y hy => ?_⟩
          · show 1 ≤ ([r1.2.1, r2.2.1].take (1 + r).toNat).length ∧ ([r1.2.1, r2.2.1].take (1 + r).toNat).length ≤ 2
            rw [List.length_take]
            show 1 ≤ min (1 + r).toNat 2 ∧ min (1 + r).toNat 2 ≤ 2
            omega
          · have hy' := List.mem_of_mem_take (show y ∈ [r1.2.1, r2.2.1].take (1 + r).toNat from hy)
            simp only [List.mem_cons, List.not_mem_nil, or_false] at hy'
            rcases hy' with rfl | rfl
            · exact List.mem_map.mpr ⟨r1, hr1', rfl⟩
            · exact List.mem_map.mpr ⟨r2, hr2', rfl⟩
    · rintro σ H' ⟨B', ts, x4, x5, rfl, s', g', f', hf', lt, h1, h2, tk, h4⟩
      rw [List.length_map] at lt tk
      rw [List.take_length] at tk
      have sf : Same B' (upd B' f (.lst (ts.map tv))) := same_new f'
      exact ⟨_, rfl, q f ts (upd B' f (.lst (ts.map tv))) H' (sk.trans (s'.trans sf)) (g'.know hf' fa fc) fB upd_same ⟨fun r hr => sf _ _ (h1 r hr), fun r hr => sf _ _ (h2 r hr), by omega, fun r hr => nw.nm _ (by rw [← tk]; exact List.mem_map.mpr ⟨r, hr, rfl⟩), fun r hr => (h4 r hr).1, fun r hr => (h4 r hr).2, by rw [tk]; exact nw.nd⟩⟩
end
end As

/-! ## C0 -/
namespace As
open PySem PySem.Spec PyProof.Rows L2 TL
open PySem.W (dataLe AllAlike Sortable dataLt alike alikeAll)
/-! facts and looks as keys -/
abbrev FK := Str × List Int
abbrev LK := Str × Int × Int
def fkD (k : FK) : PyData := .tuple [.str k.1, .tuple (k.2.map .int)]
def lkD (k : LK) : PyData := .tuple [.str k.1, .int k.2.1, .int k.2.2]
abbrev FRow := Addr × Addr × FK
def fv (r : FRow) : V := .ref r.1
abbrev LRow := Addr × LK
def lv (r : LRow) : V := .ref r.1
def FAt (H : Hp) (r : FRow) : Prop := H r.1 = some (.tup [.str r.2.2.1, .ref r.2.1]) ∧ H r.2.1 = some (.tup (r.2.2.2.map V.int))
def LAt (H : Hp) (r : LRow) : Prop := H r.1 = some (.tup [.str r.2.1, .int r.2.2.1, .int r.2.2.2])
theorem FAt.imm {H H' : Hp} {r : FRow} (h : FAt H r) (e : Imm H H') : FAt H' r := ⟨e _ _ h.1, e _ _ h.2⟩
theorem LAt.imm {H H' : Hp} {r : LRow} (h : LAt H r) (e : Imm H H') : LAt H' r := e _ _ h
theorem imm_lst {H : Hp} {D : Addr} {xs : List V} {o : HO} (h : H D = some (.lst xs)) : Imm H (upd H D o) := fun b ys e => by
  rw [upd_ne (fun z => by subst z; rw [h] at e; cases e)]; exact e
theorem imm_new {H : Hp} {D : Addr} {o : HO} (h : H D = none) : Imm H (upd H D o) := same_imm (same_new h)
theorem Imm.trans {A B C : Hp} (h : Imm A B) (k : Imm B C) : Imm A C := fun _ _ e => k _ _ (h _ _ e)
theorem alike_ints : ∀ xs ys : List Int, alikeAll (xs.map .int) (ys.map .int) = true
  | [], ys => by simp [alikeAll]
  | x :: xs, [] => by simp [alikeAll]
  | x :: xs, y :: ys => by
    rw [List.map_cons, List.map_cons, alikeAll, alike_ints xs ys]; simp [alike]
theorem alike_fk (a b : FK) : alike (fkD a) (fkD b) = true := by
  simp [fkD, alike, alikeAll, alike_ints]
theorem alike_lk (a b : LK) : alike (lkD a) (lkD b) = true := by
  simp [lkD, alike, alikeAll]
theorem fk_all {β : Type} (k : β → FK) (bs : List β) : AllAlike (bs.map fun b => fkD (k b)) := fun d hd e he => by
  obtain ⟨a, _, rfl⟩ := List.mem_map.mp hd
  obtain ⟨b, _, rfl⟩ := List.mem_map.mp he
  exact alike_fk _ _
theorem lk_all {β : Type} (k : β → LK) (bs : List β) : AllAlike (bs.map fun b => lkD (k b)) := fun d hd e he => by
  obtain ⟨a, _, rfl⟩ := List.mem_map.mp hd
  obtain ⟨b, _, rfl⟩ := List.mem_map.mp he
  exact alike_lk _ _
theorem fk_sortable {β : Type} (k : β → FK) (bs : List β) : Sortable (bs.map fun b => fkD (k b)) := .inl fun d hd => by
  obtain ⟨a, _, rfl⟩ := List.mem_map.mp hd
  exact ⟨_, _, rfl⟩
theorem lk_sortable {β : Type} (k : β → LK) (bs : List β) : Sortable (bs.map fun b => lkD (k b)) := .inl fun d hd => by
  obtain ⟨a, _, rfl⟩ := List.mem_map.mp hd
  exact ⟨_, _, rfl⟩
theorem fk_depth (k : FK) : (fkD k).depth = 1 + 0 ∨ (fkD k).depth ≤ 2 := .inr (by simp [fkD, PyData.depth, PyData.depthAll, ints_lay.2])
theorem lk_depth (k : LK) : (lkD k).depth ≤ 2 := by simp [lkD, PyData.depth, PyData.depthAll]
theorem dp_fk {K : PySem.W.Frag} {H : Hp} {r : FRow} (h : FAt H r) : Dp K H (fv r) (fkD r.2.2) := .tup (tof h.1) (.cons (.str _) (.cons (.tup (tof h.2) dp_ints) .nil))
theorem dp_lk {K : PySem.W.Frag} {H : Hp} {r : LRow} (h : LAt H r) : Dp K H (lv r) (lkD r.2) := .tup (tof h) (.cons (.str _) (.cons (.int _) (.cons (.int _) .nil)))
theorem lay_fk (k : FK) (h : PyData.strOk k.1 = true) : (fkD k).canLay0 = true := by simp [fkD, PyData.canLay0, PyData.canLayAll0, ints_lay.1, h]
theorem lay_lk (k : LK) (h : PyData.strOk k.1 = true) : (lkD k).canLay0 = true := by simp [lkD, PyData.canLay0, PyData.canLayAll0, h]
/-! all facts, all looks of tables -/
def sizeI (cs : List CRow) (c : Str) : Int := match sizeV cs c with | .int i => i | _ => 0
def ir (n : Nat) : List Int := (List.range n).map fun (k : Nat) => (k : Int)
def factsUp (cs : List CRow) (n : Str) (ps : List Str) (j : Nat) : List FK := match ps with
  | [_] => (ir j).map fun v => (n, [v])
  | [_, d] => (ir j).flatMap fun v => (ir (sizeI cs d).toNat).map fun o => (n, [v, o])
  | _ => []
def firstN (cs : List CRow) (ps : List Str) : Nat := (sizeI cs (ps.headD ⟨#[]⟩)).toNat
def factsT (cs : List CRow) (r : TRow) : List FK := factsUp cs r.2.1 r.2.2.2 (firstN cs r.2.2.2)
def looksUp (cs : List CRow) (n : Str) (ps : List Str) (i : Nat) : List LK := (List.range i).flatMap fun s => (ir (sizeI cs (ps.getD s ⟨#[]⟩)).toNat).map fun v => (n, (s : Int), v)
def looksT (cs : List CRow) (r : TRow) : List LK := looksUp cs r.2.1 r.2.2.2 r.2.2.2.length
theorem ir_succ (n : Nat) : ir (n + 1) = ir n ++ [(n : Int)] := by unfold ir; rw [List.range_succ, List.map_append]; rfl
theorem ir_len (n : Nat) : (ir n).length = n := by unfold ir; rw [List.length_map, List.length_range]
theorem valV_sz {H : Hp} {cs : List CRow} (ok : ColsOk H cs) {c : Str} (h : c ∈ cs.map (·.2.1)) : valV (colsD cs) (.inr c) = some (.int (sizeI cs c)) ∧ 1 ≤ sizeI cs c ∧ sizeI cs c ≤ 6 := by
  obtain ⟨v, hv⟩ := valV_cols h
  have h1 : v ∈ (colsD cs).map Prod.snd := by
    unfold valV at hv
    cases hf : (colsD cs).find? (fun kv => decide (kv.1 = .inr c)) with
    | none => rw [hf] at hv; cases hv
    | some kv =>
      rw [hf] at hv
      cases hv
      exact List.mem_map.mpr ⟨kv, List.mem_of_find?_eq_some hf, rfl⟩
  obtain ⟨kv, hk, e⟩ := List.mem_map.mp h1
  obtain ⟨r, hr, rfl⟩ := List.mem_map.mp hk
  have e' : v = .int r.2.2 := e.symm
  subst e'
  have es : sizeI cs c = r.2.2 := by unfold sizeI sizeV; rw [hv]; rfl
  rw [es]
  exact ⟨hv, ok.sz r hr⟩
theorem factsUp_one {cs : List CRow} {n c : Str} {j : Nat} : factsUp cs n [c] (j + 1) = factsUp cs n [c] j ++ [(n, [(j : Int)])] := by
  show (ir (j + 1)).map _ = (ir j).map _ ++ _
  rw [ir_succ, List.map_append]; rfl
theorem factsUp_two {cs : List CRow} {n c d : Str} {j : Nat} : factsUp cs n [c, d] (j + 1) = factsUp cs n [c, d] j ++ (ir (sizeI cs d).toNat).map fun o => ((n, [(j : Int), o]) : FK) := by
  show (ir (j + 1)).flatMap _ = (ir j).flatMap _ ++ _
  rw [ir_succ, List.flatMap_append, List.flatMap_cons, List.flatMap_nil, List.append_nil]
theorem factsUp_len {cs : List CRow} (hs : ∀ d, sizeI cs d ≤ 6) {n : Str} {ps : List Str} {j : Nat} : (factsUp cs n ps j).length ≤ 6 * j := by
  unfold factsUp
  split
  · rw [List.length_map, ir_len]; omega
  · rename_i d
    rw [List.length_flatMap]
    have h1 : (ir j).map (fun v => ((ir (sizeI cs d).toNat).map fun o => ((n, [v, o]) : FK)).length) = (ir j).map fun _ => (sizeI cs d).toNat := by
      apply List.map_congr_left; intro v _; rw [List.length_map, ir_len]
    rw [h1, List.map_const', List.sum_replicate_nat, ir_len]
    have := hs d
    have h2 : (sizeI cs d).toNat ≤ 6 := by omega
    calc j * (sizeI cs d).toNat ≤ j * 6 := Nat.mul_le_mul_left _ h2
      _ = 6 * j := Nat.mul_comm _ _
  · simp
theorem looksUp_succ {cs : List CRow} {n : Str} {ps : List Str} {i : Nat} : looksUp cs n ps (i + 1) = looksUp cs n ps i ++ (ir (sizeI cs (ps.getD i ⟨#[]⟩)).toNat).map fun v => ((n, (i : Int), v) : LK) := by
  unfold looksUp
  rw [List.range_succ, List.flatMap_append, List.flatMap_cons, List.flatMap_nil, List.append_nil]
theorem sizeI_le {H : Hp} {cs : List CRow} (ok : ColsOk H cs) (d : Str) : sizeI cs d ≤ 6 := by
  by_cases h : d ∈ cs.map (·.2.1)
  · exact (valV_sz ok h).2.2
  · have e : sizeV cs d = .non := by
      unfold sizeV valV
      rw [List.find?_eq_none.mpr]
      · rfl
      · intro kv hk
        obtain ⟨r, hr, rfl⟩ := List.mem_map.mp hk
        have : ¬ r.2.1 = d := fun z => h (List.mem_map.mpr ⟨r, hr, z⟩)
        simp [this]
    unfold sizeI; rw [e]; decide
theorem flat_len {α β : Type} {f : α → List β} {m : Nat} : ∀ {l : List α}, (∀ x ∈ l, (f x).length ≤ m) → (l.flatMap f).length ≤ m * l.length
  | [], _ => by simp
  | x :: l, h => by
    rw [List.flatMap_cons, List.length_append, List.length_cons, Nat.mul_add, Nat.mul_one]
    have h1 := h x List.mem_cons_self
    have h2 := flat_len (l := l) fun y hy => h y (List.mem_cons_of_mem _ hy)
    omega
theorem looksUp_len {cs : List CRow} (hs : ∀ d, sizeI cs d ≤ 6) {n : Str} {ps : List Str} {i : Nat} : (looksUp cs n ps i).length ≤ 6 * i := by
  unfold looksUp
  have h := flat_len (m := 6) (l := List.range i) (f := fun s => (ir (sizeI cs (ps.getD s ⟨#[]⟩)).toNat).map fun v => ((n, (s : Int), v) : LK)) fun x _ => by
    rw [List.length_map, ir_len]; have := hs (ps.getD x ⟨#[]⟩); omega
  rw [List.length_range] at h
  exact h
end As

/-! ## C1p -/
namespace As
open PySem PySem.Spec PyProof.Rows L2 TL
open PySem.W (dataLe AllAlike Sortable dataLt alike)
section
variable {P : Program} {w : World} {K : PySem.W.Frag} {mg : Str → Option Value} {base : Heap}
def sortF (l : List FK) : List FK := l.mergeSort (dataLe false fkD)
def sortL (l : List LK) : List LK := l.mergeSort (dataLe false lkD)
theorem mergeK_nd : ∀ {more acc : List (Key × V)}, ((acc ++ more).map (·.1)).Nodup → mergeK acc more = acc ++ more
  | [], acc, _ => by rw [List.append_nil]; rfl
  | (k, v) :: r, acc, h => by
    have h1 : k ∉ acc.map (·.1) := by
      rw [List.map_append, List.nodup_append] at h
      exact fun z => h.2.2 _ z k (by simp) rfl
    have e : mergeK acc ((k, v) :: r) = mergeK (putK acc k v) r := rfl
    rw [e, putK_new h1, mergeK_nd (by rw [List.append_assoc]; exact h), List.append_assoc]; rfl
theorem colsD_nd {cs : List CRow} (h : (cs.map (·.2.1)).Nodup) : ((colsD cs).map (·.1)).Nodup := by
  unfold colsD
  rw [List.map_map]
  have e : ((fun kv : Key × V => kv.1) ∘ fun r : CRow => ((.inr r.2.1 : Key), V.int r.2.2)) = (fun z : Str => (.inr z : Key)) ∘ fun r : CRow => r.2.1 := rfl
  rw [e, ← List.map_map]
  exact List.Pairwise.map _ (fun a b (q : a ≠ b) z => q (by injection z)) h
theorem mergeK_cols {H : Hp} {cs : List CRow} (ok : ColsOk H cs) : mergeK [] (colsD cs) = colsD cs := by
  rw [mergeK_nd (by rw [List.nil_append]; exact colsD_nd ok.nd), List.nil_append]
theorem cols_refs {cs : List CRow} : (cs.map (·.1)).map V.ref = cs.map cv := by rw [List.map_map]; rfl
theorem cols_pairs {K : PySem.W.Frag} {H : Hp} {cs : List CRow} (ok : ColsOk H cs) : Paired (fun p kv => SqT K H p [kV kv.1, kv.2]) (cs.map (·.1)) (colsD cs) := by
  have h1 := ok.row
  clear ok
  unfold colsD
  induction cs with
  | nil => exact .nil
  | cons r t ih => exact .cons (tof (h1 r List.mem_cons_self)) (ih fun r hr => h1 r (List.mem_cons_of_mem _ hr))
def spLFacts : Sp := fun vs H Q _ => ∃ (cl tl : Addr) (cs : List CRow) (ts : List TRow), vs = [.ref cl, .ref tl] ∧ H cl = some (.lst (cs.map cv)) ∧ H tl = some (.lst (ts.map tv)) ∧ ColsOk H cs ∧ TabsOk H (cs.map (·.2.1)) ts ∧
  ∀ p (fs : List FRow) H', Same H H' → H p = none → H' p = some (.lst (fs.map fv)) → (∀ r ∈ fs, FAt H' r) → fs.map (·.2.2) = sortF (ts.flatMap (factsT cs)) → Q (.ref p) H'
end
end As

/-! ## C1 -/
namespace As
open PySem PySem.Spec PyProof.Rows L2 TL
open PySem.W (dataLe AllAlike Sortable dataLt alike)
section
variable {P : Program} {w : World} {K : PySem.W.Frag} {mg : Str → Option Value} {base : Heap}
abbrev nLFacts : List Str := ["columns", "tables", "sizes", "found", "name", "parts", "value", "other"]
theorem sc_lfacts : FnScope nLFacts ["columns", "tables"] (defScope s_lfacts) := ⟨rfl, rfl, rfl, by decide +kernel, rfl, by decide +kernel, by decide +kernel⟩
theorem ok_lfacts {f : Addr} {fd : FuncData} (D : Df K mg "_law_facts" s_lfacts ["columns", "tables"] f fd) (T : Bi mg) : FnOk P w K mg base CX0 1 f fd ["columns", "tables"] spLFacts := by
  refine D.F.ok sc_lfacts (fun vs H Q E h => ?_) (fun cdv A outer s H vs Q E hr h => ?_)
  · obtain ⟨cl, tl, cs, ts, rfl, _⟩ := h; rfl
  · obtain ⟨cl, tl, cs, ts, rfl, hcl, htl, okc, okt, q⟩ := h
    refine ⟨_, pss_cons (ps_par (i := 2) (j := 3) rfl sc_lfacts.nd rfl rfl (by decide) rfl rfl (pa_cons (pe_callTy (call_dictP rfl) (by rfl) T.dict (by decide +kernel) (pa_cons (pv 0) pa_nil)) (pa_cons (pe_lst pa_nil) pa_nil)) (by rfl))
      (pss_cons (ps_for PassesOwn.never rfl (pi_list (pv 1)) (pg_tup rfl (pgs_cons (pg_name (i := 4) sc_lfacts.nd rfl (Or.inr rfl)) (pgs_cons (pg_name (i := 5) sc_lfacts.nd rfl (Or.inl rfl)) pgs_nil)))
        (pss_one (ps_for PassesOwn.never rfl (pi_range1 rfl T.range (pa_cons (pe_dget (hu_of hr) (pv 2) (pe_ix ix_tup (pv 5) pe_int (fun _ _ => rfl)) (fun _ _ => rfl)) pa_nil)) (pg_name (i := 6) sc_lfacts.nd rfl (Or.inr rfl))
          (pss_one (ps_if (pt_cmpR op_eq (pe_callB call_len_seq (by rfl) T.len PySem.boot_len (pa_cons (pv 5) pa_nil)) pe_int (nomark _))
            (pss_one (ps_expr (pe_bm PySem.F.plainAttrs_list PySem.F.slot_list_append PySem.F.type_list_append mt_append (pv 3) (pa_cons (pe_tup (pa_cons (pv 4) (pa_cons (pe_tup (pa_cons (pv 6) pa_nil)) pa_nil))) pa_nil))))
            (pss_one (ps_set (i := 3) sc_lfacts.nd rfl (Or.inl rfl) (pe_op op_cat (pv 3) (pe_lc (own := [("other", 7)]) (g := gName 7) (tt := tYes) rfl sc_lfacts.nd (pi_range1 rfl T.range (pa_cons (pe_dget (hu_of hr) (pv 2) (pe_ix ix_tup (pv 5) pe_int (fun _ _ => rfl)) (fun _ _ => rfl)) pa_nil))
              (blkOk_by (N := nLFacts) (sc := defScope s_lfacts) (by decide +kernel)) (fun _ _ _ _ _ => pg_name (i := 7) sc_lfacts.nd rfl (Or.inl rfl)) (fun _ _ _ _ _ => pts_nil)
              (fun _ _ _ _ _ => pe_tup (pa_cons (pv 4) (pa_cons (pe_tup (pa_cons (pv 6) (pa_cons (pv 7) pa_nil))) pa_nil))))))))))))
      (pss_one (ps_ret (pe_callB (cr_sortedD (hu64 hr)) (by rfl) T.sorted (by decide +kernel) (pa_cons (pv 3) pa_nil))))), ?_⟩
    refine ⟨_, rfl, cl, cs.map (·.1), colsD cs, rfl, lof (by rw [cols_refs]; exact hcl), cols_pairs okc, fun sz nsz => ?_⟩
    rw [mergeK_cols okc]
    refine ⟨Nat.zero_le _, fun f nf => ⟨_, _, rfl, ?_⟩⟩
    have s0 : Same H (upd (upd H sz (.dK (colsD cs))) f (.lst [])) := (same_new nsz).trans (same_new nf)
    have hz0 : (upd (upd H sz (.dK (colsD cs))) f (.lst [])) sz = some (.dK (colsD cs)) := same_new nf _ _ upd_same
    have hf0 : (upd (upd H sz (.dK (colsD cs))) f (.lst [])) f = some (.lst []) := upd_same
    have Hf : H f = none := (same_new nsz).free nf
    generalize upd (upd H sz (.dK (colsD cs))) f (.lst []) = H0 at s0 hz0 hf0
    refine ⟨_, rfl, tl, rfl, ⟨_, lof (s0 _ _ htl)⟩, for_list (K := K) (a := tl) (xs := ts.map tv) (fun i σ H' => ∃ (f : Addr) (fs : List FRow) (x4 x5 x6 x7 : Option V), σ = [some (.ref cl), some (.ref tl), some (.ref sz), some (.ref f), x4, x5, x6, x7] ∧ Same H H' ∧ H f = none ∧ H' sz = some (.dK (colsD cs)) ∧
        H' f = some (.lst (fs.map fv)) ∧ (∀ r ∈ fs, FAt H' r) ∧ fs.map (·.2.2) = (ts.take i).flatMap (factsT cs))
      ⟨f, [], none, none, none, none, rfl, s0, Hf, hz0, hf0, (fun _ z => nomatch z), rfl⟩ (fun i σ H' _ ⟨_, _, _, _, _, _, _, s', _⟩ => lof (s' _ _ htl)) ?_ ?_⟩
    · rintro i x σ H1 hx ⟨f, fs, x4, x5, x6, x7, rfl, s1, nf, hz1, hf1, fat, key⟩
      have hi : i < ts.length := by have := (List.getElem?_eq_some_iff.mp hx).1; rw [List.length_map] at this; exact this
      obtain ⟨r, hr⟩ : ∃ r, ts[i] = r := ⟨_, rfl⟩
      have ex : x = tv r := by
        rw [List.getElem?_map, List.getElem?_eq_getElem hi, hr] at hx; exact (Option.some.inj hx).symm
      subst ex
      have hm : r ∈ ts := hr ▸ List.getElem_mem hi
      obtain ⟨ra, n, qa, ps⟩ := r
      have hrow := okt.row _ hm
      have hprt := okt.prt _ hm
      have htwo := okt.two _ hm
      have hown := okt.own _ hm
      have le6 := sizeI_le okc
      dsimp only at hrow hprt htwo hown
      obtain ⟨c, pr, rfl⟩ : ∃ c pr, ps = c :: pr := by
        match ps, htwo with
        | c :: pr, _ => exact ⟨c, pr, rfl⟩
      obtain ⟨vc, c1, c6⟩ := valV_sz okc (hown c List.mem_cons_self)
      have fT : factsT cs (ra, n, qa, c :: pr) = factsUp cs n (c :: pr) (sizeI cs c).toNat := rfl
      have tk : ts.take (i + 1) = ts.take i ++ [(ra, n, qa, c :: pr)] := by rw [List.take_succ, List.getElem?_eq_getElem hi, hr]; rfl
      have Llen : ((ts.take i).flatMap (factsT cs)).length ≤ 36 * 8 := by
        have h1 := flat_len (f := factsT cs) (m := 36) (l := ts.take i) fun x hx => by
          have h2 : (factsT cs x).length ≤ 6 * firstN cs x.2.2.2 := factsUp_len le6
          have h3 : firstN cs x.2.2.2 ≤ 6 := by unfold firstN; have := le6 (x.2.2.2.headD ⟨#[]⟩); omega
          omega
        have h4 := List.length_take_le i ts
        have h5 := okt.len.2
        have h6 : 36 * (ts.take i).length ≤ 36 * 8 := Nat.mul_le_mul_left _ (by omega)
        omega
      refine ⟨ra, _, rfl, tof (s1 _ _ hrow), rfl, _, _, rfl, _, _, rfl, rfl, ?_⟩
      have gz := fun (H2 : Hp) (h : H2 sz = some (.dK (colsD cs))) (c : Str) => DGet.k (k := Sum.inr c) h
      have g1 := gz H1 hz1 c
      rw [vc] at g1
      refine ⟨_, rfl, _, rfl, qa, _, 0, .str c, rfl, rfl, tof (s1 _ _ hprt), atI_lt (i := 0) (by decide) (by simp) rfl, sz, .int (sizeI cs c), rfl, g1, sizeI cs c, rfl, by omega, by omega, for_range (lo := 0) (fun j σ H2 => ∃ (f : Addr) (fs : List FRow) (x6 x7 : Option V), σ = [some (.ref cl), some (.ref tl), some (.ref sz), some (.ref f), some (.str n), some (.ref qa), x6, x7] ∧ Same H H2 ∧ H f = none ∧ H2 sz = some (.dK (colsD cs)) ∧
        H2 f = some (.lst (fs.map fv)) ∧ (∀ r ∈ fs, FAt H2 r) ∧ fs.map (·.2.2) = (ts.take i).flatMap (factsT cs) ++ factsUp cs n (c :: pr) j) ⟨f, fs, x6, x7, rfl, s1, nf, hz1, hf1, fat, ?_⟩ ?_ ?_⟩
      · rw [key]
        have e : factsUp cs n (c :: pr) 0 = [] := by
          unfold factsUp
          split <;> rfl
        rw [e, List.append_nil]
      · rintro j σ H2 hj ⟨f, fs, x6, x7, rfl, s2, nf, hz2, hf2, fat, key⟩
        have hj6 : j ≤ 6 := by omega
        have flen : fs.length ≤ 36 * 8 + 6 * j := by
          have h1 : (fs.map (·.2.2)).length = fs.length := List.length_map _
          have h2 := factsUp_len (n := n) (ps := c :: pr) (j := j) le6
          rw [key, List.length_append] at h1
          omega
        rw [show (0 : Int) + (j : Nat) = (j : Nat) from Int.zero_add _]
        refine ⟨_, rfl, qa, _, rfl, .inr (tof (s2 _ _ hprt)), ⟨rfl, _, rfl, ?_⟩⟩
        rcases pr with _ | ⟨d, _ | ⟨e, pr⟩⟩
        · refine iteT ?_
          refine ⟨_, rfl, .inl ⟨rfl, _, lof hf2⟩, _, rfl, _, rfl, by show 1 ≤ sizeLine; decide, fun qq nq => ⟨by show 2 ≤ sizeLine; decide, fun t nt => ?_⟩⟩
          have s3 : Same H2 (upd (upd H2 qq (.tup [.int (j : Nat)])) t (.tup [.str n, .ref qq])) := (same_new nq).trans (same_new nt)
          have k1 : (upd (upd H2 qq (.tup [.int (j : Nat)])) t (.tup [.str n, .ref qq])) qq = some (.tup [.int (j : Nat)]) := same_new nt _ _ upd_same
          have k2 : (upd (upd H2 qq (.tup [.int (j : Nat)])) t (.tup [.str n, .ref qq])) t = some (.tup [.str n, .ref qq]) := upd_same
          generalize upd (upd H2 qq (.tup [.int (j : Nat)])) t (.tup [.str n, .ref qq]) = H3 at s3 k1 k2 ⊢
          have hf3 := s3 _ _ hf2
          have im := imm_lst (o := .lst (fs.map fv ++ [.ref t])) hf3
          refine ⟨f, _, .ref t, rfl, rfl, hf3, ?_, f, fs ++ [(t, qq, n, [(j : Int)])], _, _, rfl, same_mut (s2.trans s3) nf, nf, ?_, ?_, fun x hx => ?_, ?_⟩
          · rw [List.length_map]; exact Nat.lt_of_le_of_lt (show fs.length ≤ 1000 by omega) (by decide)
          · rw [upd_ne (fun z => by subst z; rw [s3 _ _ hz2] at hf3; cases hf3)]; exact s3 _ _ hz2
          · rw [upd_same, List.map_append]; rfl
          · rcases List.mem_append.mp hx with hx | hx
            · exact ((fat x hx).imm (same_imm s3)).imm im
            · rw [List.mem_singleton] at hx; subst hx; exact ⟨im _ _ k2, im _ _ k1⟩
          · rw [List.map_append, key, List.append_assoc]
            rw [factsUp_one]; rfl
        · refine iteF ?_
          obtain ⟨vd, d1, d6⟩ := valV_sz okc (hown d (by simp))
          have g2 := gz H2 hz2 d
          rw [vd] at g2
          refine ⟨_, rfl, _, rfl, _, rfl, qa, _, 1, .str d, rfl, rfl, tof (s2 _ _ hprt), atI_lt (i := 1) (by decide) (by simp) rfl, sz, .int (sizeI cs d), rfl, g2, sizeI cs d, rfl, by omega, by omega, fun D nD => ?_⟩
          refine lc_new (H1 := H2) walk_range nD (fun _ _ => trivial) (Nat.lt_of_le_of_lt (show (sizeI cs d).toNat ≤ 6 by omega) (by decide)) (fun i acc H' => ∃ gs : List FRow, acc = gs.map fv ∧ (∀ r ∈ gs, FAt H' r) ∧ gs.map (·.2.2) = (ir i).map fun o => ((n, [(j : Int), o]) : FK))
            ⟨[], rfl, (fun _ z => nomatch z), rfl⟩ (fun i acc H H' im ⟨gs, e, fa, k⟩ => ⟨gs, e, fun r hr => (fa r hr).imm im, k⟩) (fun o H3 acc Q1 Q2 ho s3 ⟨gs, e, fa, k⟩ k1 k2 => ?_) (fun H3 acc s3 hD3 ⟨gs, e, fa, k⟩ => ?_)
          · rw [show (0 : Int) + (o : Nat) = (o : Nat) from Int.zero_add _]
            subst e
            refine ⟨rfl, ?_⟩
            refine iteT (B := Q2 H3) ?_
            refine ⟨_, rfl, _, rfl, _, rfl, by show 2 ≤ sizeLine; decide, fun qq nq => ⟨by show 2 ≤ sizeLine; decide, fun t nt => ?_⟩⟩
            have s4 : Same H3 (upd (upd H3 qq (.tup [.int (j : Nat), .int (o : Nat)])) t (.tup [.str n, .ref qq])) := (same_new nq).trans (same_new nt)
            have k3 : (upd (upd H3 qq (.tup [.int (j : Nat), .int (o : Nat)])) t (.tup [.str n, .ref qq])) qq = some (.tup [.int (j : Nat), .int (o : Nat)]) := same_new nt _ _ upd_same
            refine k1 _ _ s4 ⟨gs ++ [(t, qq, n, [(j : Int), (o : Int)])], ?_, fun x hx => ?_, ?_⟩
            · rw [List.map_append]; rfl
            · rcases List.mem_append.mp hx with hx | hx
              · exact (fa x hx).imm (same_imm s4)
              · rw [List.mem_singleton] at hx; subst hx; exact ⟨upd_same, k3⟩
            · rw [List.map_append, k, ir_succ, List.map_append]; rfl
          · subst e
            have hf3 := s3 _ _ hf2
            have glen : gs.length ≤ 6 := by
              have h1 : (gs.map (·.2.2)).length = gs.length := List.length_map _
              rw [k, List.length_map, ir_len] at h1
              omega
            refine ⟨f, D, _, _, rfl, rfl, hf3, hD3, ?_, fun S nS => ⟨S, fs ++ gs, _, _, rfl, same_new' (s2.trans s3) nS, (s2.trans s3).free nS, same_new nS _ _ (s3 _ _ hz2), ?_, fun x hx => ?_, ?_⟩⟩
            · rw [List.length_map, List.length_map]; exact Nat.le_trans (show fs.length + gs.length ≤ 1000 by omega) (by decide)
            · rw [upd_same, List.map_append]
            · rcases List.mem_append.mp hx with hx | hx
              · exact ((fat x hx).imm (same_imm s3)).imm (imm_new nS)
              · exact (fa x hx).imm (imm_new nS)
            · rw [List.map_append, key, k, List.append_assoc]
              rw [factsUp_two]
        · exfalso; simp at htwo
      · rintro σ H2 ⟨f, fs, x6, x7, rfl, s2, nf, hz2, hf2, fat, key⟩
        refine ⟨f, fs, _, _, _, _, rfl, s2, nf, hz2, hf2, fat, ?_⟩
        rw [key, tk, List.flatMap_append, List.flatMap_cons, List.flatMap_nil, List.append_nil, fT]
    · rintro σ H1 ⟨f, fs, x4, x5, x6, x7, rfl, s1, nf, hz1, hf1, fat, key⟩
      rw [List.length_map, List.take_length] at key
      refine ⟨_, rfl, FRow, f, fs, fv, (fun r => fkD r.2.2), rfl, lof hf1, (fun r hr => ⟨dp_fk (fat r hr), ?_⟩), fk_all _ _, fk_sortable _ _, fun p np => ?_⟩
      · have := fk_depth r.2.2; show (fkD r.2.2).depth ≤ 60; omega
      · refine q p (fs.mergeSort (dataLe false fun r => fkD r.2.2)) _ (same_new' s1 np) (s1.free np) upd_same (fun r hr => (fat r ((List.mergeSort_perm _ _).mem_iff.mp hr)).imm (imm_new np)) ?_
        rw [← key]
        exact PySem.W.sort_maps (r := dataLe false fun r : FRow => fkD r.2.2) (s := dataLe false fkD) (fun r : FRow => r.2.2) fun _ _ _ _ => rfl
end
end As

/-! ## C2p -/
namespace As
open PySem PySem.Spec PyProof.Rows L2 TL
open PySem.W (dataLe AllAlike Sortable dataLt alike)
section
variable {P : Program} {w : World} {K : PySem.W.Frag} {mg : Str → Option Value} {base : Heap}
def spLLooks : Sp := fun vs H Q _ => ∃ (cl tl : Addr) (cs : List CRow) (ts : List TRow), vs = [.ref cl, .ref tl] ∧ H cl = some (.lst (cs.map cv)) ∧ H tl = some (.lst (ts.map tv)) ∧ ColsOk H cs ∧ TabsOk H (cs.map (·.2.1)) ts ∧
  ∀ p (fs : List LRow) H', Same H H' → H p = none → H' p = some (.lst (fs.map lv)) → (∀ r ∈ fs, LAt H' r) → fs.map (·.2) = sortL (ts.flatMap (looksT cs)) → Q (.ref p) H'
end
end As

/-! ## C2 -/
namespace As
open PySem PySem.Spec PyProof.Rows L2 TL
open PySem.W (dataLe AllAlike Sortable dataLt alike)
section
variable {P : Program} {w : World} {K : PySem.W.Frag} {mg : Str → Option Value} {base : Heap}
abbrev nLLooks : List Str := ["columns", "tables", "sizes", "found", "name", "parts", "side", "part", "value"]
theorem sc_llooks : FnScope nLLooks ["columns", "tables"] (defScope s_llooks) := ⟨rfl, rfl, rfl, by decide +kernel, rfl, by decide +kernel, by decide +kernel⟩
theorem ok_llooks {f : Addr} {fd : FuncData} (D : Df K mg "_law_looks" s_llooks ["columns", "tables"] f fd) (T : Bi mg) (en : mg "enumerate" = none) : FnOk P w K mg base CX0 1 f fd ["columns", "tables"] spLLooks := by
  refine D.F.ok sc_llooks (fun vs H Q E h => ?_) (fun cdv A outer s H vs Q E hr h => ?_)
  · obtain ⟨cl, tl, cs, ts, rfl, _⟩ := h; rfl
  · obtain ⟨cl, tl, cs, ts, rfl, hcl, htl, okc, okt, q⟩ := h
    refine ⟨_, pss_cons (ps_par (i := 2) (j := 3) rfl sc_llooks.nd rfl rfl (by decide) rfl rfl (pa_cons (pe_callTy (call_dictP rfl) (by rfl) T.dict (by decide +kernel) (pa_cons (pv 0) pa_nil)) (pa_cons (pe_lst pa_nil) pa_nil)) (by rfl))
      (pss_cons (ps_for PassesOwn.never rfl (pi_list (pv 1)) (pg_tup rfl (pgs_cons (pg_name (i := 4) sc_llooks.nd rfl (Or.inr rfl)) (pgs_cons (pg_name (i := 5) sc_llooks.nd rfl (Or.inl rfl)) pgs_nil)))
        (pss_one (ps_for PassesOwn.never rfl (pi_enumT (by rfl) en (pa_cons (pv 5) pa_nil)) (pg_tup rfl (pgs_cons (pg_name (i := 6) sc_llooks.nd rfl (Or.inr rfl)) (pgs_cons (pg_name (i := 7) sc_llooks.nd rfl (Or.inl rfl)) pgs_nil)))
          (pss_one (ps_set (i := 3) sc_llooks.nd rfl (Or.inl rfl) (pe_op op_cat (pv 3) (pe_lc (own := [("value", 8)]) (g := gName 8) (tt := tYes) rfl sc_llooks.nd (pi_range1 rfl T.range (pa_cons (pe_dget (hu_of hr) (pv 2) (pv 7) (fun _ _ => rfl)) pa_nil))
              (blkOk_by (N := nLLooks) (sc := defScope s_llooks) (by decide +kernel)) (fun _ _ _ _ _ => pg_name (i := 8) sc_llooks.nd rfl (Or.inl rfl)) (fun _ _ _ _ _ => pts_nil)
              (fun _ _ _ _ _ => pe_tup (pa_cons (pv 4) (pa_cons (pv 6) (pa_cons (pv 8) pa_nil)))))))))))
      (pss_one (ps_ret (pe_callB (cr_sortedD (hu64 hr)) (by rfl) T.sorted (by decide +kernel) (pa_cons (pv 3) pa_nil))))), ?_⟩
    refine ⟨_, rfl, cl, cs.map (·.1), colsD cs, rfl, lof (by rw [cols_refs]; exact hcl), cols_pairs okc, fun sz nsz => ?_⟩
    rw [mergeK_cols okc]
    refine ⟨Nat.zero_le _, fun f nf => ⟨_, _, rfl, ?_⟩⟩
    have s0 : Same H (upd (upd H sz (.dK (colsD cs))) f (.lst [])) := (same_new nsz).trans (same_new nf)
    have hz0 : (upd (upd H sz (.dK (colsD cs))) f (.lst [])) sz = some (.dK (colsD cs)) := same_new nf _ _ upd_same
    have hf0 : (upd (upd H sz (.dK (colsD cs))) f (.lst [])) f = some (.lst []) := upd_same
    have Hf : H f = none := (same_new nsz).free nf
    generalize upd (upd H sz (.dK (colsD cs))) f (.lst []) = H0 at s0 hz0 hf0
    refine ⟨_, rfl, tl, rfl, ⟨_, lof (s0 _ _ htl)⟩, for_list (K := K) (a := tl) (xs := ts.map tv) (fun i σ H' => ∃ (f : Addr) (fs : List LRow) (x4 x5 x6 x7 x8 : Option V), σ = [some (.ref cl), some (.ref tl), some (.ref sz), some (.ref f), x4, x5, x6, x7, x8] ∧ Same H H' ∧ H f = none ∧ H' sz = some (.dK (colsD cs)) ∧
        H' f = some (.lst (fs.map lv)) ∧ (∀ r ∈ fs, LAt H' r) ∧ fs.map (·.2) = (ts.take i).flatMap (looksT cs))
      ⟨f, [], none, none, none, none, none, rfl, s0, Hf, hz0, hf0, (fun _ z => nomatch z), rfl⟩ (fun i σ H' _ ⟨_, _, _, _, _, _, _, _, s', _⟩ => lof (s' _ _ htl)) ?_ ?_⟩
    · rintro i x σ H1 hx ⟨f, fs, x4, x5, x6, x7, x8, rfl, s1, nf, hz1, hf1, fat, key⟩
      have hi : i < ts.length := by have := (List.getElem?_eq_some_iff.mp hx).1; rw [List.length_map] at this; exact this
      obtain ⟨r, hr⟩ : ∃ r, ts[i] = r := ⟨_, rfl⟩
      have ex : x = tv r := by
        rw [List.getElem?_map, List.getElem?_eq_getElem hi, hr] at hx; exact (Option.some.inj hx).symm
      subst ex
      have hm : r ∈ ts := hr ▸ List.getElem_mem hi
      obtain ⟨ra, n, qa, ps⟩ := r
      have hrow := okt.row _ hm
      have hprt := okt.prt _ hm
      have htwo := okt.two _ hm
      have hown := okt.own _ hm
      have le6 := sizeI_le okc
      dsimp only at hrow hprt htwo hown
      have fT : looksT cs (ra, n, qa, ps) = looksUp cs n ps ps.length := rfl
      have tk : ts.take (i + 1) = ts.take i ++ [(ra, n, qa, ps)] := by rw [List.take_succ, List.getElem?_eq_getElem hi, hr]; rfl
      have Llen : ((ts.take i).flatMap (looksT cs)).length ≤ 12 * 8 := by
        have h1 := flat_len (f := looksT cs) (m := 12) (l := ts.take i) fun x hx => by
          have h2 : (looksT cs x).length ≤ 6 * x.2.2.2.length := looksUp_len le6
          have h3 := (okt.two x (List.mem_of_mem_take hx)).2
          omega
        have h4 := List.length_take_le i ts
        have h5 := okt.len.2
        have h6 : 12 * (ts.take i).length ≤ 12 * 8 := Nat.mul_le_mul_left _ (by omega)
        omega
      refine ⟨ra, _, rfl, tof (s1 _ _ hrow), rfl, _, _, rfl, _, _, rfl, rfl, ?_⟩
      have gz := fun (H2 : Hp) (h : H2 sz = some (.dK (colsD cs))) (c : Str) => DGet.k (k := Sum.inr c) h
      have psl : (ps.map V.str).length = ps.length := List.length_map _
      refine ⟨_, rfl, qa, _, rfl, tof (s1 _ _ hprt), for_it walk_enumT (fun j σ H2 => ∃ (f : Addr) (fs : List LRow) (x6 x7 x8 : Option V), σ = [some (.ref cl), some (.ref tl), some (.ref sz), some (.ref f), some (.str n), some (.ref qa), x6, x7, x8] ∧ Same H H2 ∧ H f = none ∧ H2 sz = some (.dK (colsD cs)) ∧
        H2 f = some (.lst (fs.map lv)) ∧ (∀ r ∈ fs, LAt H2 r) ∧ fs.map (·.2) = (ts.take i).flatMap (looksT cs) ++ looksUp cs n ps j) ⟨f, fs, x6, x7, x8, rfl, s1, nf, hz1, hf1, fat, ?_⟩ (fun j σ H2 _ ⟨_, _, _, _, _, _, s', _⟩ => tof (s' _ _ hprt)) ?_ ?_⟩
      · rw [key]; exact (List.append_nil _).symm
      · rintro j x σ H2 H3 hj ⟨f, fs, x6, x7, x8, rfl, s2, nf, hz2, hf2, fat, key⟩ ⟨T1, ya, yb, rfl, nT, rfl, ha, hb⟩
        rw [psl] at hj
        obtain ⟨d, hd⟩ : ∃ d, ps[j] = d := ⟨_, rfl⟩
        have ea : ya = .int (j : Nat) := (Option.some.inj ha).symm
        have eb : yb = .str d := by
          have hb' : (ps.map V.str)[j]? = some yb := hb
          rw [List.getElem?_map, List.getElem?_eq_getElem hj, hd] at hb'; exact (Option.some.inj hb').symm
        subst ea eb
        have dm : d ∈ ps := hd ▸ List.getElem_mem hj
        obtain ⟨vd, d1, d6⟩ := valV_sz okc (hown d dm)
        have s3 : Same H2 (upd H2 T1 (.tup [.int (j : Nat), .str d])) := same_new nT
        have kT : (upd H2 T1 (.tup [.int (j : Nat), .str d])) T1 = some (.tup [.int (j : Nat), .str d]) := upd_same
        generalize upd H2 T1 (.tup [.int (j : Nat), .str d]) = H3 at s3 kT ⊢
        have flen : fs.length ≤ 12 * 8 + 6 * j := by
          have h1 : (fs.map (·.2)).length = fs.length := List.length_map _
          have h2 := looksUp_len (n := n) (ps := ps) (i := j) le6
          rw [key, List.length_append] at h1
          omega
        refine ⟨T1, _, rfl, tof kT, rfl, _, _, rfl, _, _, rfl, rfl, ?_⟩
        have g2 := gz H3 (s3 _ _ hz2) d
        rw [vd] at g2
        refine ⟨_, rfl, _, rfl, _, rfl, sz, .int (sizeI cs d), rfl, g2, sizeI cs d, rfl, by omega, by omega, fun D nD => ?_⟩
        refine lc_new (H1 := H3) walk_range nD (fun _ _ => trivial) (Nat.lt_of_le_of_lt (show (sizeI cs d).toNat ≤ 6 by omega) (by decide)) (fun i acc H' => ∃ gs : List LRow, acc = gs.map lv ∧ (∀ r ∈ gs, LAt H' r) ∧ gs.map (·.2) = (ir i).map fun v => ((n, (j : Int), v) : LK))
          ⟨[], rfl, (fun _ z => nomatch z), rfl⟩ (fun i acc H H' im ⟨gs, e, fa, k⟩ => ⟨gs, e, fun r hr => (fa r hr).imm im, k⟩) (fun o H4 acc Q1 Q2 ho s4 ⟨gs, e, fa, k⟩ k1 k2 => ?_) (fun H4 acc s4 hD4 ⟨gs, e, fa, k⟩ => ?_)
        · rw [show (0 : Int) + (o : Nat) = (o : Nat) from Int.zero_add _]
          subst e
          refine ⟨rfl, ?_⟩
          refine iteT (B := Q2 H4) ?_
          refine ⟨_, rfl, _, rfl, _, rfl, by show 3 ≤ sizeLine; decide, fun t nt => ?_⟩
          refine k1 _ _ (same_new nt) ⟨gs ++ [(t, n, (j : Int), (o : Int))], ?_, fun x hx => ?_, ?_⟩
          · rw [List.map_append]; rfl
          · rcases List.mem_append.mp hx with hx | hx
            · exact (fa x hx).imm (imm_new nt)
            · rw [List.mem_singleton] at hx; subst hx; exact upd_same
          · rw [List.map_append, k, ir_succ, List.map_append]; rfl
        · subst e
          have s24 := s3.trans s4
          have hf4 := s24 _ _ hf2
          have glen : gs.length ≤ 6 := by
            have h1 : (gs.map (·.2)).length = gs.length := List.length_map _
            rw [k, List.length_map, ir_len] at h1
            omega
          refine ⟨f, D, _, _, rfl, rfl, hf4, hD4, ?_, fun S nS => ⟨S, fs ++ gs, _, _, _, rfl, same_new' (s2.trans s24) nS, (s2.trans s24).free nS, same_new nS _ _ (s24 _ _ hz2), ?_, fun x hx => ?_, ?_⟩⟩
          · rw [List.length_map, List.length_map]; exact Nat.le_trans (show fs.length + gs.length ≤ 1000 by omega) (by decide)
          · rw [upd_same, List.map_append]
          · rcases List.mem_append.mp hx with hx | hx
            · exact ((fat x hx).imm (same_imm s24)).imm (imm_new nS)
            · exact (fa x hx).imm (imm_new nS)
          · rw [List.map_append, key, k, List.append_assoc, looksUp_succ, List.getD_eq_getElem?_getD, List.getElem?_eq_getElem hj, hd]; rfl
      · rintro σ H2 ⟨f, fs, x6, x7, x8, rfl, s2, nf, hz2, hf2, fat, key⟩
        refine ⟨f, fs, _, _, _, _, _, rfl, s2, nf, hz2, hf2, fat, ?_⟩
        rw [key, tk, List.flatMap_append, List.flatMap_cons, List.flatMap_nil, List.append_nil, fT, psl]
    · rintro σ H1 ⟨f, fs, x4, x5, x6, x7, x8, rfl, s1, nf, hz1, hf1, fat, key⟩
      rw [List.length_map, List.take_length] at key
      refine ⟨_, rfl, LRow, f, fs, lv, (fun r => lkD r.2), rfl, lof hf1, (fun r hr => ⟨dp_lk (fat r hr), ?_⟩), lk_all _ _, lk_sortable _ _, fun p np => ?_⟩
      · have := lk_depth r.2; show (lkD r.2).depth ≤ 60; omega
      · refine q p (fs.mergeSort (dataLe false fun r => lkD r.2)) _ (same_new' s1 np) (s1.free np) upd_same (fun r hr => (fat r ((List.mergeSort_perm _ _).mem_iff.mp hr)).imm (imm_new np)) ?_
        rw [← key]
        exact PySem.W.sort_maps (r := dataLe false fun r : LRow => lkD r.2) (s := dataLe false lkD) (fun r : LRow => r.2) fun _ _ _ _ => rfl
end
end As

/-! ## A13 -/
set_option maxHeartbeats 2000000
namespace As
open PySem PySem.Spec PyProof.Rows L2
/-- an error of the class cls, with d as its own dict -/
def ExcO (a : Addr) (cls : Value) (d : Option Addr) : HO := .ext fun h => ∃ oe vs, h.get? a = some oe ∧ Zc cls d oe ∧ oe.data = .fields vs
section
variable {X : Cx} {pins : List (Addr × Obj)} {σ : List (Option V)} {H : Hp} {s : Shared}
theorem inv_tell {a : Addr} {oe : Obj} {cls : Value} {d : Option Addr} (I : Inv X ((a, oe) :: pins) σ H s) (hs0 : X.s_0.heap.get? a = none) (np : ∀ p ∈ X.pn ++ pins, p.1 ≠ a) (hz : Zc cls d oe) (hd : ∃ vs, oe.data = .fields vs) : Inv X pins σ (upd H a (ExcO a cls d)) s := by
  obtain ⟨g1, g2, g3, g4, g5⟩ := I.pin (a, oe) (List.mem_append_right _ List.mem_cons_self)
  dsimp only at g1 g2 g3 g4 g5
  refine ⟨I.ok, I.os, I.bare, ⟨I.base.keep, I.base.slot, fun b o e n hx => ?_, I.base.there, fun b xs e => ?_, fun b o u e => ?_, fun b ps e => ?_⟩, I.loc, I.cell, ?_, fun x c e => ?_, fun p hp => ?_, fun b o e => ?_, I.len⟩
  · rw [upd_ne (fun z => by subst z; rw [hs0] at e; cases e)]; exact I.base.free b o e n hx
  · have q := I.base.tups b xs e
    rw [upd_ne (ne_of_none q g2)]; exact q
  · have q := I.base.frzs b o u e
    rw [upd_ne (ne_of_none q g2)]; exact q
  · obtain ⟨more, q⟩ := I.base.tbls b ps e
    exact ⟨more, by rw [upd_ne (ne_of_none q g2)]; exact q⟩
  · rw [upd_ne (Ne.symm g3)]; exact I.free
  · have hne : c ≠ a := fun z => by
      subst z
      obtain ⟨v, o, ho, hv⟩ := I.cell x c e
      rw [g1] at ho; cases ho
      exact g5 _ hv
    rw [upd_ne hne]; exact I.freeC x c e
  · have q := I.pin p (by
      rcases List.mem_append.mp hp with z | z
      · exact List.mem_append_left _ z
      · exact List.mem_append_right _ (List.mem_cons_of_mem _ z))
    exact ⟨q.1, by rw [upd_ne (np p hp)]; exact q.2.1, q.2.2⟩
  · by_cases hb : b = a
    · subst hb
      rw [upd_same] at e; cases e
      obtain ⟨vs, hv⟩ := hd
      exact ⟨⟨oe, vs, g1, hz, hv⟩, ⟨_, g1⟩, fun h1 h2 ⟨oe', vs', e', r⟩ k => ⟨oe', vs', k _ e', r⟩⟩
    · rw [upd_ne hb] at e
      exact (I.hok b o e).stay (fun c v _ q => q) (fun c q => by rw [upd_ne (ne_of_none q g2)]; exact q) fun c xs q => by rw [upd_ne (ne_of_none q g2)]; exact q
end
/-- what an except clause with a name does; behind it the error is known -/
def wHold (K : PySem.W.Frag) (c : Value) (i : Nat) (ts : Addr → Value → Option Addr → TS) (Wout : WX) (D : Ends) : WX := fun cls d σ H =>
  ∃ b, PySem.W.exmOne K cls c = some b ∧ (b = true → ∀ a, H a = none → ts a cls d { nx := fun σ' H' => H' a = none → D.nx (σ'.set i none) (upd H' a (ExcO a cls d)), rt := D.rt, bk := fun σ' H' => D.bk (σ'.set i none) H', ct := fun σ' H' => D.ct (σ'.set i none) H' } (σ.set i (some (.ref a))) H) ∧
    (b = false → Wout cls d σ H)
section
variable {X : Cx} {pins : List (Addr × Obj)} {σ : List (Option V)} {H : Hp} {sI : Shared} {B : Heap} {a : Addr}
/-- the error at a came after the def began: nothing that the def knew of -/
structure Came (X : Cx) (pins : List (Addr × Obj)) (a : Addr) : Prop where
  start : X.s_0.heap.get? a = none
  pin : ∀ p ∈ X.pn ++ pins, p.1 ≠ a
  loc : a ≠ X.env.locals
  fs : a ∉ X.fs
theorem came (I : Inv X pins σ H sI) (hs : X.stack = X.env :: X.outer) (hf : X.env.frame = some X.env.locals) (hex : X.ex = []) (nb : ∀ b o, sI.heap.get? b = some o → b ∉ frs X.stack → B.get? b = some o) (nB : B.get? a = none) (nfr : a ∉ frs X.stack) : Came X pins a := by
  have never : ∀ o, sI.heap.get? a ≠ some o := fun o e => by
    have e' := nb a o e nfr
    rw [nB] at e'; cases e'
  have inl : ∀ env ∈ X.env :: X.outer, env.frame ≠ some a := fun env m e => nfr (by rw [hs]; exact List.mem_filterMap.mpr ⟨env, m, e⟩)
  refine ⟨?_, fun p hp e => never p.2 (e ▸ (I.pin p hp).1), fun e => inl _ List.mem_cons_self (e ▸ hf), fun m => ?_⟩
  · cases e : X.s_0.heap.get? a with
    | none => rfl
    | some o =>
      obtain ⟨o', e'⟩ := I.base.there a o e (by rw [hex]; simp)
      exact (never o' e').elim
  · obtain ⟨env, m', e⟩ := List.mem_filterMap.mp m
    exact inl env (List.mem_cons_of_mem _ m') e
/-- no frame is an error -/
theorem no_frame {l : List Env} {Z : Obj → Prop} {h : Heap} (fl : HandSPX.FlyingZ B l a Z h) : a ∉ frs l := fun m => by
  obtain ⟨oe, vs, he, _, hd⟩ := fl.there
  obtain ⟨_, o, ho, nf⟩ := fl.2.2.1.mem m
  cases he.symm.trans ho
  exact nf _ hd
/-- behind the suite its name goes, and the error is told of -/
theorem suite_end {i : Nat} {n : Str} {pos : Pos} {oe : Obj} {cls : Value} {d : Option Addr} {D : Ends} {f : Flow} {s6 : Shared} (ok : X.Ok) (C : Came X pins a) (hz : Zc cls d oe) (hd : ∃ vs, oe.data = .fields vs) (hN : X.N.Nodup) (hi : X.N[i]? = some n) (hl : X.env.kindOf n = some .local)
    (h : SP (X.suite a ((a, oe) :: (X.pn ++ pins))) [] { nx := fun σ' H' => H' a = none → D.nx (σ'.set i none) (upd H' a (ExcO a cls d)), rt := D.rt, bk := fun σ' H' => D.bk (σ'.set i none) H', ct := fun σ' H' => D.ct (σ'.set i none) H' } f s6) :
    wpAny (model X.prog X.w) X.A (do bindName X.env n .none; unbindBehindTheSuite X.env n pos) (fun _ s7 => SP X pins D f s7) X.xe s6 := by
  match f, h with
  | .next, ⟨σ6, H6, S6, q⟩ =>
    have told := S6.pin (a, oe) (List.mem_append_left _ List.mem_cons_self)
    have I6 : Inv X ((a, oe) :: pins) σ6 H6 s6 := (S6.unsuite ok).pins_of fun p hp => by
      rcases List.mem_cons.mp hp with rfl | m
      · exact ⟨told.1, told.2.1, C.loc, C.fs, told.2.2.2.2⟩
      · exact (S6.unsuite ok).pin p (List.mem_append_right _ m)
    exact gone_ok I6 hN hi hl fun s7 J => ⟨_, _, inv_tell J C.start C.pin hz hd, q told.2.1⟩
  | .brk, ⟨σ6, H6, S6, q⟩ => exact gone_ok (S6.unsuite ok) hN hi hl fun s7 J => ⟨_, _, J, q⟩
  | .cont, ⟨σ6, H6, S6, q⟩ => exact gone_ok (S6.unsuite ok) hN hi hl fun s7 J => ⟨_, _, J, q⟩
  | .ret u, ⟨v, σ6, H6, S6, rv, q⟩ => exact gone_ok (S6.unsuite ok) hN hi hl fun s7 J => ⟨_, _, _, J, rv, q⟩
end
section
variable {X : Cx} {x n : Str} {c : Value} {i : Nat} {body suite : List Stmt} {b₀ : Stmt} {np pos pos' : Pos} {tb : WX → TS} {ts : Addr → Value → Option Addr → TS} {Wout : WX}
theorem class_named {pins : List (Addr × Obj)} {σ : List (Option V)} {H : Hp} {s : Shared} {Q : Value → Shared → Prop} {E : Value → Shared → Prop} (I : Inv X pins σ H s) (hc : L2.Names X x c) (q : Q c s) : wpAny (model X.prog X.w) X.A (eval (.Name x np) X.env) Q E s := by
  rcases hc with ⟨g, nd, m | ⟨m, v, nn⟩⟩
  · exact ld_glob I g m q nd
  · exact ld_blt I g m v q nn nd
/-- try .. except x as n: .., and the error stays known behind it -/
theorem ps_try_hold (hs : X.stack = X.env :: X.outer) (hf : X.env.frame = some X.env.locals) (hex : X.ex = []) (hN : X.N.Nodup) (hi : X.N[i]? = some n) (hln : X.env.kindOf n = some .local) (hc : L2.Names X x c) (tk : Takes X Wout)
    (hb : ∀ (W : WX) (pn : List (Addr × Obj)) (xe : Value → Shared → Prop), Takes (X.tr pn xe) W → PassesOwn (model X.prog X.w) X.A X.env xe → PSs (X.tr pn xe) body (tb W))
    (hsu : ∀ (a : Addr) (oe : Obj) (cls : Value) (d : Option Addr) (pn : List (Addr × Obj)), Zc cls d oe → (∃ vs, oe.data = .fields vs) → PSs (X.suite a ((a, oe) :: pn)) (b₀ :: suite) (ts a cls d)) :
    PS X (.Try body [.ExceptHandler (some (.Name x np)) (some n) (b₀ :: suite) pos'] [] [] pos) (fun D σ H => tb (wHold X.K c i ts Wout D) D σ H) := by
  refine ⟨fun pins s σ H D I h => wpAny_Try_except ?_⟩
  have frames : X.A.frames = some (X.env :: X.outer) := I.ok.frames.trans (congrArg some hs)
  refine wpAny_mono ((hb (wHold X.K c i ts Wout D) (X.pn ++ pins) _ (fun u s1 out => ?caught) PassesOwn.looking).run [] s σ H D (I.toTry _) h) (fun f s1 done => ?through) fun e s1 z => z
  case through =>
    match f, done with
    | .next, ⟨σ1, H1, J, q⟩ => exact wpAny_execs_nil ⟨σ1, H1, J.ofTry I.ok, q⟩
    | .brk, ⟨σ1, H1, J, q⟩ => exact ⟨σ1, H1, J.ofTry I.ok, q⟩
    | .cont, ⟨σ1, H1, J, q⟩ => exact ⟨σ1, H1, J.ofTry I.ok, q⟩
    | .ret u, ⟨v, σ1, H1, J, rv, q⟩ => exact ⟨v, σ1, H1, J.ofTry I.ok, rv, q⟩
  case caught =>
    obtain ⟨a, B, sI, pins', σ1, H1, cls, d, rfl, J0, nb, up, sky, na, os, ag, b, fits, yes, no⟩ := out
    have J := J0.ofTry I.ok
    rw [show (X.tr (X.pn ++ pins) _).stack = X.env :: X.outer from hs] at sky
    refine Sky.land Zc.steady frames hf sky fun h2 fl2 up2 => ?_
    have nfr : a ∉ frs X.stack := by rw [hs]; exact no_frame fl2
    have C : Came X pins a := came J hs hf hex nb fl2.2.1 nfr
    have J2 : Inv X pins σ1 H1 { s1 with heap := h2 } := J.landed nb fl2.1 (up.trans up2) os ag
    obtain ⟨o2, v2, at2, z2, f2⟩ := fl2.there
    have S2 := J2.suite at2 f2 na C.loc C.fs
    refine wpAny_handleBy_cons (codeAny_handlers_test ?_) (fun z => nomatch z)
    refine class_named (X := X.suite a ((a, o2) :: (X.pn ++ pins))) S2 hc ?_
    refine (PySem.W.exm_one (M := model X.prog X.w) J2.kIn (fun A Q E s' k q => wpAny_typeOf_ref (k _ _ at2) (by rw [z2.1]; exact q)) fits).here ?_
    cases b with
    | true =>
      refine codeAny_handlers_suite_as (HandSPX.lands_againZ fl2 fun h3 fl3 up3 => ?_)
      have J3 : Inv X pins σ1 H1 { s1 with heap := h3 } := J.landed nb fl3.1 ((up.trans up2).trans up3) os ag
      obtain ⟨o3, v3, at3, z3, f3⟩ := fl3.there
      refine store_ok (X := X.suite a ((a, o3) :: (X.pn ++ pins))) (v := .ref a) (J3.suite at3 f3 na C.loc C.fs) hN hi (.inl hln) rfl (fun s4 S4 => ?_) (.inr hln)
      exact wpAny_mono ((hsu a o3 cls d (X.pn ++ pins) z3 ⟨_, f3⟩).run [] s4 _ H1 _ S4 (yes rfl a na)) (fun f s5 done => suite_end I.ok C z3 ⟨_, f3⟩ hN hi hln done) fun _ _ z => z.elim
    | false =>
      show wpAny _ X.A (handleBy (.ref a) X.env []) _ _ _
      refine wpAny_handleBy_nil ?_
      obtain ⟨_, _, _, oe, vs, T, _, _, he, _, hd, h1, _⟩ := id fl2
      unfold PySem.passOn
      refine wpAny_bind (wpAny_field he hd h1 ?_)
      rw [if_neg (by simp)]
      have out : ∀ h3, HandSPX.HeldZ B (X.env :: X.outer) a (Zc cls d) X.env.locals h3 → h2.UpToSlots h3 → X.xe (.ref a) { s1 with heap := h3 } := fun h3 held up3 =>
        tk _ _ ⟨a, B, sI, pins, σ1, H1, cls, d, rfl, J, nb, (up.trans up2).trans up3, .inr (.inr (hs ▸ held)), na, os, ag, no rfl⟩
      rw [hf]
      first
        | exact wpAny_bind (wpAny_pure (wpAny_bind (HandSPX.setFlight_upZ fl2 fun h3 held up3 => wpAny_throw (out h3 held up3))))
        | exact wpAny_bind (HandSPX.setFlight_upZ fl2 fun h3 held up3 => wpAny_throw (out h3 held up3))
end
/-- isinstance(e, c), e an error that is known -/
def rIsX (K : PySem.W.Frag) : List V → Hp → VK → Prop := fun xs H Q => ∃ (a D : Addr) (c : V) (cv : Value) (b : Bool), xs = [.ref a, c] ∧ H a = some (ExcO a (.ref D) none) ∧ ExcC K D ∧ (∀ u, RelV c u → u = cv) ∧ PySem.W.kitOne K (.ref D) cv = some b ∧ Q (.bl b) H
theorem inst_at {h : Heap} {a D : Addr} {oe : Obj} {vs : Array Value} (e : h.get? a = some oe) (z : Zc (.ref D) none oe) (f : oe.data = .fields vs) : PySem.W.InstAt h a oe D none := by
  rcases oe with ⟨k1, k2, k3, k4⟩
  cases (show k1 = _ from z.1)
  cases (show k2 = _ from z.2)
  cases (show k3 = _ from f)
  exact ⟨e, rfl, rfl, trivial⟩
theorem call_isX {X : Cx} : CallR X (.builtin "isinstance") (rIsX X.K) := by
  rintro pins s σ H xs us Q I r ⟨a, D, c, cv, b, rfl, ha, C, only, fits, q⟩
  obtain ⟨u1, u2, rfl, r1, r2⟩ := vals2 r
  cases (show u1 = Value.ref a from r1)
  cases only u2 r2
  obtain ⟨oe, vs, at_, z, f⟩ := (I.hok a _ ha).1
  exact PySem.W.kia_one (PySem.W.handS_kitx_exc C.hg C.hk C.hs C.hd C.ha C.hn C.ht C.hm) I.kIn (inst_at at_ z f) fits (fun z => nomatch z) fun tk => ⟨.bl b, H, I.tok tk, rfl, q⟩
end As

/-! ## A12 -/
namespace As
open PySem PySem.Spec PyProof.Rows L2 RZ
theorem walk_zipT {K : PySem.W.Frag} {a b : Addr} {xs ys : List V} {n : Nat} (hn : n = min xs.length ys.length) : Walk (ItzT K a b) n (fun H => SqT K H a xs ∧ SqT K H b ys) (YPair (fun i => xs[i]?) (fun i => ys[i]?)) := by
  subst hn
  constructor
  · rintro i H lt ⟨ha, hb⟩
    have l1 : i < xs.length := Nat.lt_of_lt_of_le lt (Nat.min_le_left _ _)
    have l2 : i < ys.length := Nat.lt_of_lt_of_le lt (Nat.min_le_right _ _)
    exact ⟨xs, ys, _, _, ha, hb, List.getElem?_eq_getElem l1, List.getElem?_eq_getElem l2⟩
  · rintro H ⟨ha, hb⟩
    exact ⟨xs, ys, ha, hb, by rcases Nat.le_total xs.length ys.length with h | h <;> omega⟩
  · rintro i H v H' _ ⟨ha, hb⟩ ⟨T, u, z, ev, nT, eH, fu, fz⟩
    exact ⟨T, u, z, ev, nT, eH, fu _ ha, fz _ hb⟩
section
variable {X : Cx} (K : PySem.W.Frag)
theorem zipK {e e2 : Expr} {ta : TA} {p pos tpos : Pos} {elts : List Expr} {kk : Nat} (hg : Gl X "zip") (hm : X.mg "zip" = none) (ha : PA X [e, e2] ta) (h : X.K = K := by rfl) (hs : starEach [e, e2] X.env = (false, eval e X.env) :: starEach [e2] X.env := by rfl) (hpl : (backTo pos (starEach [e2] X.env)).any (·.1) = false := by rfl) :
    PI X (.Tuple elts kk tpos) (.Call (.Name "zip" p) [e, e2] [] pos) (iZipA K ta) := h ▸ pi_zipA hg hm ha hs hpl
end
/-- the same over pairs: each turn's pair is a new tuple -/
theorem lc_pair {J : It} {n : Nat} {G : Hp → Prop} {xs ys : Nat → Option V} {g : TG} {tt : TT} {te : TE} {vs : List Nat} {σ : L2.St} {H1 : Hp} {D : Addr} {Qd : Hp → Prop}
    (w : Walk J n G (YPair xs ys)) (hD : H1 D = none) (hG : ∀ H, Same H1 H → G H) (hl : n < sizeLine) (P : Nat → List V → Hp → Prop) (h0 : P 0 [] H1) (hP : ∀ i acc H H', Imm H H' → P i acc H → P i acc H')
    (hs : ∀ i x y T H acc (Q1 : VK) (Q2 : Hp → Prop), i < n → xs i = some x → ys i = some y → Same H1 H → H T = some (.tup [x, y]) → P i acc H → (∀ y H4, Same H H4 → P (i + 1) (acc ++ [y]) H4 → Q1 y H4) → (∀ H3, Same H H3 → P (i + 1) acc H3 → Q2 H3) →
      g (.ref T) (wipe σ vs) H fun σ2 H2 => wipe σ2 vs = wipe σ vs ∧ tt σ2 H2 fun b H3 => if b = true then te σ2 H3 Q1 else Q2 H3)
    (hd : ∀ H' acc, Same H1 H' → H' D = some (.lst acc) → P n acc H' → Qd H') :
    ∃ W : Nat → Nat → Hp → Prop, (∃ m, W 0 m (upd H1 D (.lst []))) ∧ ∀ i m H, W i m H →
      (J.stop i H ∧ Qd H) ∨ (J.go i H ∧ ∃ Nx : Hp → Prop, (∀ H', Nx H' → ∃ m', m' < m ∧ W (i + 1) m' H') ∧ ∀ x H', J.yld i H x H' → g x (wipe σ vs) H' fun σ2 H2 => wipe σ2 vs = wipe σ vs ∧ tt σ2 H2 fun b H3 =>
        if b = true then te σ2 H3 fun y H4 => ∃ acc, H4 D = some (.lst acc) ∧ acc.length < sizeLine ∧ Nx (upd H4 D (.lst (acc ++ [y]))) else Nx H3) := by
  refine lc_it w (fun i H => ∃ acc, Same H1 H ∧ H D = some (.lst acc) ∧ acc.length ≤ i ∧ P i acc H) ⟨[], same_new hD, upd_same, Nat.le_refl _, hP _ _ _ _ (same_imm (same_new hD)) h0⟩
    (fun i H _ ⟨acc, s, _⟩ => hG H s) (fun i x H H' hi p y => ?_) (fun H ⟨acc, s, hd', _, p⟩ => hd H acc s hd' p)
  obtain ⟨T, a, b, rfl, nT, rfl, ea, eb⟩ := y
  obtain ⟨acc, s, hd', hlen, p⟩ := p
  have sT : Same H (upd H T (.tup [a, b])) := same_new nT
  refine hs i a b T _ acc _ _ hi ea eb (s.trans sT) upd_same (hP _ _ _ _ (same_imm sT) p) (fun y H4 s4 p4 => ?_) (fun H3 s3 p3 => ⟨acc, (s.trans sT).trans s3, s3 _ _ (sT _ _ hd'), Nat.le_succ_of_le hlen, p3⟩)
  have h4 := s4 _ _ (sT _ _ hd')
  refine ⟨acc, h4, by omega, acc ++ [y], same_mut ((s.trans sT).trans s4) hD, upd_same, ?_, hP _ _ _ _ (imm_lst' h4) p4⟩
  rw [List.length_append]; simp; omega
end As

/-! ## C3 -/
namespace As
open PySem PySem.Spec PyProof.Rows L2 RZ
/-! values of any kind -/
inductive Kind | non | bl | int | str | lst | tup | dict
  deriving DecidableEq
def Kind.name : Kind → String
  | .non => "NoneType" | .bl => "bool" | .int => "int" | .str => "str" | .lst => "list" | .tup => "tuple" | .dict => "dict"
theorem kit_tup {K : PySem.W.Frag} (k : Kind) : PySem.W.kitOne K (.type k.name) (.type "tuple") = some (decide (k = .tup)) := by
  cases k <;> exact kit_ty (by decide +kernel)
theorem kit_str {K : PySem.W.Frag} (k : Kind) : PySem.W.kitOne K (.type k.name) (.type "str") = some (decide (k = .str)) := by
  cases k <;> exact kit_ty (by decide +kernel)
theorem kit_int {K : PySem.W.Frag} (k : Kind) : PySem.W.kitOne K (.type k.name) (.type "int") = some (decide (k = .int ∨ k = .bl)) := by
  cases k <;> exact kit_ty (by decide +kernel)
theorem kit_bool {K : PySem.W.Frag} (k : Kind) : PySem.W.kitOne K (.type k.name) (.type "bool") = some (decide (k = .bl)) := by
  cases k <;> exact kit_ty (by decide +kernel)
/-- x is of one of the kinds -/
inductive Val (H : Hp) : V → Kind → Prop
  | non : Val H .non .non
  | bl (b : Bool) : Val H (.bl b) .bl
  | int (i : Int) : Val H (.int i) .int
  | str (z : Str) : Val H (.str z) .str
  | lst {a : Addr} {xs : List V} (h : H a = some (.lst xs)) : Val H (.ref a) .lst
  | tup {a : Addr} {xs : List V} (h : H a = some (.tup xs)) : Val H (.ref a) .tup
  | dict {a : Addr} {ks : List (Key × V)} (h : H a = some (.dK ks)) : Val H (.ref a) .dict
theorem Val.ty {K : PySem.W.Frag} {H : Hp} {x : V} {k : Kind} : Val H x k → TyX K H x (.type k.name)
  | .non => .base .non
  | .bl b => .base (.bl b)
  | .int i => .base (.int i)
  | .str z => .base (.str z)
  | .lst h => .base (.lst h)
  | .tup h => .base (.tup h)
  | .dict h => .base (.dK h)
theorem Val.same {H H' : Hp} {x : V} {k : Kind} (e : Same H H') : Val H x k → Val H' x k
  | .non => .non
  | .bl b => .bl b
  | .int i => .int i
  | .str z => .str z
  | .lst h => .lst (e _ _ h)
  | .tup h => .tup (e _ _ h)
  | .dict h => .dict (e _ _ h)
def tupV (H : Hp) (x : V) : Option (List V) := match x with
  | .ref a => (match H a with | some (.tup xs) => some xs | _ => none)
  | _ => none
theorem tupV_at {H : Hp} {a : Addr} {xs : List V} (h : H a = some (.tup xs)) : tupV H (.ref a) = some xs := by unfold tupV; simp only [h]
theorem tupV_some {H : Hp} {x : V} {xs : List V} (h : tupV H x = some xs) : ∃ a, x = .ref a ∧ H a = some (.tup xs) := by
  unfold tupV at h
  cases x <;> simp only [reduceCtorEq] at h
  rename_i a
  split at h
  · rename_i ys e; cases h; exact ⟨a, rfl, e⟩
  · cases h
theorem Val.tupV {H : Hp} {x : V} {k : Kind} (h : Val H x k) : (k ≠ .tup ∧ tupV H x = none) ∨ (k = .tup ∧ ∃ a xs, x = .ref a ∧ H a = some (.tup xs) ∧ tupV H x = some xs) := by
  cases h with
  | tup h => exact .inr ⟨rfl, _, _, rfl, h, tupV_at h⟩
  | lst h => exact .inl ⟨by decide, by unfold As.tupV; simp only [h]⟩
  | dict h => exact .inl ⟨by decide, by unfold As.tupV; simp only [h]⟩
  | non => exact .inl ⟨by decide, rfl⟩
  | bl => exact .inl ⟨by decide, rfl⟩
  | int => exact .inl ⟨by decide, rfl⟩
  | str => exact .inl ⟨by decide, rfl⟩
theorem tupV_same {H H' : Hp} {x : V} {k : Kind} (h : Val H x k) (e : Same H H') : tupV H' x = tupV H x := by
  rcases h.tupV with ⟨n, t⟩ | ⟨n, a, xs, rfl, ha, t⟩
  · rw [t]
    rcases (h.same e).tupV with ⟨_, t'⟩ | ⟨n', _⟩
    · exact t'
    · exact absurd n' n
  · rw [t, tupV_at (e _ _ ha)]
section
variable {P : Program} {w : World} {K : PySem.W.Frag} {mg : Str → Option Value} {base : Heap}
def pairB (H : Hp) (x : V) : Bool := match tupV H x with | some xs => decide (xs.length = 2) | none => false
def spPairA : Sp := fun vs H Q _ => ∃ x k b, vs = [x] ∧ Val H x k ∧ pairB H x = b ∧ Q (.bl b) H
theorem ok_pairA {f : Addr} {fd : FuncData} (D : Df K mg "is_pair" s_is_pair ["thing"] f fd) (T : Bi mg) : FnOk P w K mg base CX0 1 f fd ["thing"] spPairA := by
  refine D.F.ok sc_pair (fun vs H Q E h => ?_) (fun cdv A outer s H vs Q E hr h => ?_)
  · obtain ⟨a, xs, b, rfl, _⟩ := h; rfl
  · obtain ⟨x, k, b, rfl, hk, eb, q⟩ := h
    subst eb
    unfold pairB at q
    refine ⟨_, pss_one (ps_ret (pe_and (pe_callB call_isi (by rfl) T.isinst (by decide +kernel) (pa_cons (pv 0) (pa_cons (pe_bltn (v := .ty "tuple") (by rfl) T.tuple (by decide +kernel) rfl) pa_nil)))
      (pe_one (pe_cmpR op_eq (pe_callB call_len_seq (by rfl) T.len PySem.boot_len (pa_cons (pv 0) pa_nil)) pe_int (nomark _))))), ?_⟩
    refine ⟨_, rfl, _, _, _, _, _, rfl, .ty "tuple", hk.ty, kit_tup k, _, rfl, ?_⟩
    rcases hk.tupV with ⟨n, e⟩ | ⟨n, a, xs, rfl, ha, e⟩
    · rw [decide_eq_false n]
      rw [e] at q
      exact iteF q
    · rw [e] at q
      rw [decide_eq_true n]
      refine iteT ⟨_, rfl, a, xs, rfl, .inr (tof ha), rfl, ?_⟩
      have e : decide (V.int (xs.length : Int) = V.int 2) = decide (xs.length = 2) := by
        by_cases h : xs.length = 2
        · rw [h]; rfl
        · rw [decide_eq_false h]; exact decide_eq_false fun z => h (by injection z with z; omega)
      rw [e]
      exact q
def belowV (x : V) (n : Int) : Bool := match x with | .int i => decide (0 ≤ i ∧ i < n) | _ => false
def spBelow (K : PySem.W.Frag) : Sp := fun vs H Q _ => ∃ x k n, vs = [x, .int n] ∧ Val H x k ∧ Q (.bl (belowV x n)) H
theorem sc_below : FnScope ["thing", "bound"] ["thing", "bound"] (defScope s_is_below) := ⟨rfl, rfl, rfl, by decide +kernel, rfl, by decide +kernel, by decide +kernel⟩
theorem ok_below {f fu : Addr} {fd du : FuncData} (D : Df K mg "is_below" s_is_below ["thing", "bound"] f fd) (T : Bi mg) (Du : Df K mg "is_number" s_is_number ["thing"] fu du) (Gu : FnOk P w K mg base CX0 1 fu du ["thing"] (spNumber K)) : FnOk P w K mg base CX0 2 f fd ["thing", "bound"] (spBelow K) := by
  refine D.F.ok sc_below (fun vs H Q E h => ?_) (fun cdv A outer s H vs Q E hr h => ?_)
  · obtain ⟨x, k, n, rfl, _⟩ := h; rfl
  · obtain ⟨x, k, n, rfl, hk, q⟩ := h
    refine ⟨_, pss_one (ps_ret (pe_and (pcall Du Gu hr (pa_cons (pv 0) pa_nil)) (pe_one (pe_chain op_le op_lt pe_int (pv 0) (pv 1))))), ?_⟩
    refine ⟨_, rfl, x, .type k.name, _, _, rfl, hk.ty, kit_int k, kit_bool k, _, rfl, ?_⟩
    by_cases e : k = .int
    · subst e
      cases hk with
      | int i =>
        refine iteT ⟨_, rfl, 0, i, rfl, rfl, _, rfl, ?_⟩
        have e : belowV (.int i) n = (decide (0 ≤ i) && decide (i < n)) := by show decide (0 ≤ i ∧ i < n) = _; rw [Bool.decide_and]
        rw [e] at q
        by_cases h0 : 0 ≤ i
        · rw [decide_eq_true h0] at q ⊢
          exact iteT ⟨_, rfl, i, n, rfl, rfl, q⟩
        · rw [decide_eq_false h0] at q ⊢
          exact iteF q
    · have e1 : (decide (k = .int ∨ k = .bl) && !decide (k = .bl)) = false := by cases k <;> first | rfl | exact absurd rfl e
      rw [e1]
      have e2 : belowV x n = false := by cases hk <;> first | rfl | exact absurd rfl e
      rw [e2] at q
      exact iteF q
def spanI (cs : List CRow) (r : TRow) : List Int := r.2.2.2.map (sizeI cs)
def isFactV (H : Hp) (cs : List CRow) (ts : List TRow) (x : V) : Bool := match tupV H x with
  | some [y, z] => (match y with
    | .str t => (match tabOf ts t with
      | some r => (match tupV H z with
        | some vs => decide (vs.length = r.2.2.2.length) && (vs.zip (spanI cs r)).all fun p => belowV p.1 p.2
        | none => false)
      | none => false)
    | _ => false)
  | _ => false
def Deep (H : Hp) (x : V) : Prop := (∃ k, Val H x k) ∧ ∀ xs, tupV H x = some xs → ∀ y ∈ xs, (∃ k, Val H y k) ∧ ∀ ys, tupV H y = some ys → ∀ z ∈ ys, ∃ k, Val H z k
def spIsFact (C : Addr) : Sp := fun vs H Q _ => ∃ (p : Addr) (x : V) (cs : List CRow) (ts : List TRow), vs = [.ref p, x] ∧ PlanAt H C p cs ts ∧ ColsOk H cs ∧ TabsOk H (cs.map (·.2.1)) ts ∧ Deep H x ∧ ∀ H', Same H H' → Q (.bl (isFactV H cs ts x)) H'
theorem spanVs_ints {H : Hp} {cs : List CRow} {ts : List TRow} (okc : ColsOk H cs) (okt : TabsOk H (cs.map (·.2.1)) ts) {r : TRow} (hr : r ∈ ts) : spanVs cs r = (spanI cs r).map V.int := by
  unfold spanVs spanI
  rw [List.map_map]
  apply List.map_congr_left
  intro c hc
  have h := (valV_sz okc (okt.own r hr c hc)).1
  show sizeV cs c = _
  unfold sizeV; rw [h]; rfl
abbrev nIsFact : List Str := ["plan", "thing", "table", "row", "spans", "value", "size"]
theorem sc_is_fact : FnScope nIsFact ["plan", "thing"] (defScope s_is_fact) := ⟨rfl, rfl, rfl, by decide +kernel, rfl, by decide +kernel, by decide +kernel⟩
theorem ok_is_fact {f fp fb fs C : Addr} {fd dp db ds : FuncData} (D : Df K mg "is_fact" s_is_fact ["plan", "thing"] f fd) (T : Bi mg) (zi : mg "zip" = none) (L : PlF K C) (Fs : Fun K "spans" "Plan.spans" s_spans fs ds) (bs : Binds K ds ["self", "table"] []) (ms : Meth K C "spans" fs)
    (Dp : Df K mg "is_pair" s_is_pair ["thing"] fp dp) (Gp : FnOk P w K mg base CX0 1 fp dp ["thing"] spPairA) (Db : Df K mg "is_below" s_is_below ["thing", "bound"] fb db) (Gb : FnOk P w K mg base CX0 2 fb db ["thing", "bound"] (spBelow K)) :
    FnOk P w K mg base CX0 3 f fd ["plan", "thing"] (spIsFact C) := by
  have Gs : FnOk P w K mg base CX0 1 fs ds ["self", "table"] (spSpans K C) := ok_spans Fs T L
  refine D.F.ok sc_is_fact (fun vs H Q E h => ?_) (fun cdv A outer s H vs Q E hr h => ?_)
  · obtain ⟨p, x, cs, ts, rfl, _⟩ := h; rfl
  · obtain ⟨p, x, cs, ts, rfl, pl, okc, okt, ⟨⟨k, hk⟩, deep⟩, q⟩ := h
    obtain ⟨dx, ct, tt, sz, sp, sh, ks, h1, _⟩ := id pl
    have hr1 : Room 1 _ := hr.mono (by decide)
    refine ⟨_, pss_cons (ps_if (pt_not (pt_val (pcall Dp Gp hr1 (pa_cons (pv 1) pa_nil)))) (pss_one (ps_ret pe_bl)) pss_nil)
      (pss_cons (ps_asg (pv 1) (pg_tup rfl (pgs_cons (pg_name (i := 2) sc_is_fact.nd rfl (Or.inl rfl)) (pgs_cons (pg_name (i := 3) sc_is_fact.nd rfl (Or.inl rfl)) pgs_nil))))
      (pss_cons (ps_set (i := 4) sc_is_fact.nd rfl (Or.inl rfl) (pe_meth (pv 0) L.cl ms Gs hr1 bs .nil pass0 (pa_cons (pv 2) pa_nil)))
      (pss_cons (ps_if (PW.pt (pw_or (pt_cmp (pc_isN (pv 4))) (pw_or (pt_not (pt_val (pe_callB call_isi (by rfl) T.isinst (by decide +kernel) (pa_cons (pv 3) (pa_cons (pe_bltn (v := .ty "tuple") (by rfl) T.tuple (by decide +kernel) rfl) pa_nil)))))
          (pw_or1 (pt_cmpR op_ne (pe_callB call_len_seq (by rfl) T.len PySem.boot_len (pa_cons (pv 3) pa_nil)) (pe_callB call_len_seq (by rfl) T.len PySem.boot_len (pa_cons (pv 4) pa_nil)) (nomark _)))))) (pss_one (ps_ret pe_bl)) pss_nil)
      (pss_one (ps_ret (pe_callB (cr_all rfl) (by rfl) T.all (by decide +kernel) (pa_cons (pe_lc (own := [("value", 5), ("size", 6)]) (g := gTup K 2 (gCons (gName 5) (gCons (gName 6) gNil))) (tt := tYes) rfl sc_is_fact.nd (pi_zipA (by rfl) zi (pa_cons (pv 3) (pa_cons (pv 4) pa_nil)))
        (blkOk_by (N := nIsFact) (sc := defScope s_is_fact) (by decide +kernel)) (fun _ _ _ _ _ => pgT K (pg_tup rfl (pgs_cons (pg_name (i := 5) sc_is_fact.nd rfl (Or.inl rfl)) (pgs_cons (pg_name (i := 6) sc_is_fact.nd rfl (Or.inl rfl)) pgs_nil)))) (fun _ _ _ _ _ => pts_nil)
        (fun _ _ _ _ _ => pcall Db Gb hr (pa_cons (pv 5) (pa_cons (pv 6) pa_nil)))) pa_nil))))))), ?_⟩
    have no : (pf ct tt sz sp sh).lookup (Str.ofString "spans") = none := pf_no (by decide +kernel) (by decide +kernel) (by decide +kernel) (by decide +kernel) (by decide +kernel)
    have q0 := q H (Same.refl H)
    rcases hk.tupV with ⟨_, e⟩ | ⟨_, a, xs, rfl, ha, e⟩
    · have e0 : isFactV H cs ts x = false := by unfold isFactV; rw [e]
      rw [e0] at q0
      exact ⟨_, rfl, x, k, false, rfl, hk, by unfold pairB; rw [e], false, rfl, iteT q0⟩
    by_cases l2 : xs.length = 2
    case neg =>
      have e0 : isFactV H cs ts (.ref a) = false := by
        unfold isFactV; rw [e]
        rcases xs with _ | ⟨y, _ | ⟨z, _ | ⟨u, r⟩⟩⟩
        · rfl
        · rfl
        · exact absurd rfl l2
        · rfl
      rw [e0] at q0
      exact ⟨_, rfl, _, k, false, rfl, hk, by unfold pairB; rw [e]; exact decide_eq_false l2, false, rfl, iteT q0⟩
    refine ⟨_, rfl, _, k, true, rfl, hk, by unfold pairB; rw [e]; exact decide_eq_true l2, true, rfl, ?_⟩
    obtain ⟨y, z, rfl⟩ : ∃ y z, xs = [y, z] := by
      rcases xs with _ | ⟨y, _ | ⟨z, _ | ⟨u, r⟩⟩⟩
      · cases l2
      · cases l2
      · exact ⟨y, z, rfl⟩
      · simp at l2
    have dp := deep _ e
    obtain ⟨⟨ky, hy⟩, _⟩ := dp y (by simp)
    obtain ⟨⟨kz, hz⟩, dz⟩ := dp z (by simp)
    refine iteF ⟨_, rfl, a, _, rfl, tof ha, rfl, _, _, rfl, _, _, rfl, rfl, ?_⟩
    refine ⟨_, rfl, p, dx, _, rfl, h1, no, _, rfl, p, y, cs, ts, rfl, pl, ?_⟩
    by_cases sy : ky = .str
    case neg =>
      have e0 : isFactV H cs ts (.ref a) = false := by
        unfold isFactV; rw [e]
        cases hy <;> first | rfl | exact absurd rfl sy
      rw [e0] at q0
      refine .inr ⟨⟨.type ky.name, hy.ty, by rw [kit_str, decide_eq_false sy]⟩, ?_⟩
      exact ⟨_, rfl, true, rfl, iteT q0⟩
    subst sy
    cases hy with
    | str t =>
      refine .inl ⟨t, rfl, fun e1 => ?_, fun r qs e1 hqs => ?_⟩
      · have e0 : isFactV H cs ts (.ref a) = false := by unfold isFactV; rw [e]; dsimp only; rw [e1]
        rw [e0] at q0
        exact ⟨_, rfl, true, rfl, iteT q0⟩
      · have hrm : r ∈ ts := List.mem_of_find?_eq_some e1
        refine ⟨_, rfl, false, rfl, iteF ?_⟩
        rcases hz.tupV with ⟨nz, ez⟩ | ⟨nz, b, vs, rfl, hb, ez⟩
        · have e0 : isFactV H cs ts (.ref a) = false := by unfold isFactV; rw [e]; dsimp only; rw [e1]; dsimp only; rw [ez]
          rw [e0] at q0
          exact ⟨_, rfl, _, _, _, _, false, rfl, .ty "tuple", hz.ty, by rw [kit_tup, decide_eq_false nz], false, rfl, iteT q0⟩
        refine ⟨_, rfl, _, _, _, _, true, rfl, .ty "tuple", hz.ty, by rw [kit_tup, decide_eq_true nz], true, rfl, ?_⟩
        have ev : isFactV H cs ts (.ref a) = (decide (vs.length = r.2.2.2.length) && (vs.zip (spanI cs r)).all fun p => belowV p.1 p.2) := by unfold isFactV; rw [e]; dsimp only; rw [e1]; dsimp only; rw [ez]
        rw [ev] at q
        have sl : (spanVs cs r).length = r.2.2.2.length := by unfold spanVs; rw [List.length_map]
        refine iteF ⟨_, rfl, b, vs, rfl, .inr (tof hb), _, rfl, qs, _, rfl, .inr (tof hqs), rfl, _, rfl, ?_⟩
        rw [sl]
        by_cases el : vs.length = r.2.2.2.length
        case neg =>
          have e2 : decide (V.int (vs.length : Int) = V.int (r.2.2.2.length : Int)) = false := decide_eq_false fun z => el (by injection z with z; omega)
          rw [e2]
          have := q H (Same.refl H)
          rw [decide_eq_false el] at this
          exact iteT this
        rw [el, decide_eq_true rfl]
        rw [decide_eq_true el, Bool.true_and] at q
        refine iteF ?_
        refine ⟨_, rfl, _, rfl, b, qs, vs, _, rfl, .inr ⟨tof hb, tof hqs, fun D nD => ?_⟩⟩
        refine lc_pair (H1 := H) (walk_zipT (xs := vs) (ys := spanVs cs r) (n := vs.length) (by rw [sl, el]; omega)) nD (fun H2 s2 => ⟨tof (s2 _ _ hb), tof (s2 _ _ hqs)⟩) ?_
          (fun i acc _ => acc = ((vs.zip (spanI cs r)).take i).map fun p => V.bl (belowV p.1 p.2)) rfl (fun _ _ _ _ _ h => h) (fun i u v T H2 acc Q1 Q2 hi eu ev s2 hT p k1 k2 => ?_) (fun H2 acc s2 hD2 p => ?_)
        · rw [el]; exact Nat.lt_of_le_of_lt (okt.two r hrm).2 (by decide)
        · obtain ⟨ku, hu⟩ := dz vs ez u (List.mem_of_getElem? eu)
          rw [spanVs_ints okc okt hrm] at ev
          rw [List.getElem?_map] at ev
          obtain ⟨n, en, rfl⟩ := Option.map_eq_some_iff.mp ev
          have ezip : (vs.zip (spanI cs r))[i]? = some (u, n) := by
            rw [List.getElem?_zip_eq_some]; exact ⟨eu, en⟩
          refine ⟨T, _, rfl, tof hT, rfl, _, _, rfl, _, _, rfl, rfl, rfl, ?_⟩
          refine iteT (B := Q2 H2) ?_
          refine ⟨_, rfl, _, rfl, u, ku, n, rfl, hu.same s2, k1 _ _ (Same.refl _) ?_⟩
          rw [p, List.take_succ, ezip, List.map_append]; rfl
        · have ezl : (vs.zip (spanI cs r)).length = vs.length := by
            rw [List.length_zip]; unfold spanI; rw [List.length_map, el]; omega
          rw [← ezl, List.take_length] at p
          subst p
          refine ⟨D, (vs.zip (spanI cs r)).map fun p => belowV p.1 p.2, rfl, lof (by rw [List.map_map]; exact hD2), ?_⟩
          rw [all_map]; exact q _ s2
end
end As

/-! ## C4p -/
namespace As
open PySem PySem.Spec PyProof.Rows L2
/-- an own error class without its own __init__ -/
structure ErC (K : PySem.W.Frag) (mg : Str → Option Value) (x : Str) (C : Addr) : Prop where
  q : PySem.W.excIn K C [.type "ValueError", .type "Exception", .type "BaseException", .type "object"] "ValueError.__new__" = true
  g : mg x = some (.ref C)
  k : PySem.W.keepIn K (.ref C) = true
  b : PySem.W.subIn K (.ref C) (.type "BaseException") = some true
  t : PySem.W.typeIn K (.ref C) = some (.type "type")
section
variable {P : Program} {w : World} {K : PySem.W.Frag} {mg : Str → Option Value} {base : Heap}
def spCheck (C CB : Addr) : Sp := fun vs H Q E => ∃ (p : Addr) (x : V) (cs : List CRow) (ts : List TRow), vs = [.ref p, x] ∧ PlanAt H C p cs ts ∧ ColsOk H cs ∧ TabsOk H (cs.map (·.2.1)) ts ∧ Deep H x ∧
  (isFactV H cs ts x = true → ∀ H', Same H H' → Q .non H') ∧ (isFactV H cs ts x = false → ∀ H', Same H H' → E (.ref CB) none H')
def sidesUp (k : FK) (i : Nat) : List LK := ((k.2.take i).zipIdx).map fun p => (k.1, (p.2 : Int), p.1)
def sidesOf (k : FK) : List LK := sidesUp k k.2.length
theorem sidesUp_succ {k : FK} {i : Nat} {v : Int} (h : k.2[i]? = some v) : sidesUp k (i + 1) = sidesUp k i ++ [(k.1, (i : Int), v)] := by
  unfold sidesUp
  rw [List.take_succ, h, List.zipIdx_append, List.map_append]
  have hl : (k.2.take i).length = i := by
    rw [List.length_take]
    have := (List.getElem?_eq_some_iff.mp h).1
    omega
  rw [hl]
  simp
def spSeers (C CB : Addr) : Sp := fun vs H Q E => ∃ (p : Addr) (x : V) (cs : List CRow) (ts : List TRow), vs = [.ref p, x] ∧ PlanAt H C p cs ts ∧ ColsOk H cs ∧ TabsOk H (cs.map (·.2.1)) ts ∧ Deep H x ∧
  ((∃ r : FRow, x = fv r ∧ FAt H r ∧ r.2.2.2.length ≤ 2 ∧ isFactV H cs ts x = true ∧ ∀ p' (ls : List LRow) H', Same H H' → H' p' = some (.tup (ls.map lv)) → (∀ l ∈ ls, LAt H' l) → ls.map (·.2) = sidesOf r.2.2 → Q (.ref p') H') ∨
   (isFactV H cs ts x = false ∧ ∀ H', Same H H' → E (.ref CB) none H'))
theorem atI_map {α : Type} {f : α → V} {xs : List α} {i : Int} {v : α} (h : atI xs i = some v) : atI (xs.map f) i = some (f v) := by
  unfold atI at h ⊢
  rw [List.length_map]
  cases e : ixN xs.length i with
  | none => rw [e] at h; cases h
  | some j =>
    rw [e] at h
    have h' : xs[j]? = some v := h
    show (xs.map f)[j]? = some (f v)
    rw [List.getElem?_map, h']; rfl
def spSees : Sp := fun vs H Q _ => ∃ (l : LRow) (r : FRow), vs = [lv l, fv r] ∧ LAt H l ∧ FAt H r ∧ (l.2.1 = r.2.2.1 → ∃ v, atI r.2.2.2 l.2.2.1 = some v) ∧ Q (.bl (decide (l.2.1 = r.2.2.1) && decide (atI r.2.2.2 l.2.2.1 = some l.2.2.2))) H
end
end As

/-! ## C4a -/
namespace As
open PySem PySem.Spec PyProof.Rows L2
section
variable {P : Program} {w : World} {K : PySem.W.Frag} {mg : Str → Option Value} {base : Heap}
theorem sc_check : FnScope ["plan", "thing"] ["plan", "thing"] (defScope s_check_fact) := ⟨rfl, rfl, rfl, by decide +kernel, rfl, by decide +kernel, by decide +kernel⟩
theorem ok_check {f fi C CB : Addr} {fd di : FuncData} (D : Df K mg "check_fact" s_check_fact ["plan", "thing"] f fd) (T : Bi mg) (Di : Df K mg "is_fact" s_is_fact ["plan", "thing"] fi di) (Gi : FnOk P w K mg base CX0 3 fi di ["plan", "thing"] (spIsFact C)) (B : ErC K mg "BadFact" CB) :
    FnOk P w K mg base (L2.CX P w) 4 f fd ["plan", "thing"] (spCheck C CB) := by
  refine D.F.okX sc_check (fun vs H Q E h => ?_) (fun cdv A outer s H vs Q E hr h => ?_)
  · obtain ⟨p, x, cs, ts, rfl, _⟩ := h; rfl
  · obtain ⟨p, x, cs, ts, rfl, pl, okc, okt, dp, q1, q2⟩ := h
    refine ⟨_, pss_one (ps_if (pt_not (pt_val (pcall Di Gi hr (pa_cons (pv 0) (pa_cons (pv 1) pa_nil))))) (pss_one (ps_raise rfl (takes_of rfl rfl rfl rfl) (pmk_own PySem.F.excBase_ValueError B.q B.g B.k (raises_own B.b B.t) rfl))) pss_nil), ?_⟩
    refine ⟨_, rfl, _, rfl, p, x, cs, ts, rfl, pl, okc, okt, dp, fun H' s' => ?_⟩
    refine ⟨_, rfl, ?_⟩
    cases e : isFactV H cs ts x with
    | true => exact iteF (q1 e H' s')
    | false => exact iteT (q2 e H' s')
end
end As

/-! ## C4b -/
namespace As
open PySem PySem.Spec PyProof.Rows L2
section
variable {P : Program} {w : World} {K : PySem.W.Frag} {mg : Str → Option Value} {base : Heap}
abbrev nSees : List Str := ["look", "fact", "table", "side", "value"]
theorem sc_sees : FnScope nSees ["look", "fact"] (defScope s_sees) := ⟨rfl, rfl, rfl, by decide +kernel, rfl, by decide +kernel, by decide +kernel⟩
theorem ok_sees {f : Addr} {fd : FuncData} (D : Df K mg "sees" s_sees ["look", "fact"] f fd) (T : Bi mg) : FnOk P w K mg base CX0 1 f fd ["look", "fact"] spSees := by
  refine D.F.ok sc_sees (fun vs H Q E h => ?_) (fun cdv A outer s H vs Q E hr h => ?_)
  · obtain ⟨l, r, rfl, _⟩ := h; rfl
  · obtain ⟨l, r, rfl, hl, hf, own, q⟩ := h
    refine ⟨_, pss_cons (ps_asg (pv 0) (pg_tup rfl (pgs_cons (pg_name (i := 2) sc_sees.nd rfl (Or.inl rfl)) (pgs_cons (pg_name (i := 3) sc_sees.nd rfl (Or.inl rfl)) (pgs_cons (pg_name (i := 4) sc_sees.nd rfl (Or.inl rfl)) pgs_nil)))))
      (pss_one (ps_ret (pe_and (pe_cmpR op_eq (pv 2) (pe_ix ix_tup (pv 1) pe_int (fun _ _ => rfl)) (nomark _)) (pe_one (pe_cmpR op_eq (pv 4) (pe_ix ix_tup (pe_ix ix_tup (pv 1) pe_int (fun _ _ => rfl)) (pv 3) (fun _ _ => rfl)) (nomark _)))))), ?_⟩
    refine ⟨_, rfl, l.1, _, rfl, tof hl, rfl, _, _, rfl, _, _, rfl, _, _, rfl, rfl, ?_⟩
    refine ⟨_, rfl, _, rfl, r.1, _, 0, .str r.2.2.1, rfl, rfl, tof hf.1, rfl, rfl, _, rfl, ?_⟩
    by_cases hn : l.2.1 = r.2.2.1
    · obtain ⟨v, hv⟩ := own hn
      rw [decide_eq_true hn, Bool.true_and, hv] at q
      rw [show decide (V.str l.2.1 = V.str r.2.2.1) = true from decide_eq_true (by rw [hn])]
      refine iteT ⟨_, rfl, _, rfl, r.1, _, 1, .ref r.2.1, rfl, rfl, tof hf.1, rfl, _, rfl, r.2.1, _, l.2.2.1, .int v, rfl, rfl, tof hf.2, atI_map hv, rfl, ?_⟩
      have e : decide (V.int l.2.2.2 = V.int v) = decide (some v = some l.2.2.2) := by
        by_cases h : v = l.2.2.2
        · rw [h]; simp
        · rw [decide_eq_false (fun z => h (by injection z with z; exact z.symm)), decide_eq_false (fun z => h (by injection z))]
      rw [e]
      exact q
    · rw [decide_eq_false hn, Bool.false_and] at q
      rw [show decide (V.str l.2.1 = V.str r.2.2.1) = false from decide_eq_false fun z => hn (by injection z)]
      exact iteF q
end
end As

/-! ## C4c -/
namespace As
open PySem PySem.Spec PyProof.Rows L2
section
variable {P : Program} {w : World} {K : PySem.W.Frag} {mg : Str → Option Value} {base : Heap}
/-- looks_that_see: of a fact, a new list of the looks -/
def spLts : Sp := fun vs H Q _ => ∃ r : FRow, vs = [fv r] ∧ FAt H r ∧ r.2.2.2.length ≤ 2 ∧ ∀ p (ls : List LRow) H', Same H H' → H p = none → H' p = some (.lst (ls.map lv)) → (∀ l ∈ ls, LAt H' l) → ls.map (·.2) = sidesOf r.2.2 → Q (.ref p) H'
abbrev nLts : List Str := ["fact", "table", "row", "side", "value"]
theorem sc_lts : FnScope nLts ["fact"] (defScope s_looks_that_see) := ⟨rfl, rfl, rfl, by decide +kernel, rfl, by decide +kernel, by decide +kernel⟩
theorem ok_lts {f : Addr} {fd : FuncData} (D : Df K mg "looks_that_see" s_looks_that_see ["fact"] f fd) (en : mg "enumerate" = none) : FnOk P w K mg base CX0 1 f fd ["fact"] spLts := by
  refine D.F.ok sc_lts (fun vs H Q E h => ?_) (fun cdv A outer s H vs Q E hr h => ?_)
  · obtain ⟨r, rfl, _⟩ := h; rfl
  · obtain ⟨r, rfl, ⟨f1, f2⟩, l2, q⟩ := h
    refine ⟨_, pss_cons (ps_asg (pv 0) (pg_tup rfl (pgs_cons (pg_name (i := 1) sc_lts.nd rfl (Or.inr rfl)) (pgs_cons (pg_name (i := 2) sc_lts.nd rfl (Or.inl rfl)) pgs_nil))))
      (pss_one (ps_ret (pe_lc (own := [("side", 3), ("value", 4)]) (g := gTup K 2 (gCons (gName 3) (gCons (gName 4) gNil))) (tt := tYes) rfl sc_lts.nd (pi_enumT (by rfl) en (pa_cons (pv 2) pa_nil))
        (blkOk_by (N := nLts) (sc := defScope s_looks_that_see) (by decide +kernel)) (fun _ _ _ _ _ => pgT K (pg_tup rfl (pgs_cons (pg_name (i := 3) sc_lts.nd rfl (Or.inl rfl)) (pgs_cons (pg_name (i := 4) sc_lts.nd rfl (Or.inl rfl)) pgs_nil)))) (fun _ _ _ _ _ => pts_nil)
        (fun _ _ _ _ _ => pe_tup (pa_cons (pv 1) (pa_cons (pv 3) (pa_cons (pv 4) pa_nil))))))), ?_⟩
    have vl : (r.2.2.2.map V.int).length = r.2.2.2.length := List.length_map _
    refine ⟨_, rfl, r.1, _, rfl, tof f1, rfl, _, _, rfl, _, _, rfl, rfl, ?_⟩
    refine ⟨_, rfl, r.2.1, _, rfl, tof f2, fun D nD => ?_⟩
    refine lc_pair (H1 := H) walk_enumT nD (fun H2 s2 => tof (s2 _ _ f2)) (by rw [vl]; exact Nat.lt_of_le_of_lt l2 (by decide)) (fun i acc H' => ∃ ls : List LRow, acc = ls.map lv ∧ (∀ l ∈ ls, LAt H' l) ∧ ls.map (·.2) = sidesUp r.2.2 i)
      ⟨[], rfl, (fun _ z => nomatch z), rfl⟩ (fun i acc H H' im ⟨ls, e, fa, k⟩ => ⟨ls, e, fun l hl => (fa l hl).imm im, k⟩) (fun i u v T H2 acc Q1 Q2 hi eu ev s2 hT ⟨ls, ea, fa, k⟩ k1 k2 => ?_) (fun H2 acc s2 hD2 ⟨ls, ea, fa, k⟩ => ?_)
    · have eu' : u = .int (i : Nat) := (Option.some.inj eu).symm
      subst eu' ea
      have ev' : (r.2.2.2.map V.int)[i]? = some v := ev
      rw [List.getElem?_map] at ev'
      obtain ⟨n, en', rfl⟩ := Option.map_eq_some_iff.mp ev'
      refine ⟨T, _, rfl, tof hT, rfl, _, _, rfl, _, _, rfl, rfl, rfl, ?_⟩
      refine iteT (B := Q2 H2) ?_
      refine ⟨_, rfl, _, rfl, _, rfl, by show 3 ≤ sizeLine; decide, fun t nt => ?_⟩
      refine k1 _ _ (same_new nt) ⟨ls ++ [(t, r.2.2.1, (i : Int), n)], ?_, fun l hl => ?_, ?_⟩
      · rw [List.map_append]; rfl
      · rcases List.mem_append.mp hl with hl | hl
        · exact (fa l hl).imm (imm_new nt)
        · rw [List.mem_singleton] at hl; subst hl; exact upd_same
      · rw [List.map_append, k, sidesUp_succ en']; rfl
    · subst ea
      rw [vl] at k
      exact q D ls H2 s2 nD hD2 fa k
theorem sc_seers : FnScope ["plan", "fact"] ["plan", "fact"] (defScope s_seers) := ⟨rfl, rfl, rfl, by decide +kernel, rfl, by decide +kernel, by decide +kernel⟩
theorem ok_seers {f fc fl C CB : Addr} {fd dc dl : FuncData} (D : Df K mg "seers" s_seers ["plan", "fact"] f fd) (T : Bi mg) (Dc : Df K mg "check_fact" s_check_fact ["plan", "thing"] fc dc) (Gc : FnOk P w K mg base (L2.CX P w) 4 fc dc ["plan", "thing"] (spCheck C CB))
    (Dl : Df K mg "looks_that_see" s_looks_that_see ["fact"] fl dl) (Gl' : FnOk P w K mg base CX0 1 fl dl ["fact"] spLts) :
    FnOk P w K mg base (L2.CX P w) 5 f fd ["plan", "fact"] (spSeers C CB) := by
  refine D.F.okX sc_seers (fun vs H Q E h => ?_) (fun cdv A outer s H vs Q E hr h => ?_)
  · obtain ⟨p, x, cs, ts, rfl, _⟩ := h; rfl
  · obtain ⟨p, x, cs, ts, rfl, pl, okc, okt, dp, q⟩ := h
    have ht := T.tuple
    refine ⟨_, pss_cons (ps_expr (pe_callS (E := WE fun cls d _ H => E cls d H) Gc hr (by rfl) Dc.m Dc.F.kp Dc.b (fun σ => passAt (takes_of rfl rfl rfl rfl) σ) (pa_cons (pv 0) (pa_cons (pv 1) pa_nil))))
      (pss_one (ps_ret (tupK K (pcall Dl Gl' (hr.mono (by decide)) (pa_cons (pv 1) pa_nil))))), ?_⟩
    refine ⟨_, rfl, _, rfl, p, x, cs, ts, rfl, pl, okc, okt, dp, ?_⟩
    rcases q with ⟨r, rfl, fr, l2, e, q⟩ | ⟨e, q⟩
    · refine ⟨fun _ H1 s1 => ?_, fun e' => by rw [e] at e'; cases e'⟩
      refine ⟨_, rfl, r, rfl, fr.imm (same_imm s1), l2, fun D ls H2 s2 _ hD2 fa k => ?_⟩
      exact kTup_seq (.inl hD2) fun p' H3 s3 h3 => q p' ls H3 (s1.trans (s2.trans s3)) h3 (fun l hl => s3 _ _ (fa l hl)) k
    · exact ⟨fun e' => absurd (e.symm.trans e') (by decide), fun _ H1 s1 => q H1 s1⟩
end
end As

/-! ## C5 -/
namespace As
open PySem PySem.Spec PyProof.Rows L2
open PySem.W (dataLe AllAlike Sortable dataLt alike keyToks keyToksAll)
theorem lk_inj {a b : LK} (h : keyToks (lkD a) = keyToks (lkD b)) : a = b := by
  obtain ⟨n, s, v⟩ := a
  obtain ⟨n', s', v'⟩ := b
  simp only [lkD, keyToks, keyToksAll, List.cons_append, List.nil_append, List.cons.injEq, Sum.inr.injEq, Sum.inl.injEq, true_and, and_true] at h
  obtain ⟨h1, h2, h3⟩ := h
  rw [PySem.W.str_of_cps h1, h2, h3]
theorem sorted_eq {β : Type} {k : β → PyData} (inj : ∀ a b, keyToks (k a) = keyToks (k b) → a = b) {l m : List β} (p : l.Perm m) (hl : l.Pairwise fun a b => dataLe false k a b = true) (hm : m.Pairwise fun a b => dataLe false k a b = true) : l = m := by
  refine List.Perm.eq_of_pairwise (le := fun a b => dataLe false k a b = true) (fun a b _ _ h1 h2 => inj a b ?_) hl hm p
  have e1 : (PyProof.Rows.listOrd PyProof.Rows.itemOrd).blt (keyToks (k b)) (keyToks (k a)) = false := by
    have h : (!(PyProof.Rows.listOrd PyProof.Rows.itemOrd).blt (keyToks (k b)) (keyToks (k a))) = true := h1
    rwa [Bool.not_eq_true'] at h
  have e2 : (PyProof.Rows.listOrd PyProof.Rows.itemOrd).blt (keyToks (k a)) (keyToks (k b)) = false := by
    have h : (!(PyProof.Rows.listOrd PyProof.Rows.itemOrd).blt (keyToks (k a)) (keyToks (k b))) = true := h2
    rwa [Bool.not_eq_true'] at h
  exact (PyProof.Rows.listOrd PyProof.Rows.itemOrd).total _ _ e2 e1
theorem sortL_sorted (l : List LK) : (sortL l).Pairwise fun a b => dataLe false lkD a b = true := PySem.W.sort_pairwise (PySem.W.sortLe_total _ _ _) l
theorem sortF_sorted (l : List FK) : (sortF l).Pairwise fun a b => dataLe false fkD a b = true := PySem.W.sort_pairwise (PySem.W.sortLe_total _ _ _) l
theorem sortL_perm (l : List LK) : (sortL l).Perm l := List.mergeSort_perm _ _
theorem sortF_perm (l : List FK) : (sortF l).Perm l := List.mergeSort_perm _ _
theorem lk_le {n : Str} {s s' v v' : Int} (h : s < s') : dataLe false lkD (n, s, v) (n, s', v') = true := by
  show (!dataLt (lkD (n, s', v')) (lkD (n, s, v))) = true
  unfold lkD
  rw [PySem.W.dataLt_tuple, PySem.W.dataLt_all_yes (by simp [alike]) (by simp [PyData.eqv]), PySem.W.dataLt_all_no (by simp [alike]) (by simp [PyData.eqv]; omega), PySem.W.dataLt_int]
  simp; omega
/-! one table alone -/
theorem flat_one {β : Type} {g : TRow → List β} : ∀ {ts : List TRow}, (ts.map (·.2.1)).Nodup → ∀ {r : TRow}, r ∈ ts → (∀ r' ∈ ts, r'.2.1 ≠ r.2.1 → g r' = []) → ts.flatMap g = g r
  | [], _, _, hr, _ => nomatch hr
  | a :: t, nd, r, hr, h => by
    rw [List.map_cons, List.nodup_cons] at nd
    rw [List.flatMap_cons]
    rcases List.mem_cons.mp hr with e | hr
    · subst e
      have : t.flatMap g = [] := List.flatMap_eq_nil_iff.mpr fun r' hr' => h r' (List.mem_cons_of_mem _ hr') fun z => nd.1 (List.mem_map.mpr ⟨r', hr', z⟩)
      rw [this, List.append_nil]
    · have e : g a = [] := h a List.mem_cons_self fun z => nd.1 (List.mem_map.mpr ⟨r, hr, z.symm⟩)
      rw [e, List.nil_append, flat_one nd.2 hr fun r' hr' => h r' (List.mem_cons_of_mem _ hr')]
theorem ir_filter {n : Nat} {v : Int} (h0 : 0 ≤ v) (h1 : v < n) (p : Int → Bool) (hp : ∀ u ∈ ir n, p u = decide (u = v)) : (ir n).filter p = [v] := by
  have e : (ir n).filter p = (ir n).filter fun u => decide (u = v) := List.filter_congr hp
  rw [e]
  clear e hp
  induction n with
  | zero => omega
  | succ n ih =>
    rw [ir_succ, List.filter_append]
    by_cases hv : v = n
    · subst hv
      have e : (ir n).filter (fun u => decide (u = (n : Int))) = [] := List.filter_eq_nil_iff.mpr fun u hu => by
        obtain ⟨k, hk, rfl⟩ := List.mem_map.mp hu
        have := List.mem_range.mp hk
        simp; omega
      rw [e]; simp
    · rw [ih (by omega)]
      have : ¬ ((n : Int) = v) := fun z => hv z.symm
      simp [this]
def seesB (l : LK) (k : FK) : Bool := decide (l.1 = k.1) && decide (atI k.2 l.2.1 = some l.2.2)
/-- k is a fact of the table r -/
def OfT (cs : List CRow) (r : TRow) (k : FK) : Prop := k.1 = r.2.1 ∧ ((∃ c v, r.2.2.2 = [c] ∧ k.2 = [v] ∧ 0 ≤ v ∧ v < sizeI cs c) ∨ ∃ c d v o, r.2.2.2 = [c, d] ∧ k.2 = [v, o] ∧ (0 ≤ v ∧ v < sizeI cs c) ∧ 0 ≤ o ∧ o < sizeI cs d)
def LofT (cs : List CRow) (r : TRow) (l : LK) : Prop := l.1 = r.2.1 ∧ ∃ (s : Nat) (c : Str), r.2.2.2[s]? = some c ∧ l.2.1 = s ∧ 0 ≤ l.2.2 ∧ l.2.2 < sizeI cs c
theorem ir_mem {n : Nat} {v : Int} : v ∈ ir n ↔ 0 ≤ v ∧ v < n := by
  unfold ir
  rw [List.mem_map]
  constructor
  · rintro ⟨k, hk, rfl⟩; have := List.mem_range.mp hk; omega
  · rintro ⟨h0, h1⟩; exact ⟨v.toNat, List.mem_range.mpr (by omega), by omega⟩
theorem factsT_of {cs : List CRow} {r : TRow} {k : FK} (h : k ∈ factsT cs r) : OfT cs r k := by
  obtain ⟨ra, n, qa, ps⟩ := r
  unfold factsT firstN factsUp at h
  dsimp only at h
  split at h
  · rename_i c
    obtain ⟨v, hv, rfl⟩ := List.mem_map.mp h
    rw [ir_mem] at hv
    exact ⟨rfl, .inl ⟨c, v, rfl, rfl, hv.1, by have h2 : v < ((sizeI cs c).toNat : Int) := hv.2; omega⟩⟩
  · rename_i c d
    obtain ⟨v, hv, h⟩ := List.mem_flatMap.mp h
    obtain ⟨o, ho, rfl⟩ := List.mem_map.mp h
    rw [ir_mem] at hv ho
    exact ⟨rfl, .inr ⟨c, d, v, o, rfl, rfl, ⟨hv.1, by have h2 : v < ((sizeI cs c).toNat : Int) := hv.2; omega⟩, ho.1, by have h2 : o < ((sizeI cs d).toNat : Int) := ho.2; omega⟩⟩
  · cases h
theorem looksT_of {cs : List CRow} {r : TRow} {l : LK} (h : l ∈ looksT cs r) : LofT cs r l := by
  obtain ⟨ra, n, qa, ps⟩ := r
  unfold looksT looksUp at h
  obtain ⟨s, hs, h⟩ := List.mem_flatMap.mp h
  obtain ⟨v, hv, rfl⟩ := List.mem_map.mp h
  rw [ir_mem] at hv
  have hs' := List.mem_range.mp hs
  dsimp only at hs' hv
  rw [List.getD_eq_getElem?_getD, List.getElem?_eq_getElem hs'] at hv
  refine ⟨rfl, s, ps[s], List.getElem?_eq_getElem hs', rfl, hv.1, ?_⟩
  have h2 : v < ((sizeI cs ps[s]).toNat : Int) := hv.2
  show v < sizeI cs ps[s]
  omega
theorem ir_flat {β : Type} {n : Nat} {v : Int} {x : β} (h0 : 0 ≤ v) (h1 : v < n) {g : Int → List β} (hg : ∀ u ∈ ir n, g u = if u = v then [x] else []) : (ir n).flatMap g = [x] := by
  induction n with
  | zero => omega
  | succ n ih =>
    rw [ir_succ, List.flatMap_append, List.flatMap_cons, List.flatMap_nil, List.append_nil]
    by_cases hv : v = n
    · have e : (ir n).flatMap g = [] := List.flatMap_eq_nil_iff.mpr fun u hu => by
        rw [hg u (by rw [ir_succ]; exact List.mem_append_left _ hu), if_neg]
        have := (ir_mem.mp hu).2
        omega
      rw [e, hg n (by rw [ir_succ]; simp), if_pos hv.symm]; rfl
    · rw [ih (by omega) (fun u hu => hg u (by rw [ir_succ]; exact List.mem_append_left _ hu)), hg n (by rw [ir_succ]; simp), if_neg (fun z => hv z.symm)]; rfl
theorem name_one {ts : List TRow} (nd : (ts.map (·.2.1)).Nodup) : ∀ {r r' : TRow}, r ∈ ts → r' ∈ ts → r.2.1 = r'.2.1 → r = r' := by
  induction ts with
  | nil => intro r r' h; cases h
  | cons a t ih =>
    intro r r' h h' e
    rw [List.map_cons, List.nodup_cons] at nd
    rcases List.mem_cons.mp h with g | g <;> rcases List.mem_cons.mp h' with g' | g'
    · rw [g, g']
    · rw [g] at e; exact (nd.1 (List.mem_map.mpr ⟨r', g', e.symm⟩)).elim
    · rw [g'] at e; exact (nd.1 (List.mem_map.mpr ⟨r, g, e⟩)).elim
    · exact ih nd.2 g g' e
theorem tabOf_of {ts : List TRow} (nd : (ts.map (·.2.1)).Nodup) {r : TRow} (h : r ∈ ts) : tabOf ts r.2.1 = some r := by
  unfold tabOf
  cases e : ts.find? (fun x => decide (x.2.1 = r.2.1)) with
  | none => exact absurd (List.find?_eq_none.mp e r h) (by simp)
  | some r' =>
    have h1 := List.find?_some e
    rw [name_one nd (List.mem_of_find?_eq_some e) h (by simpa using h1)]
theorem atI_zero {α : Type} {x : α} {xs : List α} : atI (x :: xs) 0 = some x := atI_lt (i := 0) (by decide) (by simp) rfl
theorem atI_one {α : Type} {x y : α} {xs : List α} : atI (x :: y :: xs) 1 = some y := atI_lt (i := 1) (by decide) (by simp; omega) rfl
theorem looks_filter {cs : List CRow} {ts : List TRow} (nd : (ts.map (·.2.1)).Nodup) {r : TRow} (hr : r ∈ ts) {k : FK} (hk : OfT cs r k) : (ts.flatMap (looksT cs)).filter (fun l => seesB l k) = sidesOf k := by
  rw [List.filter_flatMap, flat_one nd hr]
  · obtain ⟨ra, n, qa, ps⟩ := r
    obtain ⟨kn, kr⟩ := k
    obtain ⟨rfl, ⟨c, v, hp, hv, h0, h1⟩ | ⟨c, d, v, o, hp, hv, ⟨h0, h1⟩, h2, h3⟩⟩ := hk
    · dsimp only at hp hv
      subst hp hv
      show ((ir (sizeI cs c).toNat).map (fun u => ((kn, (0 : Nat), u) : LK)) ++ []).filter _ = [(kn, 0, v)]
      rw [List.append_nil, List.filter_map, ir_filter h0 (by omega) _ (fun u _ => ?_)]
      · rfl
      · show (decide (kn = kn) && decide (atI [v] (0 : Int) = some u)) = _
        rw [atI_zero]
        by_cases e : u = v
        · simp [e]
        · simp [e]; exact fun z => e z.symm
    · dsimp only at hp hv
      subst hp hv
      show ((ir (sizeI cs c).toNat).map (fun u => ((kn, (0 : Nat), u) : LK)) ++ ((ir (sizeI cs d).toNat).map (fun u => ((kn, (1 : Nat), u) : LK)) ++ [])).filter _ = [(kn, 0, v), (kn, 1, o)]
      rw [List.append_nil, List.filter_append, List.filter_map, List.filter_map, ir_filter h0 (by omega) _ (fun u _ => ?_), ir_filter h2 (by omega) _ (fun u _ => ?_)]
      · rfl
      · show (decide (kn = kn) && decide (atI [v, o] (1 : Int) = some u)) = _
        rw [atI_one]
        by_cases e : u = o
        · simp [e]
        · simp [e]; exact fun z => e z.symm
      · show (decide (kn = kn) && decide (atI [v, o] (0 : Int) = some u)) = _
        rw [atI_zero]
        by_cases e : u = v
        · simp [e]
        · simp [e]; exact fun z => e z.symm
  · intro r' hr' hn
    refine List.filter_eq_nil_iff.mpr fun l hl => ?_
    have := (looksT_of hl).1
    unfold seesB
    rw [decide_eq_false (fun z => hn (by rw [← this, z, hk.1]))]
    simp
theorem due_eq {cs : List CRow} {ts : List TRow} (nd : (ts.map (·.2.1)).Nodup) {r : TRow} (hr : r ∈ ts) {k : FK} (hk : OfT cs r k) : (sortL (ts.flatMap (looksT cs))).filter (fun l => seesB l k) = sidesOf k := by
  have p : ((sortL (ts.flatMap (looksT cs))).filter (fun l => seesB l k)).Perm (sidesOf k) := by
    rw [← looks_filter nd hr hk]
    exact (sortL_perm _).filter _
  refine sorted_eq (fun a b => lk_inj) p ((sortL_sorted _).filter _) ?_
  obtain ⟨kn, kr⟩ := k
  obtain ⟨rfl, ⟨c, v, hp, hv, _⟩ | ⟨c, d, v, o, hp, hv, _⟩⟩ := hk
  · dsimp only at hv
    subst hv
    exact List.pairwise_singleton _ _
  · dsimp only at hv
    subst hv
    show List.Pairwise _ [(_, 0, v), (_, 1, o)]
    refine List.pairwise_cons.mpr ⟨fun x hx => ?_, List.pairwise_singleton _ _⟩
    rw [List.mem_singleton] at hx; subst hx
    exact lk_le (by decide)
theorem sides_len {cs : List CRow} {r : TRow} {k : FK} (hk : OfT cs r k) : (sidesOf k).length = k.2.length := by
  unfold sidesOf sidesUp
  rw [List.length_map, List.length_zipIdx, List.take_length]
theorem own_at {cs : List CRow} {ts : List TRow} (nd : (ts.map (·.2.1)).Nodup) {r r' : TRow} (hr : r ∈ ts) (hr' : r' ∈ ts) {l : LK} {k : FK} (hl : LofT cs r' l) (hk : OfT cs r k) (e : l.1 = k.1) : ∃ v, atI k.2 l.2.1 = some v := by
  have er : r = r' := name_one nd hr hr' (by rw [← hk.1, ← hl.1, e])
  subst er
  obtain ⟨_, s, c, hs, h1, _⟩ := hl
  have hlen : r.2.2.2.length = k.2.length := by
    obtain ⟨_, ⟨c, v, hp, hv, _⟩ | ⟨c, d, v, o, hp, hv, _⟩⟩ := hk <;> rw [hp, hv] <;> rfl
  have hlt := (List.getElem?_eq_some_iff.mp hs).1
  refine ⟨k.2[s], ?_⟩
  rw [h1]
  exact atI_lt (by omega) (by omega) (by rw [show ((s : Int)).toNat = s by omega]; exact List.getElem?_eq_getElem (by omega))
theorem isFact_of {cs : List CRow} {ts : List TRow} (nd : (ts.map (·.2.1)).Nodup) {r : TRow} (hr : r ∈ ts) {H : Hp} {x : FRow} (hx : FAt H x) (hk : OfT cs r x.2.2) : isFactV H cs ts (fv x) = true := by
  unfold isFactV fv
  rw [tupV_at hx.1]
  dsimp only
  rw [hk.1, tabOf_of nd hr]
  dsimp only
  rw [tupV_at hx.2]
  dsimp only
  unfold spanI
  obtain ⟨_, ⟨c, v, hp, hv, h0, h1⟩ | ⟨c, d, v, o, hp, hv, ⟨h0, h1⟩, h2, h3⟩⟩ := hk
  · rw [hp, hv]; simp [belowV, h0, h1]
  · rw [hp, hv]; simp [belowV, h0, h1, h2, h3]
theorem deep_f {H : Hp} {x : FRow} (hx : FAt H x) : Deep H (fv x) := by
  refine ⟨⟨_, .tup hx.1⟩, fun xs e y hy => ?_⟩
  rw [show tupV H (fv x) = _ from tupV_at hx.1] at e
  cases e
  simp only [List.mem_cons, List.not_mem_nil, or_false] at hy
  rcases hy with rfl | rfl
  · exact ⟨⟨_, .str _⟩, fun ys e => nomatch e⟩
  · refine ⟨⟨_, .tup hx.2⟩, fun ys e z hz => ?_⟩
    rw [tupV_at hx.2] at e; cases e
    obtain ⟨i, _, rfl⟩ := List.mem_map.mp hz
    exact ⟨_, .int i⟩
theorem crossed {cs : List CRow} {ts : List TRow} (nd : (ts.map (·.2.1)).Nodup) {l1 l2 : LK} {r1 r2 : TRow} (two : ∀ r ∈ ts, r.2.2.2.length ≤ 2) (h1 : r1 ∈ ts) (h2 : r2 ∈ ts) (k1 : LofT cs r1 l1) (k2 : LofT cs r2 l2) (e : l2.1 = l1.1) (lt : l1.2.1 < l2.2.1) :
    (((sortF (ts.flatMap (factsT cs))).filter fun k => seesB l1 k).filter fun k => seesB l2 k).length = 1 := by
  have er : r2 = r1 := name_one nd h2 h1 (by rw [← k1.1, ← k2.1, e])
  subst er
  obtain ⟨n1, s1, c1, p1, a1, b1, d1⟩ := k1
  obtain ⟨n2, s2, c2, p2, a2, b2, d2⟩ := k2
  obtain ⟨la, lb, lc⟩ := l1
  obtain ⟨ma, mb, mc⟩ := l2
  dsimp only at n1 n2 a1 a2 b1 b2 d1 d2 e lt
  have t2 := two _ h2
  have q2 := (List.getElem?_eq_some_iff.mp p2).1
  have es1 : s1 = 0 := by omega
  have es2 : s2 = 1 := by omega
  subst es1 es2 a1 a2
  obtain ⟨ra, n, qa, ps⟩ := r2
  dsimp only at p1 p2 t2 n1 n2
  obtain rfl : ps = [c1, c2] := by
    rcases ps with _ | ⟨x, _ | ⟨y, _ | ⟨z, w⟩⟩⟩
    · cases p1
    · cases p2
    · cases p1; cases p2; rfl
    · simp at t2
  subst n1 n2
  have p : (((sortF (ts.flatMap (factsT cs))).filter fun k => seesB (ma, (0 : Nat), lc) k).filter fun k => seesB (ma, (1 : Nat), mc) k).Perm (((ts.flatMap (factsT cs)).filter fun k => seesB (ma, (0 : Nat), lc) k).filter fun k => seesB (ma, (1 : Nat), mc) k) := ((sortF_perm _).filter _).filter _
  rw [p.length_eq, List.filter_filter, List.filter_flatMap, flat_one nd h2]
  · show (((ir (sizeI cs c1).toNat).flatMap fun v => (ir (sizeI cs c2).toNat).map fun o => ((ma, [v, o]) : FK)).filter _).length = 1
    rw [List.filter_flatMap, ir_flat (v := lc) (x := (ma, [lc, mc])) b1 (by omega) (fun u hu => ?_)]
    · rfl
    · rw [List.filter_map]
      by_cases hu' : u = lc
      · subst hu'
        rw [if_pos rfl, ir_filter b2 (by omega) _ (fun o _ => ?_)]
        · rfl
        · show ((decide (ma = ma) && decide (atI [u, o] (1 : Int) = some mc)) && (decide (ma = ma) && decide (atI [u, o] (0 : Int) = some u))) = _
          rw [atI_one, atI_zero]
          simp
      · rw [if_neg hu']
        have : (ir (sizeI cs c2).toNat).filter ((fun a => seesB (ma, ((1 : Nat) : Int), mc) a && seesB (ma, ((0 : Nat) : Int), lc) a) ∘ fun o => (ma, [u, o])) = [] := List.filter_eq_nil_iff.mpr fun o _ => by
          show ¬ ((decide (ma = ma) && decide (atI [u, o] (1 : Int) = some mc)) && (decide (ma = ma) && decide (atI [u, o] (0 : Int) = some lc))) = true
          rw [atI_one, atI_zero]
          simp [hu']
        rw [this]; rfl
  · intro r' hr' hn
    refine List.filter_eq_nil_iff.mpr fun k hk => ?_
    have := (factsT_of hk).1
    unfold seesB
    rw [decide_eq_false (fun z => hn (by rw [← this, ← z]))]
    simp
end As

/-! ## C6 -/
namespace As
open PySem PySem.Spec PyProof.Rows L2
section
variable {P : Program} {w : World} {K : PySem.W.Frag} {mg : Str → Option Value} {base : Heap}
theorem sc_lsees : FnScope ["look", "fact"] ["look", "fact"] (defScope s_lsees) := ⟨rfl, rfl, rfl, by decide +kernel, rfl, by decide +kernel, by decide +kernel⟩
theorem ok_lsees {f : Addr} {fd : FuncData} (D : Df K mg "_law_sees" s_lsees ["look", "fact"] f fd) (T : Bi mg) : FnOk P w K mg base CX0 1 f fd ["look", "fact"] spSees := by
  refine D.F.ok sc_lsees (fun vs H Q E h => ?_) (fun cdv A outer s H vs Q E hr h => ?_)
  · obtain ⟨l, r, rfl, _⟩ := h; rfl
  · obtain ⟨l, r, rfl, hl, hf, own, q⟩ := h
    refine ⟨_, pss_one (ps_ret (pe_and (pe_cmpR op_eq (pe_ix ix_tup (pv 0) pe_int (fun _ _ => rfl)) (pe_ix ix_tup (pv 1) pe_int (fun _ _ => rfl)) (nomark _)) (pe_one (pe_cmpR op_eq (pe_ix ix_tup (pe_ix ix_tup (pv 1) pe_int (fun _ _ => rfl)) (pe_ix ix_tup (pv 0) pe_int (fun _ _ => rfl)) (fun _ _ => rfl)) (pe_ix ix_tup (pv 0) pe_int (fun _ _ => rfl)) (nomark _))))), ?_⟩
    refine ⟨_, rfl, l.1, _, 0, .str l.2.1, rfl, rfl, tof hl, rfl, _, rfl, r.1, _, 0, .str r.2.2.1, rfl, rfl, tof hf.1, rfl, rfl, _, rfl, ?_⟩
    by_cases hn : l.2.1 = r.2.2.1
    · obtain ⟨v, hv⟩ := own hn
      rw [decide_eq_true hn, Bool.true_and, hv] at q
      rw [show decide (V.str l.2.1 = V.str r.2.2.1) = true from decide_eq_true (by rw [hn])]
      refine iteT ⟨_, rfl, r.1, _, 1, .ref r.2.1, rfl, rfl, tof hf.1, rfl, _, rfl, l.1, _, 1, .int l.2.2.1, rfl, rfl, tof hl, rfl, r.2.1, _, l.2.2.1, .int v, rfl, rfl, tof hf.2, atI_map hv, _, rfl, l.1, _, 2, .int l.2.2.2, rfl, rfl, tof hl, rfl, rfl, ?_⟩
      have e : decide (V.int v = V.int l.2.2.2) = decide (some v = some l.2.2.2) := by
        by_cases h : v = l.2.2.2
        · rw [h]; simp
        · rw [decide_eq_false (fun z => h (by injection z)), decide_eq_false (fun z => h (by injection z))]
      rw [e]
      exact q
    · rw [decide_eq_false hn, Bool.false_and] at q
      rw [show decide (V.str l.2.1 = V.str r.2.2.1) = false from decide_eq_false fun z => hn (by injection z)]
      exact iteF q
theorem getD_map {α : Type} {f : α → V} {xs : List α} {i : Nat} {x : α} (h : xs[i]? = some x) : (xs.map f).getD i .non = f x := by
  rw [List.getD_eq_getElem?_getD, List.getElem?_map, h]; rfl
theorem take_filter {α : Type} {p : α → Bool} {xs : List α} {i : Nat} {x : α} (h : xs[i]? = some x) : (xs.take (i + 1)).filter p = (xs.take i).filter p ++ (if p x = true then [x] else []) := by
  rw [List.take_succ, h, List.filter_append]
  show _ ++ List.filter p [x] = _
  cases e : p x <;> simp [e]
def acrossB (l o : LRow) : Bool := decide (o.2.1 = l.2.1) && decide (l.2.2.1 < o.2.2.1)
def spCrossed : Sp := fun vs H Q _ => ∃ (a b : Addr) (ls : List LRow) (fs : List FRow), vs = [.ref a, .ref b] ∧ H a = some (.lst (ls.map lv)) ∧ H b = some (.lst (fs.map fv)) ∧ (∀ l ∈ ls, LAt H l) ∧ (∀ f ∈ fs, FAt H f) ∧ ls.length ≤ 1000 ∧ fs.length ≤ 1000 ∧
  (∀ l ∈ ls, ∀ f ∈ fs, l.2.1 = f.2.2.1 → ∃ v, atI f.2.2.2 l.2.2.1 = some v) ∧ (∀ l ∈ ls, ∀ o ∈ ls, acrossB l o = true → ((fs.filter fun f => seesB l.2 f.2.2).filter fun f => seesB o.2 f.2.2).length = 1) ∧ ∀ H', Same H H' → Q (.bl true) H'
abbrev nCrossed : List Str := ["each", "every", "look", "others", "other", "common", "fact"]
theorem sc_crossed : FnScope nCrossed ["each", "every"] (defScope s_crossed) := ⟨rfl, rfl, rfl, by decide +kernel, rfl, by decide +kernel, by decide +kernel⟩
theorem ok_crossed {f fs' : Addr} {fd ds : FuncData} (D : Df K mg "_law_crossed" s_crossed ["each", "every"] f fd) (T : Bi mg) (Ds : Df K mg "sees" s_sees ["look", "fact"] fs' ds) (Gs : FnOk P w K mg base CX0 1 fs' ds ["look", "fact"] spSees) : FnOk P w K mg base CX0 2 f fd ["each", "every"] spCrossed := by
  refine D.F.ok sc_crossed (fun vs H Q E h => ?_) (fun cdv A outer s H vs Q E hr h => ?_)
  · obtain ⟨a, b, ls, fs, rfl, _⟩ := h; rfl
  · obtain ⟨a, b, ls, fs, rfl, ha, hb, la, fa, ll, fl, own, cr, q⟩ := h
    refine ⟨_, pss_cons (ps_for PassesOwn.never rfl (pi_list (pv 0)) (pg_name (i := 2) sc_crossed.nd rfl (Or.inr rfl))
        (pss_cons (ps_setLc (i := 3) (own := [("other", 4)]) (g := gName 4) (tt := tAnd (tTest (tOp rEq (tOp (rIxT K) (tVar 4) (tC (.int 0))) (tOp (rIxT K) (tVar 2) (tC (.int 0))))) (tTest (tOp (rI0 fun i j => V.bl (decide (j < i))) (tOp (rIxT K) (tVar 4) (tC (.int 1))) (tOp (rIxT K) (tVar 2) (tC (.int 1)))))) rfl sc_crossed.nd rfl rfl (sw_true rfl rfl rfl (by decide +kernel)) (pi_list (pv 0))
            (blkOk_by (N := nCrossed) (sc := defScope s_crossed) (by decide +kernel)) (fun _ _ _ _ _ => pg_name (i := 4) sc_crossed.nd rfl (Or.inl rfl))
            (fun _ _ _ _ _ => pts_one (PW.pt (pw_and (pt_cmpR op_eq (pe_ix (ixT K) (pv 4) pe_int (fun _ _ => rfl)) (pe_ix (ixT K) (pv 2) pe_int (fun _ _ => rfl)) (nomark _)) (pw_and1 (pt_cmpR op_gt (pe_ix (ixT K) (pv 4) pe_int (fun _ _ => rfl)) (pe_ix (ixT K) (pv 2) pe_int (fun _ _ => rfl)) (nomark _))))))
            (fun _ _ _ _ _ => pv 4))
        (pss_one (ps_for PassesOwn.never rfl (pi_list (pv 3)) (pg_name (i := 4) sc_crossed.nd rfl (Or.inr rfl))
          (pss_cons (ps_setLc (i := 5) (own := [("fact", 6)]) (g := gName 6) (tt := tB (tCall spSees [] E0 (tCons (tVar 2) (tCons (tVar 6) tNil)))) rfl sc_crossed.nd rfl rfl (sw_true rfl rfl rfl (by decide +kernel)) (pi_list (pv 1))
            (blkOk_by (N := nCrossed) (sc := defScope s_crossed) (by decide +kernel)) (fun _ _ _ _ _ => pg_name (i := 6) sc_crossed.nd rfl (Or.inl rfl))
            (fun _ _ _ _ _ => pts_one (pt_val (pcall Ds Gs hr (pa_cons (pv 2) (pa_cons (pv 6) pa_nil))))) (fun _ _ _ _ _ => pv 6))
          (pss_one (ps_if (pt_cmpR op_ne (pe_callB call_len_seq (by rfl) T.len PySem.boot_len (pa_cons (pe_lc (own := [("fact", 6)]) (g := gName 6) (tt := tB (tCall spSees [] E0 (tCons (tVar 4) (tCons (tVar 6) tNil)))) rfl sc_crossed.nd (pi_list (pv 5))
            (blkOk_by (N := nCrossed) (sc := defScope s_crossed) (by decide +kernel)) (fun _ _ _ _ _ => pg_name (i := 6) sc_crossed.nd rfl (Or.inl rfl))
            (fun _ _ _ _ _ => pts_one (pt_val (pcall Ds Gs hr (pa_cons (pv 4) (pa_cons (pv 6) pa_nil))))) (fun _ _ _ _ _ => pv 6)) pa_nil)) pe_int (nomark _)) (pss_one (ps_ret pe_bl)) pss_nil)))))))
      (pss_one (ps_ret pe_bl)), ?_⟩
    have lln : (ls.map lv).length = ls.length := List.length_map _
    have fln : (fs.map fv).length = fs.length := List.length_map _
    refine ⟨_, rfl, a, rfl, ⟨_, lof ha⟩, for_list (K := K) (a := a) (xs := ls.map lv) (fun i σ H' => ∃ x2 x3 x4 x5 x6, σ = [some (.ref a), some (.ref b), x2, x3, x4, x5, x6] ∧ Same H H') ⟨none, none, none, none, none, rfl, Same.refl H⟩ (fun i σ H' _ ⟨_, _, _, _, _, _, s'⟩ => lof (s' _ _ ha)) ?_ ?_⟩
    · rintro i x σ H1 hx ⟨x2, x3, x4, x5, x6, rfl, s1⟩
      rw [List.getElem?_map] at hx
      obtain ⟨l, hl, rfl⟩ := Option.map_eq_some_iff.mp hx
      have lm := List.mem_of_getElem? hl
      refine ⟨_, rfl, a, rfl, ⟨_, lof (s1 _ _ ha)⟩, fun D1 n1 => ?_⟩
      refine lc_new (H1 := H1) (walk_at (K := K) (a := a) (xs := ls.map lv) .non) n1 (fun H2 s2 => lof ((s1.trans s2) _ _ ha)) (by rw [lln]; exact Nat.lt_of_le_of_lt ll (by decide)) (fun i acc _ => acc = ((ls.take i).filter (acrossB l)).map lv) rfl (fun _ _ _ _ _ h => h)
        (fun j H2 acc Q1 Q2 hj s2 p k1 k2 => ?_) (fun H2 acc s2 hD1 p => ?_)
      · rw [lln] at hj
        obtain ⟨o, ho⟩ : ∃ o, ls[j]? = some o := ⟨_, List.getElem?_eq_getElem hj⟩
        have om := List.mem_of_getElem? ho
        have lo := (s1.trans s2) _ _ (la o om)
        have l1 := (s1.trans s2) _ _ (la l lm)
        rw [getD_map ho]
        rw [take_filter ho] at k1 k2
        refine ⟨rfl, _, rfl, o.1, _, 0, .str o.2.1, rfl, rfl, tof lo, rfl, _, rfl, l.1, _, 0, .str l.2.1, rfl, rfl, tof l1, rfl, rfl, _, rfl, ?_⟩
        by_cases en : o.2.1 = l.2.1
        case neg =>
          rw [show decide (V.str o.2.1 = V.str l.2.1) = false from decide_eq_false fun z => en (by injection z)]
          have e : acrossB l o = false := by unfold acrossB; rw [decide_eq_false en]; rfl
          rw [e] at k2
          refine iteF (iteF (k2 _ (Same.refl _) ?_))
          rw [p]; simp
        rw [show decide (V.str o.2.1 = V.str l.2.1) = true from decide_eq_true (by rw [en])]
        refine iteT ⟨_, rfl, o.1, _, 1, .int o.2.2.1, rfl, rfl, tof lo, rfl, _, rfl, l.1, _, 1, .int l.2.2.1, rfl, rfl, tof l1, rfl, _, _, rfl, rfl, _, rfl, ?_⟩
        by_cases es : l.2.2.1 < o.2.2.1
        · have e : acrossB l o = true := by unfold acrossB; rw [decide_eq_true en, decide_eq_true es]; rfl
          rw [decide_eq_true es]
          rw [e] at k1
          refine iteT ⟨_, rfl, k1 _ _ (Same.refl _) ?_⟩
          rw [p, List.map_append]; rfl
        · have e : acrossB l o = false := by unfold acrossB; rw [decide_eq_true en, decide_eq_false es]; rfl
          rw [decide_eq_false es]
          rw [e] at k2
          refine iteF (k2 _ (Same.refl _) ?_)
          rw [p]; simp
      rw [lln, List.take_length] at p
      subst p
      have s02 := s1.trans s2
      refine ⟨_, rfl, D1, rfl, ⟨_, lof hD1⟩, for_list (K := K) (a := D1) (xs := (ls.filter (acrossB l)).map lv) (fun i σ H' => ∃ x4 x5 x6, σ = [some (.ref a), some (.ref b), some (lv l), some (.ref D1), x4, x5, x6] ∧ Same H2 H') ⟨x4, x5, x6, rfl, Same.refl H2⟩ (fun i σ H' _ ⟨_, _, _, _, s'⟩ => lof (s' _ _ hD1)) ?_ ?_⟩
      · rintro i2 x σ H3 hx2 ⟨x4, x5, x6, rfl, s3⟩
        rw [List.getElem?_map] at hx2
        obtain ⟨o, ho, rfl⟩ := Option.map_eq_some_iff.mp hx2
        have om' := List.mem_of_getElem? ho
        rw [List.mem_filter] at om'
        obtain ⟨om, ac⟩ := om'
        have s03 := s02.trans s3
        refine ⟨_, rfl, b, rfl, ⟨_, lof (s03 _ _ hb)⟩, fun D2 n2 => ?_⟩
        refine lc_new (H1 := H3) (walk_at (K := K) (a := b) (xs := fs.map fv) .non) n2 (fun H4 s4 => lof ((s03.trans s4) _ _ hb)) (by rw [fln]; exact Nat.lt_of_le_of_lt fl (by decide)) (fun i acc _ => acc = ((fs.take i).filter fun f => seesB l.2 f.2.2).map fv) rfl (fun _ _ _ _ _ h => h)
          (fun j H4 acc Q1 Q2 hj s4 p k1 k2 => ?_) (fun H4 acc s4 hD2 p => ?_)
        · rw [fln] at hj
          obtain ⟨g, hg⟩ : ∃ g, fs[j]? = some g := ⟨_, List.getElem?_eq_getElem hj⟩
          have gm := List.mem_of_getElem? hg
          rw [getD_map hg]
          rw [take_filter (p := fun f : FRow => seesB l.2 f.2.2) hg] at k1 k2
          refine ⟨rfl, _, rfl, _, rfl, l, g, rfl, (s03.trans s4) _ _ (la l lm), (fa g gm).imm (same_imm (s03.trans s4)), own l lm g gm, ?_⟩
          show ∃ k, V.bl (seesB l.2 g.2.2) = .bl k ∧ _
          refine ⟨_, rfl, ?_⟩
          cases e : seesB l.2 g.2.2 with
          | true =>
            rw [e] at k1
            refine iteT ⟨_, rfl, k1 _ _ (Same.refl _) ?_⟩
            rw [p, List.map_append]; rfl
          | false =>
            rw [e] at k2
            refine iteF (k2 _ (Same.refl _) ?_)
            rw [p]; simp
        rw [fln, List.take_length] at p
        subst p
        have s04 := s03.trans s4
        obtain ⟨f2, ef2⟩ : ∃ f2, fs.filter (fun f => seesB l.2 f.2.2) = f2 := ⟨_, rfl⟩
        have f2m : ∀ g ∈ f2, g ∈ fs := fun g hg => by rw [← ef2] at hg; exact (List.mem_filter.mp hg).1
        have f2l : f2.length ≤ 1000 := by rw [← ef2]; exact Nat.le_trans (List.length_filter_le _ _) fl
        have f2n : (f2.map fv).length = f2.length := List.length_map _
        have one := cr l lm o om ac
        rw [ef2] at hD2 one
        refine ⟨_, rfl, D2, rfl, ⟨_, lof hD2⟩, fun D3 n3 => ?_⟩
        refine lc_new (H1 := H4) (walk_at (K := K) (a := D2) (xs := f2.map fv) .non) n3 (fun H5 s5 => lof (s5 _ _ hD2)) (by rw [f2n]; exact Nat.lt_of_le_of_lt f2l (by decide)) (fun i acc _ => acc = ((f2.take i).filter fun f => seesB o.2 f.2.2).map fv) rfl (fun _ _ _ _ _ h => h)
          (fun j H5 acc Q1 Q2 hj s5 p k1 k2 => ?_) (fun H5 acc s5 hD3 p => ?_)
        · rw [f2n] at hj
          obtain ⟨g, hg⟩ : ∃ g, f2[j]? = some g := ⟨_, List.getElem?_eq_getElem hj⟩
          have gm := f2m g (List.mem_of_getElem? hg)
          rw [getD_map hg]
          rw [take_filter (p := fun f : FRow => seesB o.2 f.2.2) hg] at k1 k2
          refine ⟨rfl, _, rfl, _, rfl, o, g, rfl, (s04.trans s5) _ _ (la o om), (fa g gm).imm (same_imm (s04.trans s5)), own o om g gm, ?_⟩
          show ∃ k, V.bl (seesB o.2 g.2.2) = .bl k ∧ _
          refine ⟨_, rfl, ?_⟩
          cases e : seesB o.2 g.2.2 with
          | true =>
            rw [e] at k1
            refine iteT ⟨_, rfl, k1 _ _ (Same.refl _) ?_⟩
            rw [p, List.map_append]; rfl
          | false =>
            rw [e] at k2
            refine iteF (k2 _ (Same.refl _) ?_)
            rw [p]; simp
        rw [f2n, List.take_length] at p
        subst p
        refine ⟨D3, _, rfl, .inl (lof hD3), rfl, _, rfl, ?_⟩
        rw [List.length_map, one]
        exact iteF ⟨_, _, _, rfl, s3.trans (s4.trans s5)⟩
      · rintro σ H3 ⟨x4, x5, x6, rfl, s3⟩
        exact ⟨_, _, _, _, _, rfl, s02.trans s3⟩
    · rintro σ H1 ⟨x2, x3, x4, x5, x6, rfl, s1⟩
      exact q _ s1
end
end As

/-! ## A14 -/
namespace As
open PySem PySem.Spec PyProof.Rows L2
/-- isinstance(e, (A, B, ..)), e an error that is known -/
def rIsXT (K : PySem.W.Frag) : List V → Hp → VK → Prop := fun xs H Q => ∃ (a D tp : Addr) (cs : List V) (us : List Value) (b : Bool), xs = [.ref a, .ref tp] ∧ H tp = some (.tup cs) ∧ Paired ClsV cs us ∧ H a = some (ExcO a (.ref D) none) ∧ ExcC K D ∧ PySem.W.kitAny K (.ref D) us = some b ∧ Q (.bl b) H
theorem call_isXT {X : Cx} : CallR X (.builtin "isinstance") (rIsXT X.K) := by
  rintro pins s σ H xs us Q I r ⟨a, D, tp, cs, ws, b, rfl, hT, k, ha, C, fits, q⟩
  obtain ⟨u1, u2, rfl, r1, r2⟩ := vals2 r
  cases (show u1 = Value.ref a from r1)
  cases (show u2 = Value.ref tp from r2)
  obtain ⟨_, its, rv, ⟨kc, kd, kt, ks⟩, at1, c1, n, d1⟩ := (show ObjOk X.prog X.w H s.heap tp (.tup cs) from I.hok tp _ hT)
  cases ClsV.all k rv
  cases (show kc = _ from c1)
  cases (show kt = _ from d1)
  obtain ⟨oe, vs, at2, z, f⟩ := (I.hok a _ ha).1
  exact PySem.W.kia_tup (PySem.W.handS_kitx_exc C.hg C.hk C.hs C.hd C.ha C.hn C.ht C.hm) I.kIn (inst_at at2 z f) at1 fits (fun z => nomatch z) fun tk => ⟨.bl b, H, I.tok tk, rfl, q⟩
theorem dp_bools {K : PySem.W.Frag} {H : Hp} : ∀ {bs : List Bool}, DpAll K H (bs.map V.bl) (bs.map .bool)
  | [] => .nil
  | b :: _ => .cons (.bl b) dp_bools
theorem bools_all : ∀ {bs : List Bool}, (bs.map PyData.bool).all Shape.bool.has = true
  | [] => rfl
  | b :: bs => by rw [List.map_cons, List.all_cons, bools_all]; rfl
theorem count_bools : ∀ {bs : List Bool}, countIn (.bool true) (bs.map PyData.bool) = (bs.count true : Nat)
  | [] => rfl
  | b :: bs => by
    rw [List.map_cons, countIn, count_bools, List.count_cons]
    cases b <;> simp [same] <;> omega
/-- xs.count(True), xs a list of bools -/
def rCntB (K : PySem.W.Frag) : V → List V → Hp → VK → Prop := fun x xs H Q => ∃ (p : Addr) (bs : List Bool), x = .ref p ∧ xs = [.bl true] ∧ SqL K H p (bs.map V.bl) ∧ Q (.int (bs.count true : Nat)) H
theorem mt_countB {X : Cx} : MtR X "list.count" (rCntB X.K) := by
  intro pins s σ H x xs v us Q I rx rxs h
  obtain ⟨p, bs, rfl, rfl, hl, q⟩ := h
  cases rx
  obtain ⟨u, rfl, ru⟩ := rxs.one
  cases ru
  obtain ⟨its, rv, pl, hz⟩ := I.list hl
  obtain ⟨as, ra⟩ := Dp.readsAll I (bs.map .bool) (bs.map V.bl) its dp_bools rv
  refine count_list_bools pl.isList ra bools_all ⟨.int (bs.count true : Nat), H, I.tok _, ⟨_, by rw [count_bools]⟩, q⟩
end As

/-! ## C7 -/
set_option maxHeartbeats 1000000
namespace As
open PySem PySem.Spec PyProof.Rows L2 LamX
theorem pe_dead {X : Cx} {e : Expr} : PE X e (fun _ _ _ => False) := ⟨fun _ _ _ _ _ _ h => h.elim⟩
theorem takes_len {X : Cx} {W : WX} (t : Takes X W) : Takes X (fun cls d σ H => σ.length = X.N.length → W cls d σ H) := fun u s' ⟨a, B, sI, pins, σ, H, cls, d, e, I, nb, up, sky, na, os, ag, w⟩ =>
  t u s' ⟨a, B, sI, pins, σ, H, cls, d, e, I, nb, up, sky, na, os, ag, w I.len⟩
/-- the error classes, and which of them D is: the one of place j -/
structure SaidF (K : PySem.W.Frag) (mg : Str → Option Value) (c : Nat → Addr) (A D : Addr) (j : Nat) : Prop where
  gA : mg "AskError" = some (.ref A)
  eA : PySem.W.exmOne K (.ref D) (.ref A) = some true
  ex : ExcC K D
  v : PySem.W.kitOne K (.ref D) (.type "ValueError") = some true
  g0 : mg "BadPlan" = some (.ref (c 0))
  k0 : PySem.W.kitOne K (.ref D) (.ref (c 0)) = some (decide (j = 0))
  g1 : mg "BadFact" = some (.ref (c 1))
  k1 : PySem.W.kitOne K (.ref D) (.ref (c 1)) = some (decide (j = 1))
  g2 : mg "BadLook" = some (.ref (c 2))
  k2 : PySem.W.kitOne K (.ref D) (.ref (c 2)) = some (decide (j = 2))
  g3 : mg "BadStore" = some (.ref (c 3))
  k3 : PySem.W.kitOne K (.ref D) (.ref (c 3)) = some (decide (j = 3))
  g4 : mg "BadAsk" = some (.ref (c 4))
  k4 : PySem.W.kitOne K (.ref D) (.ref (c 4)) = some (decide (j = 4))
  g5 : mg "BadPrices" = some (.ref (c 5))
  k5 : PySem.W.kitOne K (.ref D) (.ref (c 5)) = some (decide (j = 5))
  g6 : mg "BadDeed" = some (.ref (c 6))
  k6 : PySem.W.kitOne K (.ref D) (.ref (c 6)) = some (decide (j = 6))
  g7 : mg "BadStory" = some (.ref (c 7))
  k7 : PySem.W.kitOne K (.ref D) (.ref (c 7)) = some (decide (j = 7))
  g8 : mg "NoBuyer" = some (.ref (c 8))
  k8 : PySem.W.kitOne K (.ref D) (.ref (c 8)) = some (decide (j = 8))
  g9 : mg "NotForSale" = some (.ref (c 9))
  k9 : PySem.W.kitOne K (.ref D) (.ref (c 9)) = some (decide (j = 9))
  g10 : mg "TooMany" = some (.ref (c 10))
  k10 : PySem.W.kitOne K (.ref D) (.ref (c 10)) = some (decide (j = 10))
  g11 : mg "BadAnswers" = some (.ref (c 11))
  k11 : PySem.W.kitOne K (.ref D) (.ref (c 11)) = some (decide (j = 11))
  g12 : mg "BadText" = some (.ref (c 12))
  k12 : PySem.W.kitOne K (.ref D) (.ref (c 12)) = some (decide (j = 12))
  g13 : mg "Contradiction" = some (.ref (c 13))
  k13 : PySem.W.kitOne K (.ref D) (.ref (c 13)) = some (decide (j = 13))
section
variable {X : Cx}
abbrev nSaid : List Str := ["work", "caught", "e", "flags", "words", "word"]
theorem sc_said : FnScope nSaid ["work"] (defScope s_said) := ⟨rfl, rfl, rfl, by decide +kernel, rfl, by decide +kernel, by decide +kernel⟩
/-- the lambda raises D: the answer is the list of its word -/
def TTsaid (D : Addr) (z : Str) : (XK → Hp → VK → Prop) → Hp → VK → Prop := fun tl H Q =>
  ∀ R : VK, (∀ v H', (∀ p H'', Same H' H'' → H'' p = some (.lst []) → Q (.ref p) H'') → R v H') → tl (fun cls d H' => cls = .ref D ∧ d = none ∧ ∀ p H'', Same H' H'' → H'' p = some (.lst [.str z]) → Q (.ref p) H'') H R
theorem said_gives {c : Nat → Addr} {CA D g : Addr} {cdg : Value} {q : Str} (T : Bi X.mg) (ve : X.mg "ValueError" = none) (S : SaidF X.K X.mg c CA D 1) (h0 : ∀ f : Addr, (L2.start nSaid [V.ref f])[0]? = some (some (V.ref f))) :
    GivesTo X nSaid "_law_said" (defScope s_said) g cdg (defBody s_said) "work" q (TTsaid D "fact") := by
  intro f c' s H Q tl act hc h
  refine ⟨_, pss_cons (ps_set (i := 1) sc_said.nd rfl (Or.inl rfl) pe_non)
    (pss_cons (ps_try_hold (i := 2) (c := .ref CA)
      (tb := fun W D σ H => ∃ Ech : XK, (∀ cls d σ' H', σ'.length = 6 → Ech cls d H' → W cls d σ' H') ∧ σ[0]? = some (some (.ref f)) ∧ H c' = some (CodeO c' q) ∧ tl Ech H (fun _ H' => D.nx σ H'))
      rfl rfl rfl sc_said.nd rfl rfl ⟨by rfl, by decide, .inl S.gA⟩ L2.takes0 (fun W pn xe tk _ => ?_) (fun a oe cls d pn _ _ => pss_one (ps_set (i := 1) sc_said.nd rfl (Or.inl rfl) (pv 2))))
    (pss_cons (ps_if (pt_cmp (pc_isN (pv 1))) (pss_one (ps_ret (pe_lst pa_nil))) pss_nil)
    (pss_cons (ps_set (i := 3) sc_said.nd rfl (Or.inl rfl) (pe_lst (pa_cons (pe_callB call_isX (by rfl) T.isinst (by decide +kernel) (pa_cons (pv 1) (pa_cons (pe_glob (v := .ref (c 0)) rfl S.g0 rfl) pa_nil))) (pa_cons (pe_callB call_isX (by rfl) T.isinst (by decide +kernel) (pa_cons (pv 1) (pa_cons (pe_glob (v := .ref (c 1)) rfl S.g1 rfl) pa_nil))) (pa_cons (pe_callB call_isX (by rfl) T.isinst (by decide +kernel) (pa_cons (pv 1) (pa_cons (pe_glob (v := .ref (c 2)) rfl S.g2 rfl) pa_nil))) pa_nil)))))
    (pss_cons (ps_set (i := 3) sc_said.nd rfl (Or.inl rfl) (pe_op op_cat (pv 3) (pe_lst (pa_cons (pe_callB call_isX (by rfl) T.isinst (by decide +kernel) (pa_cons (pv 1) (pa_cons (pe_glob (v := .ref (c 3)) rfl S.g3 rfl) pa_nil))) (pa_cons (pe_callB call_isX (by rfl) T.isinst (by decide +kernel) (pa_cons (pv 1) (pa_cons (pe_glob (v := .ref (c 4)) rfl S.g4 rfl) pa_nil))) (pa_cons (pe_callB call_isX (by rfl) T.isinst (by decide +kernel) (pa_cons (pv 1) (pa_cons (pe_glob (v := .ref (c 5)) rfl S.g5 rfl) pa_nil))) pa_nil))))))
    (pss_cons (ps_set (i := 3) sc_said.nd rfl (Or.inl rfl) (pe_op op_cat (pv 3) (pe_lst (pa_cons (pe_callB call_isX (by rfl) T.isinst (by decide +kernel) (pa_cons (pv 1) (pa_cons (pe_glob (v := .ref (c 6)) rfl S.g6 rfl) pa_nil))) (pa_cons (pe_callB call_isX (by rfl) T.isinst (by decide +kernel) (pa_cons (pv 1) (pa_cons (pe_glob (v := .ref (c 7)) rfl S.g7 rfl) pa_nil))) (pa_cons (pe_callB call_isX (by rfl) T.isinst (by decide +kernel) (pa_cons (pv 1) (pa_cons (pe_glob (v := .ref (c 8)) rfl S.g8 rfl) pa_nil))) pa_nil))))))
    (pss_cons (ps_set (i := 3) sc_said.nd rfl (Or.inl rfl) (pe_op op_cat (pv 3) (pe_lst (pa_cons (pe_callB call_isX (by rfl) T.isinst (by decide +kernel) (pa_cons (pv 1) (pa_cons (pe_glob (v := .ref (c 9)) rfl S.g9 rfl) pa_nil))) (pa_cons (pe_callB call_isX (by rfl) T.isinst (by decide +kernel) (pa_cons (pv 1) (pa_cons (pe_glob (v := .ref (c 10)) rfl S.g10 rfl) pa_nil))) pa_nil)))))
    (pss_cons (ps_if (PW.pt (pw_or (pt_cmpR op_ne (pe_bm PySem.F.plainAttrs_list PySem.F.slot_list_count PySem.F.type_list_count mt_countB (pv 3) (pa_cons pe_bl pa_nil)) pe_int (nomark _)) (pw_or1 (pt_not (pt_val (pe_callB call_isX (by rfl) T.isinst (by decide +kernel) (pa_cons (pv 1) (pa_cons (pe_bltn (v := .ty "ValueError") (by rfl) ve (by decide +kernel) rfl) pa_nil)))))))) (pss_one ps_dead) pss_nil)
    (pss_cons (ps_if (pt_val (pe_callB call_isXT (by rfl) T.isinst (by decide +kernel) (pa_cons (pv 1) (pa_cons (pe_tup (pa_cons (pe_glob (v := .ref (c 11)) rfl S.g11 rfl) (pa_cons (pe_glob (v := .ref (c 12)) rfl S.g12 rfl) (pa_cons (pe_glob (v := .ref (c 13)) rfl S.g13 rfl) pa_nil)))) pa_nil)))) (pss_one ps_dead) pss_nil)
    (pss_cons (ps_set (i := 4) sc_said.nd rfl (Or.inl rfl) (pe_lst (pa_cons pe_str (pa_cons pe_str (pa_cons pe_str (pa_cons pe_str (pa_cons pe_str (pa_cons pe_str (pa_cons pe_str (pa_cons pe_str (pa_cons pe_str (pa_cons pe_str (pa_cons pe_str pa_nil)))))))))))))
    (pss_cons (ps_set (i := 5) sc_said.nd rfl (Or.inl rfl) (pe_ix ix_list (pv 4) (pe_bm PySem.F.plainAttrs_list PySem.F.slot_list_index PySem.F.type_list_index mt_index (pv 3) (pa_cons pe_bl pa_nil)) (fun _ _ => rfl)))
    (pss_cons (ps_if (pt_cmpR op_in_seq (pv 5) (pe_tup (pa_cons pe_str (pa_cons pe_str pa_nil))) rfl) (pss_one ps_dead) pss_nil)
    (pss_cons (ps_if (pt_cmpR op_eq (pv 5) pe_str (nomark _)) (pss_one ps_dead) pss_nil)
    (pss_cons (ps_if (pt_cmpR op_eq (pv 5) pe_str (nomark _)) (pss_one ps_dead) pss_nil)
    (pss_cons (ps_if (pt_cmpR op_eq (pv 5) pe_str (nomark _)) (pss_one ps_dead) pss_nil)
    (pss_one (ps_ret (pe_ifExp (pt_cmpR op_eq (pv 5) pe_str (nomark _)) pe_dead (pe_lst (pa_cons (pv 5) pa_nil))))))))))))))))))), ?_⟩
  · refine ⟨fun pins s' σ H' D I h' => ?_⟩
    obtain ⟨Ech, hW, h1, h2, h3⟩ := h'
    exact (pss_one (ps_expr (act (fun cls d σ H => σ.length = 6 → W cls d σ H) pn xe Ech _ _ (takes_len tk) (fun cls d σ' H' e l => hW cls d σ' H' l e)))).run pins s' σ H' D I ⟨h1, h2, h3⟩
  · refine ⟨fun cls d H' => cls = .ref D ∧ d = none ∧ ∀ p H'', Same H' H'' → H'' p = some (.lst [.str "fact"]) → Q (.ref p) H'', fun cls d σ' H1 hl ⟨e1, e2, qq⟩ => ?_, rfl, hc, h _ fun v H1 k => ⟨_, rfl, true, rfl, iteT ⟨Nat.zero_le _, fun p hp => k p _ (same_new hp) upd_same⟩⟩⟩
    subst e1 e2
    obtain ⟨w0, w1, w2, w3, w4, w5, rfl⟩ : ∃ w0 w1 w2 w3 w4 w5, σ' = [w0, w1, w2, w3, w4, w5] := by
      match σ', hl with
      | [w0, w1, w2, w3, w4, w5], _ => exact ⟨w0, w1, w2, w3, w4, w5, rfl⟩
    have k0 : PySem.W.kitOne X.K (.ref D) (.ref (c 0)) = some false := S.k0
    have k1 : PySem.W.kitOne X.K (.ref D) (.ref (c 1)) = some true := S.k1
    have k2 : PySem.W.kitOne X.K (.ref D) (.ref (c 2)) = some false := S.k2
    have k3 : PySem.W.kitOne X.K (.ref D) (.ref (c 3)) = some false := S.k3
    have k4 : PySem.W.kitOne X.K (.ref D) (.ref (c 4)) = some false := S.k4
    have k5 : PySem.W.kitOne X.K (.ref D) (.ref (c 5)) = some false := S.k5
    have k6 : PySem.W.kitOne X.K (.ref D) (.ref (c 6)) = some false := S.k6
    have k7 : PySem.W.kitOne X.K (.ref D) (.ref (c 7)) = some false := S.k7
    have k8 : PySem.W.kitOne X.K (.ref D) (.ref (c 8)) = some false := S.k8
    have k9 : PySem.W.kitOne X.K (.ref D) (.ref (c 9)) = some false := S.k9
    have k10 : PySem.W.kitOne X.K (.ref D) (.ref (c 10)) = some false := S.k10
    refine ⟨true, S.eA, fun _ a na => ⟨_, rfl, fun na' => ?_⟩, fun z => nomatch z⟩
    have he : (upd H1 a (ExcO a (.ref D) none)) a = some (ExcO a (.ref D) none) := upd_same
    have sE : Same H1 (upd H1 a (ExcO a (.ref D) none)) := same_new na
    generalize upd H1 a (ExcO a (.ref D) none) = H2 at he sE
    refine ⟨_, rfl, false, rfl, iteF ?_⟩
    refine ⟨_, rfl, a, D, .ref (c 0), .ref (c 0), _, rfl, he, S.ex, (fun u h => h), k0, _, rfl, a, D, .ref (c 1), .ref (c 1), _, rfl, he, S.ex, (fun u h => h), k1, _, rfl, a, D, .ref (c 2), .ref (c 2), _, rfl, he, S.ex, (fun u h => h), k2, by show 3 ≤ sizeLine; decide, fun L1 n1 => ?_⟩
    have s3 := sE.trans (same_new (o := .lst [V.bl false, V.bl true, V.bl false]) n1)
    have he3 := same_new (o := .lst [V.bl false, V.bl true, V.bl false]) n1 _ _ he
    have h3 : (upd H2 L1 (.lst [V.bl false, V.bl true, V.bl false])) L1 = some (.lst [V.bl false, V.bl true, V.bl false]) := upd_same
    generalize upd H2 L1 (.lst [V.bl false, V.bl true, V.bl false]) = H3 at s3 he3 h3 ⊢
    refine ⟨_, rfl, _, rfl, a, D, .ref (c 3), .ref (c 3), _, rfl, he3, S.ex, (fun u h => h), k3, _, rfl, a, D, .ref (c 4), .ref (c 4), _, rfl, he3, S.ex, (fun u h => h), k4, _, rfl, a, D, .ref (c 5), .ref (c 5), _, rfl, he3, S.ex, (fun u h => h), k5, by show 3 ≤ sizeLine; decide, fun M n1 => ⟨L1, M, _, _, rfl, rfl, same_new n1 _ _ h3, upd_same, by show 6 ≤ sizeLine; decide, fun P3 n2 => ?_⟩⟩
    have s4 := (s3.trans (same_new (o := .lst [V.bl false, V.bl false, V.bl false]) n1)).trans (same_new (o := .lst ([V.bl false, V.bl true, V.bl false] ++ [V.bl false, V.bl false, V.bl false])) n2)
    have he4 := same_new (o := .lst ([V.bl false, V.bl true, V.bl false] ++ [V.bl false, V.bl false, V.bl false])) n2 _ _ (same_new (o := .lst [V.bl false, V.bl false, V.bl false]) n1 _ _ he3)
    have h4 : (upd (upd H3 M (.lst [V.bl false, V.bl false, V.bl false])) P3 (.lst ([V.bl false, V.bl true, V.bl false] ++ [V.bl false, V.bl false, V.bl false]))) P3 = some (.lst [V.bl false, V.bl true, V.bl false, V.bl false, V.bl false, V.bl false]) := upd_same
    generalize upd (upd H3 M (.lst [V.bl false, V.bl false, V.bl false])) P3 (.lst ([V.bl false, V.bl true, V.bl false] ++ [V.bl false, V.bl false, V.bl false])) = H4 at s4 he4 h4 ⊢
    refine ⟨_, rfl, _, rfl, a, D, .ref (c 6), .ref (c 6), _, rfl, he4, S.ex, (fun u h => h), k6, _, rfl, a, D, .ref (c 7), .ref (c 7), _, rfl, he4, S.ex, (fun u h => h), k7, _, rfl, a, D, .ref (c 8), .ref (c 8), _, rfl, he4, S.ex, (fun u h => h), k8, by show 3 ≤ sizeLine; decide, fun M n1 => ⟨P3, M, _, _, rfl, rfl, same_new n1 _ _ h4, upd_same, by show 9 ≤ sizeLine; decide, fun P4 n2 => ?_⟩⟩
    have s5 := (s4.trans (same_new (o := .lst [V.bl false, V.bl false, V.bl false]) n1)).trans (same_new (o := .lst ([V.bl false, V.bl true, V.bl false, V.bl false, V.bl false, V.bl false] ++ [V.bl false, V.bl false, V.bl false])) n2)
    have he5 := same_new (o := .lst ([V.bl false, V.bl true, V.bl false, V.bl false, V.bl false, V.bl false] ++ [V.bl false, V.bl false, V.bl false])) n2 _ _ (same_new (o := .lst [V.bl false, V.bl false, V.bl false]) n1 _ _ he4)
    have h5 : (upd (upd H4 M (.lst [V.bl false, V.bl false, V.bl false])) P4 (.lst ([V.bl false, V.bl true, V.bl false, V.bl false, V.bl false, V.bl false] ++ [V.bl false, V.bl false, V.bl false]))) P4 = some (.lst [V.bl false, V.bl true, V.bl false, V.bl false, V.bl false, V.bl false, V.bl false, V.bl false, V.bl false]) := upd_same
    generalize upd (upd H4 M (.lst [V.bl false, V.bl false, V.bl false])) P4 (.lst ([V.bl false, V.bl true, V.bl false, V.bl false, V.bl false, V.bl false] ++ [V.bl false, V.bl false, V.bl false])) = H5 at s5 he5 h5 ⊢
    refine ⟨_, rfl, _, rfl, a, D, .ref (c 9), .ref (c 9), _, rfl, he5, S.ex, (fun u h => h), k9, _, rfl, a, D, .ref (c 10), .ref (c 10), _, rfl, he5, S.ex, (fun u h => h), k10, by show 2 ≤ sizeLine; decide, fun M n1 => ⟨P4, M, _, _, rfl, rfl, same_new n1 _ _ h5, upd_same, by show 11 ≤ sizeLine; decide, fun P5 n2 => ?_⟩⟩
    have s6 := (s5.trans (same_new (o := .lst [V.bl false, V.bl false]) n1)).trans (same_new (o := .lst ([V.bl false, V.bl true, V.bl false, V.bl false, V.bl false, V.bl false, V.bl false, V.bl false, V.bl false] ++ [V.bl false, V.bl false])) n2)
    have he6 := same_new (o := .lst ([V.bl false, V.bl true, V.bl false, V.bl false, V.bl false, V.bl false, V.bl false, V.bl false, V.bl false] ++ [V.bl false, V.bl false])) n2 _ _ (same_new (o := .lst [V.bl false, V.bl false]) n1 _ _ he5)
    have h6 : (upd (upd H5 M (.lst [V.bl false, V.bl false])) P5 (.lst ([V.bl false, V.bl true, V.bl false, V.bl false, V.bl false, V.bl false, V.bl false, V.bl false, V.bl false] ++ [V.bl false, V.bl false]))) P5 = some (.lst [V.bl false, V.bl true, V.bl false, V.bl false, V.bl false, V.bl false, V.bl false, V.bl false, V.bl false, V.bl false, V.bl false]) := upd_same
    generalize upd (upd H5 M (.lst [V.bl false, V.bl false])) P5 (.lst ([V.bl false, V.bl true, V.bl false, V.bl false, V.bl false, V.bl false, V.bl false, V.bl false, V.bl false] ++ [V.bl false, V.bl false])) = H6 at s6 he6 h6 ⊢
    refine ⟨_, rfl, .inl ⟨rfl, _, lof h6⟩, P5, [false, true, false, false, false, false, false, false, false, false, false], rfl, rfl, lof h6, rfl, _, rfl, ?_⟩
    rw [show (!decide (V.int ((List.count true [false, true, false, false, false, false, false, false, false, false, false] : Nat) : Int) = V.int 1)) = false by decide +kernel]
    refine iteF ⟨_, rfl, a, D, .ty "ValueError", .type "ValueError", true, rfl, he6, S.ex, (fun u h => h), S.v, true, rfl, iteF ?_⟩
    refine ⟨_, rfl, by show 3 ≤ sizeLine; decide, fun t nt => ?_⟩
    have s7 := s6.trans (same_new (o := .tup [V.ref (c 11), V.ref (c 12), V.ref (c 13)]) nt)
    have he7 := same_new (o := .tup [V.ref (c 11), V.ref (c 12), V.ref (c 13)]) nt _ _ he6
    have h7 := same_new (o := .tup [V.ref (c 11), V.ref (c 12), V.ref (c 13)]) nt _ _ h6
    have ht : (upd H6 t (.tup [V.ref (c 11), V.ref (c 12), V.ref (c 13)])) t = some (.tup [V.ref (c 11), V.ref (c 12), V.ref (c 13)]) := upd_same
    generalize upd H6 t (.tup [V.ref (c 11), V.ref (c 12), V.ref (c 13)]) = H7 at s7 he7 h7 ht ⊢
    refine ⟨a, D, t, _, _, false, rfl, ht, .cons (.own _) (.cons (.own _) (.cons (.own _) .nil)), he7, S.ex, kitAny_cons S.k11 (fun _ => kitAny_cons S.k12 (fun _ => kitAny_cons S.k13 (fun _ => rfl) (fun z => absurd z (by decide))) (fun z => absurd z (by decide))) (fun z => absurd z (by decide)), false, rfl, iteF ?_⟩
    refine ⟨by show 11 ≤ sizeLine; decide, fun W nW => ?_⟩
    have sW := s7.trans (same_new (o := .lst [V.str "plan", V.str "fact", V.str "look", V.str "store", V.str "ask", V.str "prices", V.str "deed", V.str "story", V.str "buyer", V.str "thread", V.str "many"]) nW)
    have h8 := same_new (o := .lst [V.str "plan", V.str "fact", V.str "look", V.str "store", V.str "ask", V.str "prices", V.str "deed", V.str "story", V.str "buyer", V.str "thread", V.str "many"]) nW _ _ h7
    have hW : (upd H7 W (.lst [V.str "plan", V.str "fact", V.str "look", V.str "store", V.str "ask", V.str "prices", V.str "deed", V.str "story", V.str "buyer", V.str "thread", V.str "many"])) W = some (.lst [V.str "plan", V.str "fact", V.str "look", V.str "store", V.str "ask", V.str "prices", V.str "deed", V.str "story", V.str "buyer", V.str "thread", V.str "many"]) := upd_same
    generalize upd H7 W (.lst [V.str "plan", V.str "fact", V.str "look", V.str "store", V.str "ask", V.str "prices", V.str "deed", V.str "story", V.str "buyer", V.str "thread", V.str "many"]) = H8 at sW h8 hW ⊢
    refine ⟨_, rfl, _, rfl, .inl ⟨rfl, _, lof h8⟩, P5, _, .bl true, 1, .bl true, rfl, rfl, lof h8, rfl, rfl, rfl, rfl, (fun m z hm hz => ?_), W, _, 1, .str "fact", rfl, rfl, lof hW, rfl, ?_⟩
    · have hm0 : m = 0 := by omega
      subst hm0
      cases hz; rfl
    refine ⟨_, rfl, by show 2 ≤ sizeLine; decide, fun t2 nt2 => ⟨t2, _, rfl, .inr (tof upd_same), rfl, rfl, _, rfl, ?_⟩⟩
    rw [show (if false = true then !inV (V.str "fact") [V.str "look", V.str "deed"] else inV (V.str "fact") [V.str "look", V.str "deed"]) = false by decide +kernel]
    have s9 := sW.trans (same_new (o := .tup [V.str "look", V.str "deed"]) nt2)
    generalize upd H8 t2 (.tup [V.str "look", V.str "deed"]) = H9 at s9 ⊢
    refine iteF ⟨_, rfl, rfl, _, rfl, ?_⟩
    rw [show decide (V.str "fact" = V.str "story") = false by decide +kernel]
    refine iteF ⟨_, rfl, rfl, _, rfl, ?_⟩
    rw [show decide (V.str "fact" = V.str "buyer") = false by decide +kernel]
    refine iteF ⟨_, rfl, rfl, _, rfl, ?_⟩
    rw [show decide (V.str "fact" = V.str "thread") = false by decide +kernel]
    refine iteF ⟨_, rfl, rfl, _, rfl, ?_⟩
    rw [show decide (V.str "fact" = V.str "many") = false by decide +kernel]
    exact iteF ⟨_, rfl, by show 1 ≤ sizeLine; decide, fun p np => qq p _ (same_new' s9 np) upd_same⟩
end
end As

/-! ## A15 -/
set_option maxHeartbeats 2000000
namespace As
open PySem PySem.Spec PyProof.Rows L2
theorem tuple_mul1 (l : Addr) (items : Array Value) (n : Nat) (dd : Option Addr) (sl : Array (Option Value)) (u : Tok) :
    Meets (Builtin.«tuple.__mul__» ⟨[.ref l, .int 1 u], []⟩) (fun _ R s => s.heap.get? l = some { cls := .type "tuple", dict := dd, data := .seq items n, slots := sl } ∧
      R (.ok (.ret (Value.ref l))) s) :=
  .of_wp fun prog w A R s h => by
    obtain ⟨hp, g, d, tk, os⟩ := s
    obtain ⟨hl, h⟩ := h
    have f1 := AutoSeq1.idx_int
    wp_walk using wpAny_loadPart' hl
    repeat (first
      | (refine wpAny_ite_false (decide_eq_false (by decide)) ?_; wp_walk using wpAny_loadPart' hl)
      | (refine wpAny_ite_true (decide_eq_true (by simp)) ?_; wp_walk using wpAny_loadPart' hl))
    exact ⟨_, rfl, h⟩
def rRepT1 (K : PySem.W.Frag) : R2 := fun x y H Q => ∃ l xs, x = .ref l ∧ y = .int 1 ∧ SqT K H l xs ∧ Q (.ref l) H
theorem op_repT1 {X : Cx} : OpR X (binaryOp .Mult) (rRepT1 X.K) := by
  intro pins s σ H x y v u Q I rx ry h
  obtain ⟨l, xs, rfl, rfl, hT, q⟩ := h
  cases rx
  obtain ⟨t, rfl⟩ := ry
  obtain ⟨its, r, ⟨⟨cls, dd, data, sl⟩, ho, hc, n, hd⟩, hs⟩ := I.tuple hT
  simp only at hc hd
  subst hc hd
  refine wpAny_binaryOp_repeat_ref (T := "tuple") (U := "int") (by decide) ⟨_, ho, rfl⟩ (fun s' => typeIs_int s' 1 t) noFill_tuple_mul F.fills_int_mul F.slot_int_rmul repeat_tuple F.slot_int_index.lookup
    (call_meets F.slot_int_rmul (typeIs_int s 1 t) F.entry_int_rmul (F.args_int_rmul_2 _ _) (int_rmul_tuple 1 t l its.toArray n dd sl)
      ⟨ho, rfl, ⟨_, ho, rfl⟩, call_meets F.slot_tuple_mul ⟨_, ho, rfl⟩ F.entry_tuple_mul (F.args_tuple_mul_2 _ _) (tuple_mul1 l its.toArray n dd sl t) ⟨ho, ?_⟩⟩)
  exact ⟨.ref l, H, I, rfl, q⟩
end As

/-! ## C9 -/
namespace As
open PySem PySem.Spec PyProof.Rows L2
open PySem.W (alike alikeAll)
theorem perm_rows {ρ : Type} {f : ρ → V} {ys zs : List V} (p : ys.Perm zs) : ∀ rs : List ρ, zs = rs.map f → ∃ rs' : List ρ, rs'.Perm rs ∧ ys = rs'.map f := by
  induction p with
  | nil =>
    intro rs e
    cases rs with
    | nil => exact ⟨[], .refl _, rfl⟩
    | cons => cases e
  | cons x _ ih =>
    intro rs e
    cases rs with
    | nil => cases e
    | cons r t =>
      injection e with e1 e2
      obtain ⟨rs', p', e'⟩ := ih t e2
      exact ⟨r :: rs', p'.cons r, by rw [e1, e']; rfl⟩
  | swap x y l =>
    intro rs e
    match rs, e with
    | r :: u :: t, e =>
      injection e with e1 e2
      injection e2 with e2 e3
      exact ⟨u :: r :: t, .swap r u t, by rw [e1, e2, e3]; rfl⟩
  | trans _ _ ih1 ih2 =>
    intro rs e
    obtain ⟨rs', p', e'⟩ := ih2 rs e
    obtain ⟨rs'', p'', e''⟩ := ih1 rs' e'
    exact ⟨rs'', p''.trans p', e''⟩

theorem make_plan {K : PySem.W.Frag} {H : Hp} {C x dx a b : Addr} {cs : List CRow} {ts : List TRow} {R : VK} {E : XK} (nx : H x = none) (nd : H dx = none) (ne : dx ≠ x) (ha : Sq H a (cs.map cv)) (hb : Sq H b (ts.map tv)) (okc : ColsOk H cs) (okt : TabsOk H (cs.map (·.2.1)) ts)
    (q : ∀ H', Same H H' → PlanAt H' C x cs ts → R .non H') : spInit K C (V.ref x :: ([V.ref a, V.ref b] ++ [])) (upd (upd H dx (.own x)) x (.ins C dx [])) R E := by
  have s1 : Same H (upd (upd H dx (.own x)) x (.ins C dx [])) := fun c o e => by rw [upd_ne (ne_of_none e nx), upd_ne (ne_of_none e nd)]; exact e
  exact ⟨x, dx, a, b, cs, ts, rfl, upd_same, ha.same s1, hb.same s1, okc.same s1, okt.same s1, fun H' but pl => q H' (fun c o e => but c o (ne_of_none e nx) (s1 _ _ e)) pl⟩

/-- all that stands but two lists -/
def but2 (H : Hp) (a c : Addr) : Hp := fun b => if b = a ∨ b = c then none else H b
theorem but2_at {H : Hp} {a c b : Addr} (h1 : b ≠ a) (h2 : b ≠ c) : but2 H a c b = H b := if_neg (by rintro (h | h) <;> contradiction)
theorem but2_same {H : Hp} {a c : Addr} : Same (but2 H a c) H := fun b o e => by
  unfold but2 at e
  split at e
  · cases e
  · exact e
theorem but2_gd {H : Hp} {a c : Addr} (st : StAt H a c) : Gd a c (but2 H a c) H := ⟨but2_same, if_pos (.inl rfl), if_pos (.inr rfl), st⟩
theorem but2_sub {H B : Hp} {a c : Addr} (g : Gd a c B H) : Same B (but2 H a c) := fun b o e => by
  rw [but2_at (ne_of_none e g.na) (ne_of_none e g.nc)]; exact g.ex _ _ e
theorem StAt.ne {H : Hp} {a c b : Addr} {o : HO} (st : StAt H a c) (h : H b = some o) (n : ∀ xs, o ≠ .lst xs) : b ≠ a ∧ b ≠ c := by
  obtain ⟨i, z, ks, nac, ea, ec, _⟩ := st
  exact ⟨ne_lst ea h n, ne_lst ec h n⟩
/-- what is no list of the two stands -/
theorem but2_obj {H : Hp} {a c b : Addr} {o : HO} (st : StAt H a c) (h : H b = some o) (n : ∀ xs, o ≠ .lst xs) : but2 H a c b = some o := by
  rw [but2_at (st.ne h n).1 (st.ne h n).2]; exact h
/-- all but tables of code -/
def Sb (H H' : Hp) : Prop := ∀ b o, H b = some o → (∀ ps, o ≠ .tbl ps) → H' b = some o
theorem PlanAt.sub {H B : Hp} {C p : Addr} {cs : List CRow} {ts : List TRow} (h : PlanAt H C p cs ts) (t : ∀ b o, H b = some o → (∀ xs, o ≠ .lst xs) → (∀ ps, o ≠ .tbl ps) → B b = some o) : PlanAt B C p cs ts := by
  obtain ⟨dx, ct, tt, sz, sp, sh, ks, h1, h2, h3, h4, h5, hs, h6⟩ := h
  exact ⟨dx, ct, tt, sz, sp, sh, ks, t _ _ h1 (fun _ z => nomatch z) (fun _ z => nomatch z), t _ _ h2 (fun _ z => nomatch z) (fun _ z => nomatch z), t _ _ h3 (fun _ z => nomatch z) (fun _ z => nomatch z), t _ _ h4 (fun _ z => nomatch z) (fun _ z => nomatch z), t _ _ h5 (fun _ z => nomatch z) (fun _ z => nomatch z), t _ _ hs (fun _ z => nomatch z) (fun _ z => nomatch z),
    paired_imp (fun _ _ r => ⟨r.1, r.2.elim fun q z => ⟨q, z.1, t _ _ z.2 (fun _ z => nomatch z) (fun _ z => nomatch z)⟩⟩) h6⟩
theorem ColsOk.sub {H H' : Hp} {rs : List CRow} (h : ColsOk H rs) (e : Sb H H') : ColsOk H' rs := ⟨fun r hr => e _ _ (h.row r hr) (fun _ z => nomatch z), h.len, h.nm, h.sz, h.nd⟩
theorem TabsOk.sub {H H' : Hp} {cs : List Str} {rs : List TRow} (h : TabsOk H cs rs) (e : Sb H H') : TabsOk H' cs rs := ⟨fun r hr => e _ _ (h.row r hr) (fun _ z => nomatch z), fun r hr => e _ _ (h.prt r hr) (fun _ z => nomatch z), h.len, h.nm, h.two, h.own, h.nd⟩
theorem cut_take {xs : List V} {n : Nat} : cutV xs none (some ((n : Nat) : Int)) = xs.take n := by
  unfold cutV
  rw [HT.sIx_none, HT.sIx_nat, List.drop_zero, Nat.sub_zero]
  by_cases h : n ≤ xs.length
  · rw [Nat.min_eq_left h]
  · rw [Nat.min_eq_right (by omega), List.take_of_length_le (Nat.le_refl _), List.take_of_length_le (by omega)]
theorem alike_lks : ∀ ks : List LK, alikeAll (ks.map lkD) (ks.map lkD) = true
  | [] => by simp [alikeAll]
  | k :: ks => by rw [List.map_cons, alikeAll, alike_lks ks, alike_lk]; rfl
theorem eqv_lks (ks : List LK) : PyData.eqv (.list (ks.map lkD)) (.list (ks.map lkD)) = true := PySem.W.eqv_refl_alike _ (by rw [alike]; exact alike_lks ks)
theorem dp_lks {K : PySem.W.Frag} {H : Hp} : ∀ {ls : List LRow}, (∀ l ∈ ls, LAt H l) → DpAll K H (ls.map lv) ((ls.map (·.2)).map lkD)
  | [], _ => .nil
  | l :: ls, h => .cons (dp_lk (h l List.mem_cons_self)) (dp_lks fun x hx => h x (List.mem_cons_of_mem _ hx))
theorem lay_lks : ∀ {ks : List LK}, (∀ k ∈ ks, PyData.strOk k.1 = true) → PyData.canLayAll0 (ks.map lkD) = true
  | [], _ => by simp [PyData.canLayAll0]
  | k :: ks, h => by
    rw [List.map_cons, PyData.canLayAll0, lay_lk k (h k List.mem_cons_self), lay_lks fun x hx => h x (List.mem_cons_of_mem _ hx)]; rfl
theorem depth_lks : ∀ {ks : List LK}, PyData.depthAll (ks.map lkD) ≤ 2
  | [] => by simp [PyData.depthAll]
  | k :: ks => by
    rw [List.map_cons, PyData.depthAll]
    have h1 := lk_depth k
    have h2 := depth_lks (ks := ks)
    omega
theorem plain_lk {K : PySem.W.Frag} {B : Hp} {ls : List LRow} (h : ∀ l ∈ ls, LAt B l) (ok : ∀ l ∈ ls, PyData.strOk l.2.1 = true) : ∀ x ∈ ls.map lv, Plain K B x := fun x hx => by
  obtain ⟨l, hl, rfl⟩ := List.mem_map.mp hx
  exact ⟨lkD l.2, dp_lk (h l hl), lay_lk _ (ok l hl), lk_depth _⟩
theorem facts_pos {H : Hp} {cs : List CRow} {ts : List TRow} (okc : ColsOk H cs) (okt : TabsOk H (cs.map (·.2.1)) ts) : 0 < (ts.flatMap (factsT cs)).length := by
  obtain ⟨r, hr⟩ : ∃ r, r ∈ ts := by
    match ts, okt.len.1 with
    | r :: t, _ => exact ⟨r, List.mem_cons_self⟩
  have own := okt.own r hr
  have two := okt.two r hr
  refine List.length_pos_of_mem (a := ((r.2.1, r.2.2.2.map fun _ => 0) : FK)) (List.mem_flatMap.mpr ⟨r, hr, ?_⟩)
  obtain ⟨ra, n, qa, ps⟩ := r
  dsimp only at own two
  rcases ps with _ | ⟨x, _ | ⟨y, _ | ⟨z, w⟩⟩⟩
  · simp at two
  · have h := (valV_sz okc (own x (by simp))).2
    show ((n, [0]) : FK) ∈ (ir (sizeI cs x).toNat).map fun v => ((n, [v]) : FK)
    exact List.mem_map.mpr ⟨0, ir_mem.mpr ⟨by omega, by omega⟩, rfl⟩
  · have h := (valV_sz okc (own x (by simp))).2
    have h' := (valV_sz okc (own y (by simp))).2
    show ((n, [0, 0]) : FK) ∈ (ir (sizeI cs x).toNat).flatMap fun v => (ir (sizeI cs y).toNat).map fun o => ((n, [v, o]) : FK)
    exact List.mem_flatMap.mpr ⟨0, ir_mem.mpr ⟨by omega, by omega⟩, List.mem_map.mpr ⟨0, ir_mem.mpr ⟨by omega, by omega⟩, rfl⟩⟩
  · simp at two
theorem facts_max {H : Hp} {cs : List CRow} {ts : List TRow} (okc : ColsOk H cs) (okt : TabsOk H (cs.map (·.2.1)) ts) : (ts.flatMap (factsT cs)).length ≤ 1000 := by
  have h1 := flat_len (f := factsT cs) (m := 36) (l := ts) fun x hx => by
    have h2 : (factsT cs x).length ≤ 6 * firstN cs x.2.2.2 := factsUp_len (sizeI_le okc)
    have h3 : firstN cs x.2.2.2 ≤ 6 := by unfold firstN; have := sizeI_le okc (x.2.2.2.headD ⟨#[]⟩); omega
    omega
  have := okt.len.2
  have h6 : 36 * ts.length ≤ 36 * 8 := Nat.mul_le_mul_left _ this
  omega
theorem looks_max {H : Hp} {cs : List CRow} {ts : List TRow} (okc : ColsOk H cs) (okt : TabsOk H (cs.map (·.2.1)) ts) : (ts.flatMap (looksT cs)).length ≤ 1000 := by
  have h1 := flat_len (f := looksT cs) (m := 12) (l := ts) fun x hx => by
    have h2 : (looksT cs x).length ≤ 6 * x.2.2.2.length := looksUp_len (sizeI_le okc)
    have h3 := (okt.two x hx).2
    omega
  have := okt.len.2
  have h6 : 12 * ts.length ≤ 12 * 8 := Nat.mul_le_mul_left _ this
  omega
theorem rep_either {K : PySem.W.Frag} {H : Hp} {s : Addr} {n k : Int} {R : VK} (hs : H s = some (.tup [.int n])) (hk : k = 1 ∨ k = 2) (q : ∀ p H', Same H H' → H' p = some (.tup (List.replicate k.toNat [V.int n]).flatten) → R (.ref p) H') :
    rRepT1 K (.ref s) (.int k) H R ∨ rRepT K (.ref s) (.int k) H R := by
  rcases hk with rfl | rfl
  · exact .inl ⟨s, _, rfl, rfl, tof hs, q s H (Same.refl H) hs⟩
  · exact .inr ⟨s, 2, _, rfl, rfl, tof hs, (fun z => nomatch z), by decide, by decide, by show 1 ≤ 1000; decide, fun p np => q p _ (same_new np) upd_same⟩
end As

/-! ## C10 -/
namespace As
open PySem PySem.Spec PyProof.Rows L2
theorem deep_nt {H : Hp} {cs : List CRow} {ts : List TRow} {x : V} {k : Kind} (h : Val H x k) (n : tupV H x = none) : Deep H x ∧ isFactV H cs ts x = false :=
  ⟨⟨⟨k, h⟩, fun xs e => by rw [n] at e; cases e⟩, by unfold isFactV; rw [n]⟩
theorem deep_t {H : Hp} {a : Addr} {xs : List V} (h : H a = some (.tup xs)) (vs : ∀ y ∈ xs, (∃ k, Val H y k) ∧ ∀ ys, tupV H y = some ys → ∀ z ∈ ys, ∃ k, Val H z k) : Deep H (.ref a) :=
  ⟨⟨_, .tup h⟩, fun xs' e => by rw [tupV_at h] at e; cases e; exact vs⟩
theorem v_str {H : Hp} {z : Str} : (∃ k, Val H (.str z) k) ∧ ∀ ys, tupV H (.str z) = some ys → ∀ z ∈ ys, ∃ k, Val H z k := ⟨⟨_, .str z⟩, fun _ e => nomatch e⟩
theorem v_int {H : Hp} {z : Int} : (∃ k, Val H (.int z) k) ∧ ∀ ys, tupV H (.int z) = some ys → ∀ z ∈ ys, ∃ k, Val H z k := ⟨⟨_, .int z⟩, fun _ e => nomatch e⟩
theorem v_lst {H : Hp} {a : Addr} {xs : List V} (h : H a = some (.lst xs)) : (∃ k, Val H (.ref a) k) ∧ ∀ ys, tupV H (.ref a) = some ys → ∀ z ∈ ys, ∃ k, Val H z k := ⟨⟨_, .lst h⟩, fun _ e => by unfold tupV at e; simp only [h] at e; cases e⟩
theorem v_tup {H : Hp} {a : Addr} {xs : List V} (h : H a = some (.tup xs)) (k : ∀ z ∈ xs, ∃ k, Val H z k) : (∃ k, Val H (.ref a) k) ∧ ∀ ys, tupV H (.ref a) = some ys → ∀ z ∈ ys, ∃ k, Val H z k := ⟨⟨_, .tup h⟩, fun _ e => by rw [tupV_at h] at e; cases e; exact k⟩
theorem fact_pair {H : Hp} {cs : List CRow} {ts : List TRow} {a : Addr} {n : Str} {z : V} {r : TRow} (h : H a = some (.tup [.str n, z])) (e : tabOf ts n = some r) :
    isFactV H cs ts (.ref a) = match tupV H z with | some vs => decide (vs.length = r.2.2.2.length) && (vs.zip (spanI cs r)).all fun p => belowV p.1 p.2 | none => false := by
  unfold isFactV
  rw [tupV_at h]
  dsimp only
  rw [e] <;> rfl
theorem ints_val {H : Hp} (xs : List Int) : ∀ z ∈ xs.map V.int, ∃ k, Val H z k := fun z hz => by
  obtain ⟨i, _, rfl⟩ := List.mem_map.mp hz
  exact ⟨_, .int i⟩
theorem no_empty {H : Hp} {cs : List Str} {ts : List TRow} (ok : TabsOk H cs ts) : tabOf ts (Str.ofString "") = none := by
  unfold tabOf
  refine List.find?_eq_none.mpr fun r hr z => ?_
  have e : r.2.1 = Str.ofString "" := by simpa using z
  have h := ok.nm r hr
  rw [e] at h
  exact absurd h (by decide +kernel)
theorem odd_none {H : Hp} {cs : List CRow} {ts : List TRow} {r : TRow} {N : Str} {vs : List Int} {q t1 L3 t3 c4 t4 b5 t5 t7 r8 t8 r9 t9 t10 l11 d12 : Addr} (et : tabOf ts N = some r) (e0 : tabOf ts (Str.ofString "") = none)
    (hk : (∃ c v, r.2.2.2 = [c] ∧ vs = [v] ∧ sizeI cs c ≤ 6) ∨ ∃ c d v o, r.2.2.2 = [c, d] ∧ vs = [v, o] ∧ sizeI cs c ≤ 6 ∧ sizeI cs d ≤ 6)
    (hq : H q = some (.tup (vs.map V.int))) (h1 : H t1 = some (.tup [.str N])) (hL : H L3 = some (.lst (vs.map V.int))) (h3 : H t3 = some (.tup [.str N, .ref L3])) (hc : H c4 = some (.tup (vs.map V.int ++ [.int 0]))) (h4 : H t4 = some (.tup [.str N, .ref c4]))
    (hb : H b5 = some (.tup [.bl true])) (h5 : H t5 = some (.tup [.str N, .ref b5])) (h7 : H t7 = some (.tup [.str (Str.ofString ""), .ref q])) (hr8 : H r8 = some (.tup (List.replicate (((vs.map V.int).length : Nat) : Int).toNat [V.int 6]).flatten)) (h8 : H t8 = some (.tup [.str N, .ref r8]))
    (hr9 : H r9 = some (.tup (List.replicate (((vs.map V.int).length : Nat) : Int).toNat [V.int (-1)]).flatten)) (h9 : H t9 = some (.tup [.str N, .ref r9])) (h10 : H t10 = some (.tup [.str N, .ref q, .int 0])) (h11 : H l11 = some (.lst [.str N, .ref q])) (h12 : H d12 = some (.dK [])) :
    ∀ v ∈ ([.non, .ref t1, .ref t3, .ref t4, .ref t5, .ref q, .ref t7] ++ [.ref t8, .ref t9, .ref t10, .ref l11, .ref d12] : List V), Deep H v ∧ isFactV H cs ts v = false := by
  have vq := v_tup hq (ints_val vs)
  have vL := v_lst hL
  have rep : ∀ (n : Int) (z : V), z ∈ (List.replicate (((vs.map V.int).length : Nat) : Int).toNat [V.int n]).flatten → ∃ k, Val H z k := fun n z hz => by
    obtain ⟨l, hl, hz⟩ := List.mem_flatten.mp hz
    rw [(List.mem_replicate.mp hl).2, List.mem_singleton] at hz
    subst hz; exact ⟨_, .int n⟩
  have v8 := v_tup hr8 (rep 6)
  have v9 := v_tup hr9 (rep (-1))
  have vb := v_tup hb (fun z hz => by rw [List.mem_singleton] at hz; subst hz; exact ⟨_, .bl true⟩)
  have vc := v_tup hc (fun z hz => by
    rcases List.mem_append.mp hz with hz | hz
    · exact ints_val vs z hz
    · rw [List.mem_singleton] at hz; subst hz; exact ⟨_, .int 0⟩)
  have two : ∀ {a : Addr} {z : V} {n : Str}, H a = some (.tup [.str n, z]) → ((∃ k, Val H z k) ∧ ∀ ys, tupV H z = some ys → ∀ z ∈ ys, ∃ k, Val H z k) → Deep H (.ref a) := fun h k => deep_t h fun y hy => by
    simp only [List.mem_cons, List.not_mem_nil, or_false] at hy
    rcases hy with rfl | rfl
    · exact v_str
    · exact k
  intro v hv
  simp only [List.cons_append, List.nil_append, List.mem_cons, List.not_mem_nil, or_false] at hv
  rcases hv with rfl | rfl | rfl | rfl | rfl | rfl | rfl | rfl | rfl | rfl | rfl | rfl
  · exact deep_nt .non rfl
  · exact ⟨deep_t h1 fun y hy => by rw [List.mem_singleton] at hy; subst hy; exact v_str, by unfold isFactV; rw [tupV_at h1]⟩
  · exact ⟨two h3 vL, by rw [fact_pair h3 et]; unfold tupV; simp only [hL]⟩
  · refine ⟨two h4 vc, ?_⟩
    rw [fact_pair h4 et, tupV_at hc]
    rcases hk with ⟨c, v, hp, rfl, _⟩ | ⟨c, d, v, o, hp, rfl, _⟩ <;> rw [hp] <;> rfl
  · refine ⟨two h5 vb, ?_⟩
    rw [fact_pair h5 et, tupV_at hb]
    unfold spanI
    rcases hk with ⟨c, v, hp, rfl, _⟩ | ⟨c, d, v, o, hp, rfl, _⟩ <;> rw [hp] <;> rfl
  · refine ⟨deep_t hq fun y hy => ?_, ?_⟩
    · obtain ⟨i, _, rfl⟩ := List.mem_map.mp hy
      exact v_int
    · unfold isFactV; rw [tupV_at hq]
      rcases hk with ⟨c, v, hp, rfl, _⟩ | ⟨c, d, v, o, hp, rfl, _⟩ <;> rfl
  · exact ⟨two h7 vq, by unfold isFactV; rw [tupV_at h7]; dsimp only; rw [e0]⟩
  · refine ⟨two h8 v8, ?_⟩
    rw [fact_pair h8 et, tupV_at hr8]
    unfold spanI
    rcases hk with ⟨c, v, hp, rfl, l1⟩ | ⟨c, d, v, o, hp, rfl, l1, l2⟩ <;> rw [hp]
    · show (decide (1 = 1) && (belowV (.int 6) (sizeI cs c) && true)) = false
      have : belowV (.int 6) (sizeI cs c) = false := decide_eq_false (by omega)
      rw [this]; rfl
    · show (decide (2 = 2) && (belowV (.int 6) (sizeI cs c) && (belowV (.int 6) (sizeI cs d) && true))) = false
      have : belowV (.int 6) (sizeI cs c) = false := decide_eq_false (by omega)
      rw [this]; rfl
  · refine ⟨two h9 v9, ?_⟩
    rw [fact_pair h9 et, tupV_at hr9]
    unfold spanI
    rcases hk with ⟨c, v, hp, rfl, l1⟩ | ⟨c, d, v, o, hp, rfl, l1, l2⟩ <;> rw [hp]
    · show (decide (1 = 1) && (belowV (.int (-1)) (sizeI cs c) && true)) = false
      have : belowV (.int (-1)) (sizeI cs c) = false := by
        show decide ((0 : Int) ≤ -1 ∧ (-1 : Int) < sizeI cs c) = false
        exact decide_eq_false (by omega)
      rw [this]; rfl
    · show (decide (2 = 2) && (belowV (.int (-1)) (sizeI cs c) && (belowV (.int (-1)) (sizeI cs d) && true))) = false
      have : belowV (.int (-1)) (sizeI cs c) = false := by
        show decide ((0 : Int) ≤ -1 ∧ (-1 : Int) < sizeI cs c) = false
        exact decide_eq_false (by omega)
      rw [this]; rfl
  · refine ⟨deep_t h10 fun y hy => ?_, by unfold isFactV; rw [tupV_at h10]⟩
    simp only [List.mem_cons, List.not_mem_nil, or_false] at hy
    rcases hy with rfl | rfl | rfl
    · exact v_str
    · exact vq
    · exact v_int
  · exact deep_nt (.lst h11) (by unfold tupV; simp only [h11])
  · exact deep_nt (.dict h12) (by unfold tupV; simp only [h12])
end As

/-! ## C8 -/
set_option maxHeartbeats 4000000
namespace As
open PySem PySem.Spec PyProof.Rows L2 LamX
theorem passF {X : Cx} : Passes (L2.CX X.prog X.w) X E0 := fun _ _ _ _ _ _ _ ⟨_, _, _, _, _, _, _, _, _, _, _, _, h⟩ => h.elim
section
variable {X : Cx} {sp : Sp} {x : Str} {f : Addr} {fd : FuncData} {ps : List Str} {k : Nat} {st : Stmt} {p pos : Pos} {e : Expr} {es : List Expr} {t : TA}
theorem pcallX (D : Df X.K X.mg x st ps f fd) (G : FnOk X.prog X.w X.K X.mg X.base (L2.CX X.prog X.w) k f fd ps sp) (hr : Room k X.A) (ha : PA X (e :: es) t) (hg : Gl X x := by rfl)
    (he : starEach (e :: es) X.env = (false, eval e X.env) :: starEach es X.env := by rfl) (hpl : (backTo pos (starEach es X.env)).any (·.1) = false := by rfl) (hdb : (x == ("__debug__" : Str)) = false := by decide) :
    PE X (.Call (.Name x p) (e :: es) [] pos) (tCall sp [] E0 t) := pe_call G hr hg D.m D.F.kp D.b .nil passF ha (he := he) (hpl := hpl) (hdb := hdb)
end
abbrev nLaw : List Str := ["script", "state", "turn", "columns", "tables", "plan", "every", "each", "fact", "due", "told", "look", "table", "row", "some", "odd"]
theorem sc_law : FnScope nLaw ["script"] (defScope s_law) := ⟨rfl, rfl, rfl, by decide +kernel, rfl, by decide +kernel, by decide +kernel⟩
section
variable {P : Program} {w : World} {K : PySem.W.Frag} {mg : Str → Option Value} {base : Heap}
/-- the other names that the law wants -/
structure Bi2 (mg : Str → Option Value) : Prop where
  en : mg "enumerate" = none
  zi : mg "zip" = none
  ve : mg "ValueError" = none
def lawTbl (PT : Addr) : List (Addr × Str) := [(PT, (Str.ofString "law" ++ ".<locals>.") ++ "<lambda>")]
def spLawT (K : PySem.W.Frag) (PT : Addr) : Sp := fun vs H Q _ => ∃ (s : Addr) (ns : List Int), vs = [.ref s] ∧ SqL K H s (ns.map V.int) ∧ ns.length ≤ 63 ∧ H PT = some (.tbl #[]) ∧ ∀ H', Q (.bl true) H'
theorem ok_law {fa fs fp fm fc ft ff fk fi fe fz fl fx fg C CA CB cL PT : Addr} {dfs dp dm dc dt df dk di de dz dl dx : FuncData} {c : Nat → Addr} {oc doc pm kV ct : Value} {od an : Option Addr} {osl : Array (Option Value)}
    (lk : K.lookup fa = some ⟨oc, od, .func (PySem.W.fnOf "law" "law" (defArgs s_law) (defBody s_law) (defScope s_law) .none kV doc pm an (.ref cL) ct), osl⟩) (hcd : PySem.W.codeIn K (.ref cL) "law" = true) (TB : TabB base mg cL PT)
    (T : Bi mg) (T2 : Bi2 mg) (L : PlC K mg C) (Mk' : Mk K C fi) (bI : Binds K di ["self", "columns", "tables"] []) (Gi : FnOk P w K mg base CX0 4 fi di ["self", "columns", "tables"] (spInit K C))
    (Ds : Df K mg "_law_state" s_state ["script"] fs dfs) (Gs : FnOk P w K mg base CX0 1 fs dfs ["script"] (spState K))
    (Dp : Df K mg "_law_pick" s_pick ["state", "some"] fp dp) (Gp : FnOk P w K mg base CX0 2 fp dp ["state", "some"] spPick)
    (Dm : Df K mg "_law_mixed" s_mixed ["state", "some"] fm dm) (Gm : FnOk P w K mg base CX0 2 fm dm ["state", "some"] (spMixed K))
    (Dc : Df K mg "_law_columns" s_lcolumns ["state", "most", "size_most"] fc dc) (Gc : FnOk P w K mg base CX0 4 fc dc ["state", "most", "size_most"] spLCols)
    (Dt : Df K mg "_law_tables" s_ltables ["state", "columns", "most"] ft dt) (Gt : FnOk P w K mg base CX0 4 ft dt ["state", "columns", "most"] spLTabs)
    (Df' : Df K mg "_law_facts" s_lfacts ["columns", "tables"] ff df) (Gf : FnOk P w K mg base CX0 1 ff df ["columns", "tables"] spLFacts)
    (Dk : Df K mg "_law_looks" s_llooks ["columns", "tables"] fk dk) (Gk : FnOk P w K mg base CX0 1 fk dk ["columns", "tables"] spLLooks)
    (De : Df K mg "_law_sees" s_lsees ["look", "fact"] fe de) (Ge : FnOk P w K mg base CX0 1 fe de ["look", "fact"] spSees)
    (Dz : Df K mg "sees" s_sees ["look", "fact"] fz dz) (Gz : FnOk P w K mg base CX0 1 fz dz ["look", "fact"] spSees)
    (Dl : Df K mg "_law_crossed" s_crossed ["each", "every"] fl dl) (Gl' : FnOk P w K mg base CX0 2 fl dl ["each", "every"] spCrossed)
    (Dx : Df K mg "seers" s_seers ["plan", "fact"] fx dx) (Gx : FnOk P w K mg base (L2.CX P w) 5 fx dx ["plan", "fact"] (spSeers C CB))
    {ocg docg pmg kVg cdg ctg : Value} {odg ang : Option Addr} {oslg : Array (Option Value)}
    (mS : mg "_law_said" = some (.ref fg)) (kS : PySem.W.keepIn K (.ref fg) = true) (lS : K.lookup fg = some ⟨ocg, odg, .func (PySem.W.fnOf "_law_said" "_law_said" (defArgs s_said) (defBody s_said) (defScope s_said) .none kVg docg pmg ang cdg ctg), oslg⟩) (cS : PySem.W.codeIn K cdg "_law_said" = true)
    (bS : L2.Binds K (PySem.W.fnOf "_law_said" "_law_said" (defArgs s_said) (defBody s_said) (defScope s_said) .none kVg docg pmg ang cdg ctg) ["work"] []) (S : SaidF K mg c CA CB 1) :
    FnOk P w K mg base CX0 8 fa (PySem.W.fnOf "law" "law" (defArgs s_law) (defBody s_law) (defScope s_law) .none kV doc pm an (.ref cL) ct) ["script"] (spLawT K PT) := by
  refine fn_of lk hcd sc_law (fun vs H Q E h => ?_) (fun A outer s H vs Q E hr h => ?_)
  · obtain ⟨s, ns, rfl, _⟩ := h; rfl
  · obtain ⟨sa, ns, rfl, hs, hl, hP, q⟩ := h
    have hr1 : Room 1 _ := hr.mono (by decide)
    have hr2 : Room 2 _ := hr.mono (by decide)
    have hr4 : Room 4 _ := hr.mono (by decide)
    have hr5 : Room 5 _ := hr.mono (by decide)
    refine ⟨_, PSs.nox (pss_cons (ps_set (i := 1) sc_law.nd rfl (Or.inl rfl) (pcall Ds Gs hr1 (pa_cons (pv 0) pa_nil)))
      (pss_cons (ps_for PassesOwn.never rfl (pi_range1 rfl T.range (pa_cons (pe_op op_add pe_int (pe_callB (call_min2 rfl) (by rfl) T.min (by decide +kernel) (pa_cons (pe_callB call_len_seq (by rfl) T.len PySem.boot_len (pa_cons (pv 0) pa_nil)) (pa_cons pe_int pa_nil)))) pa_nil)) (pg_name (i := 2) sc_law.nd rfl (Or.inl rfl))
        (pss_cons (ps_set (i := 3) sc_law.nd rfl (Or.inl rfl) (pcall Dc Gc hr4 (pa_cons (pv 1) (pa_cons pe_int (pa_cons pe_int pa_nil)))))
        (pss_cons (ps_set (i := 4) sc_law.nd rfl (Or.inl rfl) (pcall Dt Gt hr4 (pa_cons (pv 1) (pa_cons (pv 3) (pa_cons pe_int pa_nil)))))
        (pss_cons (ps_set (i := 5) sc_law.nd rfl (Or.inr rfl) (pe_make Mk' Gi hr5 rfl L.m bI .nil pass0 (pa_cons (pv 3) (pa_cons (pv 4) pa_nil))))
        (pss_cons (ps_par (i := 6) (j := 7) rfl sc_law.nd rfl rfl (by decide) rfl rfl (pa_cons (pcall Df' Gf hr1 (pa_cons (pv 3) (pa_cons (pv 4) pa_nil))) (pa_cons (pcall Dk Gk hr1 (pa_cons (pv 3) (pa_cons (pv 4) pa_nil))) pa_nil)) (by rfl))
        (pss_cons (ps_for PassesOwn.never rfl (pi_list (pv 6)) (pg_name (i := 8) sc_law.nd rfl (Or.inr rfl))
          (pss_cons (ps_setLc (i := 9) (own := [("look", 11)]) (g := gName 11) (tt := tB (tCall spSees [] E0 (tCons (tVar 11) (tCons (tVar 8) tNil)))) rfl sc_law.nd rfl rfl (sw_true rfl rfl rfl (by decide +kernel)) (pi_list (pv 7))
            (blkOk_by (N := nLaw) (sc := defScope s_law) (by decide +kernel)) (fun _ _ _ _ _ => pg_name (i := 11) sc_law.nd rfl (Or.inl rfl))
            (fun _ _ _ _ _ => pts_one (pt_val (pcall De Ge hr1 (pa_cons (pv 11) (pa_cons (pv 8) pa_nil))))) (fun _ _ _ _ _ => pv 11))
          (pss_cons (ps_set (i := 10) sc_law.nd rfl (Or.inl rfl) (pcallX Dx Gx hr5 (pa_cons (pv 5) (pa_cons (pv 8) pa_nil))))
          (pss_one (ps_if (PW.pt (pw_or (pt_not (pt_val (pe_callB call_isi (by rfl) T.isinst (by decide +kernel) (pa_cons (pv 10) (pa_cons (pe_bltn (v := .ty "tuple") (by rfl) T.tuple (by decide +kernel) rfl) pa_nil)))))
            (pw_or (pt_cmpR (op_neD (hu64 hr)) (pe_callTy call_list_of (by rfl) T.list boot_list (pa_cons (pv 10) pa_nil)) (pv 9) (nomark _))
            (pw_or1 (pt_cmpR op_ne (pe_callB call_len_seq (by rfl) T.len PySem.boot_len (pa_cons (pv 9) pa_nil)) (pe_callB call_len_seq (by rfl) T.len PySem.boot_len (pa_cons (pe_ix ix_tup (pv 8) pe_int (fun _ _ => rfl)) pa_nil)) (nomark _)))))) (pss_one (ps_ret pe_bl)) pss_nil)))))
        (pss_cons (ps_for PassesOwn.never rfl (pi_list (pe_slice sl_list (pcall Dm Gm hr2 (pa_cons (pv 1) (pa_cons (pv 7) pa_nil))) po_none (po_some pe_int))) (pg_name (i := 11) sc_law.nd rfl (Or.inl rfl))
          (pss_one (ps_for PassesOwn.never rfl (pi_list (pv 6)) (pg_name (i := 8) sc_law.nd rfl (Or.inr rfl))
            (pss_cons (ps_set (i := 10) sc_law.nd rfl (Or.inl rfl) (pcall Dz Gz hr1 (pa_cons (pv 11) (pa_cons (pv 8) pa_nil))))
            (pss_one (ps_if (PW.pt (pw_or (pt_not (pt_val (pe_callB call_isi (by rfl) T.isinst (by decide +kernel) (pa_cons (pv 10) (pa_cons (pe_bltn (v := .ty "bool") (by rfl) T.bool (by decide +kernel) rfl) pa_nil)))))
              (pw_or1 (pt_cmpR op_ne (pv 10) (pcall De Ge hr1 (pa_cons (pv 11) (pa_cons (pv 8) pa_nil))) (nomark _))))) (pss_one (ps_ret pe_bl)) pss_nil))))))
        (pss_cons (ps_if (pt_not (pt_val (pcall Dl Gl' hr2 (pa_cons (pe_slice sl_list (pcall Dm Gm hr2 (pa_cons (pv 1) (pa_cons (pv 7) pa_nil))) po_none (po_some pe_int)) (pa_cons (pv 6) pa_nil))))) (pss_one (ps_ret pe_bl)) pss_nil)
        (pss_cons (ps_asg (pcall Dp Gp hr2 (pa_cons (pv 1) (pa_cons (pv 6) pa_nil))) (pg_tup rfl (pgs_cons (pg_name (i := 12) sc_law.nd rfl (Or.inl rfl)) (pgs_cons (pg_name (i := 13) sc_law.nd rfl (Or.inl rfl)) pgs_nil))))
        (pss_cons (ps_set (i := 14) sc_law.nd rfl (Or.inl rfl) (pe_lst (pa_cons pe_non (pa_cons (pe_tup (pa_cons (pv 12) pa_nil)) (pa_cons (pe_tup (pa_cons (pv 12) (pa_cons (pe_callTy call_list_of (by rfl) T.list boot_list (pa_cons (pv 13) pa_nil)) pa_nil)))
          (pa_cons (pe_tup (pa_cons (pv 12) (pa_cons (pe_op op_catT (pv 13) (pe_tup (pa_cons pe_int pa_nil))) pa_nil))) (pa_cons (pe_tup (pa_cons (pv 12) (pa_cons (pe_tup (pa_cons pe_bl pa_nil)) pa_nil))) (pa_cons (pv 13) (pa_cons (pe_tup (pa_cons pe_str (pa_cons (pv 13) pa_nil))) pa_nil)))))))))
        (pss_cons (ps_set (i := 14) sc_law.nd rfl (Or.inl rfl) (pe_op op_cat (pv 14) (pe_lst (pa_cons (pe_tup (pa_cons (pv 12) (pa_cons (pe_op (op_repT1.or op_repT) (pe_tup (pa_cons pe_int pa_nil)) (pe_callB call_len_seq (by rfl) T.len PySem.boot_len (pa_cons (pv 13) pa_nil))) pa_nil)))
          (pa_cons (pe_tup (pa_cons (pv 12) (pa_cons (pe_op (op_repT1.or op_repT) (pe_tup (pa_cons (pe_un un_neg pe_int) pa_nil)) (pe_callB call_len_seq (by rfl) T.len PySem.boot_len (pa_cons (pv 13) pa_nil))) pa_nil)))
          (pa_cons (pe_tup (pa_cons (pv 12) (pa_cons (pv 13) (pa_cons pe_int pa_nil)))) (pa_cons (pe_lst (pa_cons (pv 12) (pa_cons (pv 13) pa_nil))) (pa_cons pe_dnewK pa_nil))))))))
        (pss_cons (ps_set (i := 15) sc_law.nd rfl (Or.inr rfl) (pcall Dp Gp hr2 (pa_cons (pv 1) (pa_cons (pv 14) pa_nil))))
        (pss_one (ps_if (pt_cmpR (op_neD (hu64 hr)) (pe_lamcall (T := lawTbl PT) (TT := TTsaid CB "fact") (k := 5) (t := fun E => tCallS (spSeers C CB) (fun _ => E) (tCons (tVar 5) (tCons (tVar 15) tNil))) (by rfl) mS kS lS cS bS sc_said rfl (by first | exact Or.inl rfl | exact Or.inr (Or.inl rfl)) (said_gives T T2.ve S (fun _ => rfl)) TB rfl (List.mem_singleton.mpr rfl) (fun p hp _ => (List.mem_singleton.mp hp) ▸ rfl) hr (lamS_by (sc := defScope s_law) (by decide +kernel)) rfl (fun _ _ _ _ _ => rfl)
          (fun A outer s H E f c' hr' => pe_callS (E := WE fun cls d _ H => E cls d H) Gx hr' (by rfl) Dx.m Dx.F.kp Dx.b (fun σ => passAt (takes_of rfl rfl rfl rfl) σ) (pa_cons (pv 5) (pa_cons (pv 15) pa_nil)))) (pe_lst (pa_cons pe_str pa_nil)) (nomark _)) (pss_one (ps_ret pe_bl)) pss_nil))))))))))))))
      (pss_one (ps_ret pe_bl)))), ?_⟩
    have nsl : (ns.map V.int).length = ns.length := List.length_map _
    refine ⟨_, rfl, sa, ns, rfl, hs, hl, fun a c H1 g1 => ?_⟩
    have hP1 := g1.ex _ _ hP
    refine ⟨_, rfl, sa, _, rfl, .inl (g1.ex.seq hs), _, 4, rfl, 2, _, rfl, rfl, _, rfl, ?_, ?_, for_range (lo := 0) (fun i σ H' => ∃ x2 x3 x4 x5 x6 x7 x8 x9 x10 x11 x12 x13 x14 x15, σ = [some (.ref sa), some (.ref a), x2, x3, x4, x5, x6, x7, x8, x9, x10, x11, x12, x13, x14, x15] ∧ StAt H' a c ∧ Tabs (lawTbl PT) H')
      ⟨none, none, none, none, none, none, none, none, none, none, none, none, none, none, rfl, g1.st, fun p hp => by rw [List.mem_singleton.mp hp]; exact TabS.nil hP1⟩ ?_ ?_⟩
    · split <;> omega
    · rw [nsl]; split <;> omega
    · rintro i σ H4 _ ⟨x2, x3, x4, x5, x6, x7, x8, x9, x10, x11, x12, x13, x14, x15, rfl, st4, tb4⟩
      have g4 := but2_gd st4
      refine ⟨_, rfl, a, c, 4, 6, but2 H4 a c, rfl, g4, ⟨by decide, by decide⟩, ⟨by decide, by decide⟩, fun cl cs B5 H5 s5 g5 n5 hcl okc => ?_⟩
      refine ⟨_, rfl, _, rfl, a, c, cl, 4, cs, B5, rfl, g5, hcl, okc, ⟨by decide, by decide⟩, fun tb ts B6 H6 s6 g6 n6 htb okt => ?_⟩
      have hcl6 := s6 _ _ hcl
      have okc6 := okc.same s6
      refine ⟨_, rfl, _, rfl, fun y dy ny ndy ne => make_plan ny ndy ne (.inl (g6.ex _ _ hcl6)) (.inl (g6.ex _ _ htb)) (okc6.same g6.ex) (okt.same g6.ex) fun H7 s7 pl7 => ⟨rfl, ?_⟩⟩
      have g7 := g6.same s7
      have hcl7 := s7 _ _ (g6.ex _ _ hcl6)
      have htb7 := s7 _ _ (g6.ex _ _ htb)
      have okc7 := okc6.same g7.ex
      have okt7 := okt.same g7.ex
      refine ⟨_, rfl, _, rfl, cl, tb, cs, ts, rfl, hcl7, htb7, okc7, okt7, fun pe fs H8 s8 n8 hpe8 fat8 keyf => ?_⟩
      refine ⟨_, rfl, _, rfl, cl, tb, cs, ts, rfl, s8 _ _ hcl7, s8 _ _ htb7, okc7.same s8, okt7.same s8, fun pk ls H9 s9 n9 hpk9 lat9 keyl => ⟨_, _, rfl, ?_⟩⟩
      have pea := g7.ne_a n8
      have pec := g7.ne_c n8
      have pka := (g7.same s8).ne_a n9
      have pkc := (g7.same s8).ne_c n9
      have s79 := s8.trans s9
      have st9 := (g7.same s79).st
      have g9 := but2_gd st9
      have pl := (pl7.same s79).sub (B := but2 H9 a c) fun b o e n _ => but2_obj st9 e n
      have okc9 : ColsOk (but2 H9 a c) cs := okc.same (s6.trans (but2_sub (g7.same s79)))
      have okt9 : TabsOk (but2 H9 a c) (cs.map (·.2.1)) ts := okt.same (but2_sub (g7.same s79))
      have hpe : (but2 H9 a c) pe = some (.lst (fs.map fv)) := by rw [but2_at pea pec]; exact s9 _ _ hpe8
      have hpk : (but2 H9 a c) pk = some (.lst (ls.map lv)) := by rw [but2_at pka pkc]; exact hpk9
      have fat : ∀ r ∈ fs, FAt (but2 H9 a c) r := fun r hr => ⟨but2_obj st9 (s9 _ _ (fat8 r hr).1) (fun _ z => nomatch z), but2_obj st9 (s9 _ _ (fat8 r hr).2) (fun _ z => nomatch z)⟩
      have lat : ∀ r ∈ ls, LAt (but2 H9 a c) r := fun r hr => but2_obj st9 (lat9 r hr) (fun _ z => nomatch z)
      have tb9 : Tabs (lawTbl PT) (but2 H9 a c) := fun p hp => by
        obtain ⟨ps, e1, e2, e3⟩ := tb4 p hp
        have up : ∀ b o, H4 b = some o → (∀ xs, o ≠ .lst xs) → (but2 H9 a c) b = some o := fun b o e n =>
          but2_sub (g7.same s79) _ _ (s6 _ _ (s5 _ _ (but2_obj st4 e n)))
        refine ⟨ps, up _ _ e1 (fun _ z => nomatch z), e2, fun pos cv hc => ?_⟩
        obtain ⟨c', e4, e5⟩ := e3 pos cv hc
        exact ⟨c', e4, up _ _ e5 (fun _ z => nomatch z)⟩
      -- what is known of the lists
      have nd := okt.nd
      have permf : (fs.map (·.2.2)).Perm (ts.flatMap (factsT cs)) := by rw [keyf]; exact sortF_perm _
      have perml : (ls.map (·.2)).Perm (ts.flatMap (looksT cs)) := by rw [keyl]; exact sortL_perm _
      have ofT : ∀ f ∈ fs, ∃ r ∈ ts, OfT cs r f.2.2 := fun f hf => by
        have h := permf.mem_iff.mp (List.mem_map.mpr ⟨f, hf, rfl⟩)
        obtain ⟨r, hr, h⟩ := List.mem_flatMap.mp h
        exact ⟨r, hr, factsT_of h⟩
      have lofT : ∀ l ∈ ls, ∃ r ∈ ts, LofT cs r l.2 := fun l hl => by
        have h := perml.mem_iff.mp (List.mem_map.mpr ⟨l, hl, rfl⟩)
        obtain ⟨r, hr, h⟩ := List.mem_flatMap.mp h
        exact ⟨r, hr, looksT_of h⟩
      have own : ∀ l ∈ ls, ∀ f ∈ fs, l.2.1 = f.2.2.1 → ∃ v, atI f.2.2.2 l.2.2.1 = some v := fun l hl f hf e => by
        obtain ⟨r, hr, hk⟩ := ofT f hf
        obtain ⟨r', hr', hk'⟩ := lofT l hl
        exact own_at nd hr hr' hk' hk e
      have nmL : ∀ l ∈ ls, PyData.strOk l.2.1 = true := fun l hl => by
        obtain ⟨r, hr, hk⟩ := lofT l hl
        rw [hk.1]; exact name_ok (okt.nm r hr)
      have flen : fs.length ≤ 1000 := by
        have h := permf.length_eq
        rw [List.length_map] at h
        rw [h]; exact facts_max okc9 okt9
      have llen : ls.length ≤ 1000 := by
        have h := perml.length_eq
        rw [List.length_map] at h
        rw [h]; exact looks_max okc9 okt9
      have fpos : 0 < fs.length := by
        have h := permf.length_eq
        rw [List.length_map] at h
        rw [h]; exact facts_pos okc9 okt9
      have fln : (fs.map fv).length = fs.length := List.length_map _
      have lln : (ls.map lv).length = ls.length := List.length_map _
      generalize but2 H9 a c = B at g9 pl okc9 okt9 hpe hpk fat lat tb9
      clear g4 g5 g6 g7 hcl6 hcl7 htb7 okc7 okt7 pl7 hpe8 fat8 hpk9 lat9 s79 st9 s8 s9 s7 s6 s5 tb4 st4 okc6 hcl htb hP1 g1
      -- each fact: the looks that see it
      refine ⟨_, rfl, pe, rfl, ⟨_, lof (g9.ex _ _ hpe)⟩, for_list (K := K) (a := pe) (xs := fs.map fv) (fun j σ H' => ∃ x8 x9 x10 x11 x12 x13 x14 x15, σ = [some (.ref sa), some (.ref a), some (.int (0 + (i : Nat))), some (.ref cl), some (.ref tb), some (.ref y), some (.ref pe), some (.ref pk), x8, x9, x10, x11, x12, x13, x14, x15] ∧ Gd a c B H')
        ⟨_, _, _, _, _, _, _, _, rfl, g9⟩ (fun j σ H' _ ⟨_, _, _, _, _, _, _, _, _, g'⟩ => lof (g'.ex _ _ hpe)) ?_ ?_⟩
      · rintro j x σ H10 hx ⟨x8, x9, x10, x11, x12, x13, x14, x15, rfl, g10⟩
        rw [List.getElem?_map] at hx
        obtain ⟨f, hf, rfl⟩ := Option.map_eq_some_iff.mp hx
        have fm := List.mem_of_getElem? hf
        obtain ⟨r, hr, hk⟩ := ofT f fm
        refine ⟨_, rfl, pk, rfl, ⟨_, lof (g10.ex _ _ hpk)⟩, fun D nD => ?_⟩
        refine lc_new (H1 := H10) (walk_at (K := K) (a := pk) (xs := ls.map lv) .non) nD (fun H2 s2 => lof (s2 _ _ (g10.ex _ _ hpk))) (by rw [lln]; exact Nat.lt_of_le_of_lt llen (by decide)) (fun i acc _ => acc = ((ls.take i).filter fun l => seesB l.2 f.2.2).map lv) rfl (fun _ _ _ _ _ h => h)
          (fun j H11 acc Q1 Q2 hj s11 p k1 k2 => ?_) (fun H11 acc s11 hD p => ?_)
        · rw [lln] at hj
          obtain ⟨l, hl'⟩ : ∃ l, ls[j]? = some l := ⟨_, List.getElem?_eq_getElem hj⟩
          have lm := List.mem_of_getElem? hl'
          have e1 := g10.ex.trans s11
          rw [getD_map hl']
          rw [take_filter (p := fun l : LRow => seesB l.2 f.2.2) hl'] at k1 k2
          refine ⟨rfl, _, rfl, _, rfl, l, f, rfl, e1 _ _ (lat l lm), (fat f fm).imm (same_imm e1), own l lm f fm, ?_⟩
          show ∃ k, V.bl (seesB l.2 f.2.2) = .bl k ∧ _
          refine ⟨_, rfl, ?_⟩
          cases e : seesB l.2 f.2.2 with
          | true =>
            rw [e] at k1
            refine iteT ⟨_, rfl, k1 _ _ (Same.refl _) ?_⟩
            rw [p, List.map_append]; rfl
          | false =>
            rw [e] at k2
            refine iteF (k2 _ (Same.refl _) ?_)
            rw [p]; simp
        rw [lln, List.take_length] at p
        subst p
        have g11 := g10.same s11
        obtain ⟨due, edue⟩ : ∃ due, ls.filter (fun l => seesB l.2 f.2.2) = due := ⟨_, rfl⟩
        have kdue : due.map (·.2) = sidesOf f.2.2 := by
          rw [← edue, ← due_eq nd hr hk, ← keyl, List.filter_map]; rfl
        have mdue : ∀ l ∈ due, l ∈ ls := fun l hl => by rw [← edue] at hl; exact (List.mem_filter.mp hl).1
        rw [edue] at hD
        have fl2 : f.2.2.2.length ≤ 2 := by
          obtain ⟨_, ⟨c1, v, _, hv, _⟩ | ⟨c1, d, v, o, _, hv, _⟩⟩ := hk <;> rw [hv] <;> simp
        refine ⟨_, rfl, _, rfl, y, fv f, cs, ts, rfl, pl.same g11.ex, okc9.same g11.ex, okt9.same g11.ex, deep_f ((fat f fm).imm (same_imm g11.ex)), .inl ⟨f, rfl, (fat f fm).imm (same_imm g11.ex), fl2, isFact_of nd hr ((fat f fm).imm (same_imm g11.ex)) hk, fun t tl H12 s12 ht lat2 ktl => ?_⟩⟩
        have g12 := g11.same s12
        refine ⟨_, rfl, _, _, _, _, true, rfl, .ty "tuple", .base (.tup ht), ktup_tup, true, rfl, iteF ?_⟩
        refine ⟨_, rfl, t, _, rfl, .inr (tof ht), fun L nL => ⟨_, rfl, ?_⟩⟩
        have sL : Same H12 (upd H12 L (.lst (tl.map lv))) := same_new nL
        have dl1 : L2.Dp K (upd H12 L (.lst (tl.map lv))) (.ref L) (.list ((sidesOf f.2.2).map lkD)) := .lst (lof upd_same) (by rw [← ktl]; exact dp_lks fun l hl => sL _ _ (lat2 l hl))
        have dl2 : L2.Dp K (upd H12 L (.lst (tl.map lv))) (.ref D) (.list ((sidesOf f.2.2).map lkD)) := .lst (lof (sL _ _ (s12 _ _ hD))) (by rw [← kdue]; exact dp_lks fun l hl => sL _ _ (g12.ex _ _ (lat l (mdue l hl))))
        have okd : ∀ k ∈ sidesOf f.2.2, PyData.strOk k.1 = true := fun k hk' => by
          rw [← kdue] at hk'
          obtain ⟨l, hl, rfl⟩ := List.mem_map.mp hk'
          exact nmL l (mdue l hl)
        have shp := shaped_lst (lay_lks okd) (depth_lks (ks := sidesOf f.2.2))
        refine ⟨_, _, dl1, dl2, shp, shp, _, rfl, ?_⟩
        rw [eqv_lks]
        refine iteF ⟨_, rfl, D, _, rfl, .inl (lof (sL _ _ (s12 _ _ hD))), _, rfl, f.1, _, 1, .ref f.2.1, rfl, rfl, tof ((fat f fm).imm (same_imm (g12.ex.trans sL))).1, rfl, f.2.1, _, rfl, .inr (tof ((fat f fm).imm (same_imm (g12.ex.trans sL))).2), rfl, _, rfl, ?_⟩
        have el : (due.map lv).length = (f.2.2.2.map V.int).length := by
          rw [List.length_map, List.length_map, ← sides_len hk, ← kdue, List.length_map]
        rw [el, show (!decide (V.int ((f.2.2.2.map V.int).length : Nat) = V.int ((f.2.2.2.map V.int).length : Nat))) = false by simp]
        exact iteF ⟨_, _, _, _, _, _, _, _, rfl, g12.same sL⟩
      · rintro σ H10 ⟨x8, x9, x10, x11, x12, x13, x14, x15, rfl, g10⟩
        -- looks in another order, against each fact
        refine ⟨_, rfl, _, rfl, a, c, pk, ls.map lv, B, rfl, g10, g10.ex _ _ hpk, by rw [lln]; exact llen, plain_lk lat nmL, fun m ys Bm Hm pm sm gm nm hm => ?_⟩
        obtain ⟨lm, plm, rfl⟩ := perm_rows pm ls rfl
        have lmm : ∀ l ∈ lm, l ∈ ls := fun l hl => plm.mem_iff.mp hl
        refine ⟨12, rfl, m, _, rfl, lof (gm.ex _ _ hm), fun S1 nS1 => ?_⟩
        rw [show (12 : Int) = ((12 : Nat) : Int) from rfl, cut_take, ← List.map_take]
        have gs := gm.add (o := .lst ((lm.take 12).map lv)) nS1
        have hS1 : (upd Bm S1 (.lst ((lm.take 12).map lv))) S1 = some (.lst ((lm.take 12).map lv)) := upd_same
        have sS : Same B (upd Bm S1 (.lst ((lm.take 12).map lv))) := sm.trans (same_new (gm.free nS1))
        generalize upd Bm S1 (.lst ((lm.take 12).map lv)) = B2 at gs hS1 sS
        generalize upd Hm S1 (.lst ((lm.take 12).map lv)) = H11 at gs ⊢
        have hpe2 := sS _ _ hpe
        refine ⟨S1, rfl, ⟨_, lof (gs.ex _ _ hS1)⟩, for_list (K := K) (a := S1) (xs := (lm.take 12).map lv) (fun j σ H' => ∃ x8 x9 x10 x11 x12 x13 x14 x15, σ = [some (.ref sa), some (.ref a), some (.int (0 + (i : Nat))), some (.ref cl), some (.ref tb), some (.ref y), some (.ref pe), some (.ref pk), x8, x9, x10, x11, x12, x13, x14, x15] ∧ Gd a c B2 H')
          ⟨_, _, _, _, _, _, _, _, rfl, gs⟩ (fun j σ H' _ ⟨_, _, _, _, _, _, _, _, _, g'⟩ => lof (g'.ex _ _ hS1)) ?_ ?_⟩
        · rintro j x σ H12 hx ⟨x8, x9, x10, x11, x12, x13, x14, x15, rfl, g12⟩
          rw [List.getElem?_map] at hx
          obtain ⟨l, hl', rfl⟩ := Option.map_eq_some_iff.mp hx
          have lls := lmm l (List.mem_of_mem_take (List.mem_of_getElem? hl'))
          refine ⟨_, rfl, pe, rfl, ⟨_, lof (g12.ex _ _ hpe2)⟩, for_list (K := K) (a := pe) (xs := fs.map fv) (fun j σ H' => ∃ x8 x9 x10 x12 x13 x14 x15, σ = [some (.ref sa), some (.ref a), some (.int (0 + (i : Nat))), some (.ref cl), some (.ref tb), some (.ref y), some (.ref pe), some (.ref pk), x8, x9, x10, some (lv l), x12, x13, x14, x15] ∧ Gd a c B2 H')
            ⟨_, _, _, _, _, _, _, rfl, g12⟩ (fun j σ H' _ ⟨_, _, _, _, _, _, _, _, g'⟩ => lof (g'.ex _ _ hpe2)) ?_ ?_⟩
          · rintro j2 x σ H13 hx2 ⟨x8, x9, x10, x12, x13, x14, x15, rfl, g13⟩
            rw [List.getElem?_map] at hx2
            obtain ⟨f, hf, rfl⟩ := Option.map_eq_some_iff.mp hx2
            have fm := List.mem_of_getElem? hf
            have e1 := sS.trans g13.ex
            refine ⟨_, rfl, _, rfl, l, f, rfl, e1 _ _ (lat l lls), (fat f fm).imm (same_imm e1), own l lls f fm, ?_⟩
            refine ⟨_, rfl, _, _, _, _, true, rfl, .ty "bool", .base (.bl _), kit_ty (by decide +kernel), true, rfl, iteF ?_⟩
            refine ⟨_, rfl, _, rfl, _, rfl, l, f, rfl, e1 _ _ (lat l lls), (fat f fm).imm (same_imm e1), own l lls f fm, rfl, _, rfl, ?_⟩
            rw [show ∀ b : Bool, (!decide (V.bl b = V.bl b)) = false from fun b => by simp]
            exact iteF ⟨_, _, _, _, _, _, _, rfl, g13⟩
          · rintro σ H13 ⟨x8, x9, x10, x12, x13, x14, x15, rfl, g13⟩
            exact ⟨_, _, _, _, _, _, _, _, rfl, g13⟩
        · rintro σ H12 ⟨x8, x9, x10, x11, x12, x13, x14, x15, rfl, g12⟩
          -- crossed
          refine ⟨_, rfl, _, rfl, a, c, pk, ls.map lv, B2, rfl, g12, g12.ex _ _ (sS _ _ hpk), by rw [lln]; exact llen, plain_lk (fun l hl => sS _ _ (lat l hl)) nmL, fun m2 ys2 Bm2 Hm2 pm2 sm2 gm2 nm2 hm2 => ?_⟩
          obtain ⟨l2, pl2, rfl⟩ := perm_rows pm2 ls rfl
          have l2m : ∀ l ∈ l2, l ∈ ls := fun l hl => pl2.mem_iff.mp hl
          refine ⟨14, rfl, m2, _, rfl, lof (gm2.ex _ _ hm2), fun S2 nS2 => ?_⟩
          rw [show (14 : Int) = ((14 : Nat) : Int) from rfl, cut_take, ← List.map_take]
          have g14 := gm2.new (o := .lst ((l2.take 14).map lv)) nS2
          have hS2 : (upd Hm2 S2 (.lst ((l2.take 14).map lv))) S2 = some (.lst ((l2.take 14).map lv)) := upd_same
          generalize upd Hm2 S2 (.lst ((l2.take 14).map lv)) = H14 at g14 hS2 ⊢
          have e14 := (sS.trans sm2).trans g14.ex
          refine ⟨_, rfl, S2, pe, l2.take 14, fs, rfl, hS2, e14 _ _ hpe, fun l hl => e14 _ _ (lat l (l2m l (List.mem_of_mem_take hl))), fun f hf => (fat f hf).imm (same_imm e14), by rw [List.length_take]; omega, flen, fun l hl f hf => own l (l2m l (List.mem_of_mem_take hl)) f hf, fun l hl o ho ac => ?_, fun H15 s15 => ⟨true, rfl, iteF ?_⟩⟩
          · have hl1 := l2m l (List.mem_of_mem_take hl)
            have ho1 := l2m o (List.mem_of_mem_take ho)
            obtain ⟨r1, hr1, k1⟩ := lofT l hl1
            obtain ⟨r2, hr2, k2⟩ := lofT o ho1
            unfold acrossB at ac
            rw [Bool.and_eq_true] at ac
            have cr := crossed nd (fun r hr => (okt.two r hr).2) hr1 hr2 k1 k2 (of_decide_eq_true ac.1) (of_decide_eq_true ac.2)
            rw [← keyf, List.filter_map, List.filter_map, List.length_map] at cr
            exact cr
          have g15 := (g14.less (sS.trans sm2)).same s15
          obtain ⟨B16, eB⟩ : ∃ B16, B = B16 := ⟨_, rfl⟩
          have S16 : Same B B16 := eB ▸ Same.refl B
          refine ⟨_, rfl, _, rfl, a, c, .ref pe, rfl, g15.st, .inl ⟨pe, _, rfl, ne_of_none hpe g15.na, ne_of_none hpe g15.nc, g15.ex _ _ hpe, by rw [fln]; exact fpos, by rw [fln]; omega, fun v H16 hv st16 fr16 => ?_⟩⟩
          obtain ⟨f, fm, rfl⟩ := List.mem_map.mp hv
          have g16 := g15.fr fr16 st16
          rw [eB] at g16
          obtain ⟨r, hr, hk⟩ := ofT f fm
          have fT := (fat f fm).1
          have fR := (fat f fm).2
          have fl2 : f.2.2.2.length = 1 ∨ f.2.2.2.length = 2 := by
            obtain ⟨_, ⟨c1, v, _, hv, _⟩ | ⟨c1, d, v, o, _, hv, _⟩⟩ := hk <;> rw [hv] <;> simp
          have fl3 : (f.2.2.2.map V.int).length = f.2.2.2.length := List.length_map _
          refine ⟨f.1, _, rfl, tof (g16.ex _ _ (S16 _ _ fT)), rfl, _, _, rfl, _, _, rfl, rfl, ?_⟩
          refine ⟨_, rfl, by show 1 ≤ sizeLine; decide, fun t1 n_t1 => ?_⟩
          have g17 := g16.add (o := .tup [.str f.2.2.1]) n_t1
          have h_t1 : (upd B16 t1 (.tup [.str f.2.2.1])) t1 = some (.tup [.str f.2.2.1]) := upd_same
          have s17 : Same B16 (upd B16 t1 (.tup [.str f.2.2.1])) := same_new (g16.free n_t1)
          generalize upd B16 t1 (.tup [.str f.2.2.1]) = B17 at g17 h_t1 s17
          generalize upd H16 t1 (.tup [.str f.2.2.1]) = H17 at g17 ⊢
          have S17 := S16.trans s17
          refine ⟨_, rfl, _, rfl, f.2.1, _, rfl, .inr (tof (g17.ex _ _ (S17 _ _ fR))), fun L3 n_L3 => ?_⟩
          have g18 := g17.add (o := .lst (f.2.2.2.map V.int)) n_L3
          have h_L3 : (upd B17 L3 (.lst (f.2.2.2.map V.int))) L3 = some (.lst (f.2.2.2.map V.int)) := upd_same
          have s18 : Same B17 (upd B17 L3 (.lst (f.2.2.2.map V.int))) := same_new (g17.free n_L3)
          generalize upd B17 L3 (.lst (f.2.2.2.map V.int)) = B18 at g18 h_L3 s18
          generalize upd H17 L3 (.lst (f.2.2.2.map V.int)) = H18 at g18 ⊢
          have S18 := S17.trans s18
          refine ⟨by show 2 ≤ sizeLine; decide, fun t3 n_t3 => ?_⟩
          have g19 := g18.add (o := .tup [.str f.2.2.1, .ref L3]) n_t3
          have h_t3 : (upd B18 t3 (.tup [.str f.2.2.1, .ref L3])) t3 = some (.tup [.str f.2.2.1, .ref L3]) := upd_same
          have s19 : Same B18 (upd B18 t3 (.tup [.str f.2.2.1, .ref L3])) := same_new (g18.free n_t3)
          generalize upd B18 t3 (.tup [.str f.2.2.1, .ref L3]) = B19 at g19 h_t3 s19
          generalize upd H18 t3 (.tup [.str f.2.2.1, .ref L3]) = H19 at g19 ⊢
          have S19 := S18.trans s19
          refine ⟨_, rfl, _, rfl, by show 1 ≤ sizeLine; decide, fun u4 n_u4 => ?_⟩
          have g20 := g19.add (o := .tup [.int 0]) n_u4
          have h_u4 : (upd B19 u4 (.tup [.int 0])) u4 = some (.tup [.int 0]) := upd_same
          have s20 : Same B19 (upd B19 u4 (.tup [.int 0])) := same_new (g19.free n_u4)
          generalize upd B19 u4 (.tup [.int 0]) = B20 at g20 h_u4 s20
          generalize upd H19 u4 (.tup [.int 0]) = H20 at g20 ⊢
          have S20 := S19.trans s20
          refine ⟨f.2.1, u4, (f.2.2.2.map V.int), [.int 0], rfl, rfl, tof (g20.ex _ _ (S20 _ _ fR)), tof (g20.ex _ _ h_u4), (fun z => by have := congrArg List.length z; rw [fl3] at this; simp only [List.length_nil] at this; omega), by rw [fl3]; exact Nat.le_trans (show f.2.2.2.length + 1 ≤ 3 by omega) (by decide), (fun z => nomatch z), fun _ c4 n_c4 => ?_⟩
          have g21 := g20.add (o := .tup ((f.2.2.2.map V.int) ++ [.int 0])) n_c4
          have h_c4 : (upd B20 c4 (.tup ((f.2.2.2.map V.int) ++ [.int 0]))) c4 = some (.tup ((f.2.2.2.map V.int) ++ [.int 0])) := upd_same
          have s21 : Same B20 (upd B20 c4 (.tup ((f.2.2.2.map V.int) ++ [.int 0]))) := same_new (g20.free n_c4)
          generalize upd B20 c4 (.tup ((f.2.2.2.map V.int) ++ [.int 0])) = B21 at g21 h_c4 s21
          generalize upd H20 c4 (.tup ((f.2.2.2.map V.int) ++ [.int 0])) = H21 at g21 ⊢
          have S21 := S20.trans s21
          refine ⟨by show 2 ≤ sizeLine; decide, fun t4 n_t4 => ?_⟩
          have g22 := g21.add (o := .tup [.str f.2.2.1, .ref c4]) n_t4
          have h_t4 : (upd B21 t4 (.tup [.str f.2.2.1, .ref c4])) t4 = some (.tup [.str f.2.2.1, .ref c4]) := upd_same
          have s22 : Same B21 (upd B21 t4 (.tup [.str f.2.2.1, .ref c4])) := same_new (g21.free n_t4)
          generalize upd B21 t4 (.tup [.str f.2.2.1, .ref c4]) = B22 at g22 h_t4 s22
          generalize upd H21 t4 (.tup [.str f.2.2.1, .ref c4]) = H22 at g22 ⊢
          have S22 := S21.trans s22
          refine ⟨_, rfl, by show 1 ≤ sizeLine; decide, fun b5 n_b5 => ?_⟩
          have g23 := g22.add (o := .tup [.bl true]) n_b5
          have h_b5 : (upd B22 b5 (.tup [.bl true])) b5 = some (.tup [.bl true]) := upd_same
          have s23 : Same B22 (upd B22 b5 (.tup [.bl true])) := same_new (g22.free n_b5)
          generalize upd B22 b5 (.tup [.bl true]) = B23 at g23 h_b5 s23
          generalize upd H22 b5 (.tup [.bl true]) = H23 at g23 ⊢
          have S23 := S22.trans s23
          refine ⟨by show 2 ≤ sizeLine; decide, fun t5 n_t5 => ?_⟩
          have g24 := g23.add (o := .tup [.str f.2.2.1, .ref b5]) n_t5
          have h_t5 : (upd B23 t5 (.tup [.str f.2.2.1, .ref b5])) t5 = some (.tup [.str f.2.2.1, .ref b5]) := upd_same
          have s24 : Same B23 (upd B23 t5 (.tup [.str f.2.2.1, .ref b5])) := same_new (g23.free n_t5)
          generalize upd B23 t5 (.tup [.str f.2.2.1, .ref b5]) = B24 at g24 h_t5 s24
          generalize upd H23 t5 (.tup [.str f.2.2.1, .ref b5]) = H24 at g24 ⊢
          have S24 := S23.trans s24
          refine ⟨_, rfl, _, rfl, by show 2 ≤ sizeLine; decide, fun t7 n_t7 => ?_⟩
          have g25 := g24.add (o := .tup [.str (Str.ofString ""), .ref f.2.1]) n_t7
          have h_t7 : (upd B24 t7 (.tup [.str (Str.ofString ""), .ref f.2.1])) t7 = some (.tup [.str (Str.ofString ""), .ref f.2.1]) := upd_same
          have s25 : Same B24 (upd B24 t7 (.tup [.str (Str.ofString ""), .ref f.2.1])) := same_new (g24.free n_t7)
          generalize upd B24 t7 (.tup [.str (Str.ofString ""), .ref f.2.1]) = B25 at g25 h_t7 s25
          generalize upd H24 t7 (.tup [.str (Str.ofString ""), .ref f.2.1]) = H25 at g25 ⊢
          have S25 := S24.trans s25
          refine ⟨by show 7 ≤ sizeLine; decide, fun P1 n_P1 => ?_⟩
          have g26 := g25.add (o := .lst [.non, .ref t1, .ref t3, .ref t4, .ref t5, .ref f.2.1, .ref t7]) n_P1
          have h_P1 : (upd B25 P1 (.lst [.non, .ref t1, .ref t3, .ref t4, .ref t5, .ref f.2.1, .ref t7])) P1 = some (.lst [.non, .ref t1, .ref t3, .ref t4, .ref t5, .ref f.2.1, .ref t7]) := upd_same
          have s26 : Same B25 (upd B25 P1 (.lst [.non, .ref t1, .ref t3, .ref t4, .ref t5, .ref f.2.1, .ref t7])) := same_new (g25.free n_P1)
          generalize upd B25 P1 (.lst [.non, .ref t1, .ref t3, .ref t4, .ref t5, .ref f.2.1, .ref t7]) = B26 at g26 h_P1 s26
          generalize upd H25 P1 (.lst [.non, .ref t1, .ref t3, .ref t4, .ref t5, .ref f.2.1, .ref t7]) = H26 at g26 ⊢
          have S26 := S25.trans s26
          refine ⟨_, rfl, _, rfl, by show 1 ≤ sizeLine; decide, fun u6 n_u6 => ?_⟩
          have g27 := g26.add (o := .tup [.int 6]) n_u6
          have h_u6 : (upd B26 u6 (.tup [.int 6])) u6 = some (.tup [.int 6]) := upd_same
          have s27 : Same B26 (upd B26 u6 (.tup [.int 6])) := same_new (g26.free n_u6)
          generalize upd B26 u6 (.tup [.int 6]) = B27 at g27 h_u6 s27
          generalize upd H26 u6 (.tup [.int 6]) = H27 at g27 ⊢
          have S27 := S26.trans s27
          refine ⟨_, rfl, f.2.1, _, rfl, .inr (tof (g27.ex _ _ (S27 _ _ fR))), rep_either (K := K) (g27.ex _ _ h_u6) (by rw [fl3]; omega) fun r8 H28 e_r8 k_r8 => ?_⟩
          have q_r8 := (g27.same e_r8).st.ne k_r8 (fun _ z => nomatch z)
          have g28 := (g27.same e_r8).know k_r8 q_r8.1 q_r8.2
          have h_r8 : (upd B27 r8 (.tup (List.replicate ((((f.2.2.2.map V.int)).length : Nat) : Int).toNat [V.int 6]).flatten)) r8 = some (.tup (List.replicate ((((f.2.2.2.map V.int)).length : Nat) : Int).toNat [V.int 6]).flatten) := upd_same
          have s28 : Same B27 (upd B27 r8 (.tup (List.replicate ((((f.2.2.2.map V.int)).length : Nat) : Int).toNat [V.int 6]).flatten)) := fun b o' e => by
            by_cases hb : b = r8
            · subst hb; rw [upd_same, ← k_r8]; exact (g27.same e_r8).ex _ _ e
            · rw [upd_ne hb]; exact e
          generalize upd B27 r8 (.tup (List.replicate ((((f.2.2.2.map V.int)).length : Nat) : Int).toNat [V.int 6]).flatten) = B28 at g28 h_r8 s28
          have S28 := S27.trans s28
          refine ⟨by show 2 ≤ sizeLine; decide, fun t8 n_t8 => ?_⟩
          have g29 := g28.add (o := .tup [.str f.2.2.1, .ref r8]) n_t8
          have h_t8 : (upd B28 t8 (.tup [.str f.2.2.1, .ref r8])) t8 = some (.tup [.str f.2.2.1, .ref r8]) := upd_same
          have s29 : Same B28 (upd B28 t8 (.tup [.str f.2.2.1, .ref r8])) := same_new (g28.free n_t8)
          generalize upd B28 t8 (.tup [.str f.2.2.1, .ref r8]) = B29 at g29 h_t8 s29
          generalize upd H28 t8 (.tup [.str f.2.2.1, .ref r8]) = H29 at g29 ⊢
          have S29 := S28.trans s29
          refine ⟨_, rfl, 1, rfl, by show 1 ≤ sizeLine; decide, fun u9 n_u9 => ?_⟩
          have g30 := g29.add (o := .tup [.int (-1)]) n_u9
          have h_u9 : (upd B29 u9 (.tup [.int (-1)])) u9 = some (.tup [.int (-1)]) := upd_same
          have s30 : Same B29 (upd B29 u9 (.tup [.int (-1)])) := same_new (g29.free n_u9)
          generalize upd B29 u9 (.tup [.int (-1)]) = B30 at g30 h_u9 s30
          generalize upd H29 u9 (.tup [.int (-1)]) = H30 at g30 ⊢
          have S30 := S29.trans s30
          refine ⟨_, rfl, f.2.1, _, rfl, .inr (tof (g30.ex _ _ (S30 _ _ fR))), rep_either (K := K) (g30.ex _ _ h_u9) (by rw [fl3]; omega) fun r9 H31 e_r9 k_r9 => ?_⟩
          have q_r9 := (g30.same e_r9).st.ne k_r9 (fun _ z => nomatch z)
          have g31 := (g30.same e_r9).know k_r9 q_r9.1 q_r9.2
          have h_r9 : (upd B30 r9 (.tup (List.replicate ((((f.2.2.2.map V.int)).length : Nat) : Int).toNat [V.int (-1)]).flatten)) r9 = some (.tup (List.replicate ((((f.2.2.2.map V.int)).length : Nat) : Int).toNat [V.int (-1)]).flatten) := upd_same
          have s31 : Same B30 (upd B30 r9 (.tup (List.replicate ((((f.2.2.2.map V.int)).length : Nat) : Int).toNat [V.int (-1)]).flatten)) := fun b o' e => by
            by_cases hb : b = r9
            · subst hb; rw [upd_same, ← k_r9]; exact (g30.same e_r9).ex _ _ e
            · rw [upd_ne hb]; exact e
          generalize upd B30 r9 (.tup (List.replicate ((((f.2.2.2.map V.int)).length : Nat) : Int).toNat [V.int (-1)]).flatten) = B31 at g31 h_r9 s31
          have S31 := S30.trans s31
          refine ⟨by show 2 ≤ sizeLine; decide, fun t9 n_t9 => ?_⟩
          have g32 := g31.add (o := .tup [.str f.2.2.1, .ref r9]) n_t9
          have h_t9 : (upd B31 t9 (.tup [.str f.2.2.1, .ref r9])) t9 = some (.tup [.str f.2.2.1, .ref r9]) := upd_same
          have s32 : Same B31 (upd B31 t9 (.tup [.str f.2.2.1, .ref r9])) := same_new (g31.free n_t9)
          generalize upd B31 t9 (.tup [.str f.2.2.1, .ref r9]) = B32 at g32 h_t9 s32
          generalize upd H31 t9 (.tup [.str f.2.2.1, .ref r9]) = H32 at g32 ⊢
          have S32 := S31.trans s32
          refine ⟨_, rfl, _, rfl, by show 3 ≤ sizeLine; decide, fun t10 n_t10 => ?_⟩
          have g33 := g32.add (o := .tup [.str f.2.2.1, .ref f.2.1, .int 0]) n_t10
          have h_t10 : (upd B32 t10 (.tup [.str f.2.2.1, .ref f.2.1, .int 0])) t10 = some (.tup [.str f.2.2.1, .ref f.2.1, .int 0]) := upd_same
          have s33 : Same B32 (upd B32 t10 (.tup [.str f.2.2.1, .ref f.2.1, .int 0])) := same_new (g32.free n_t10)
          generalize upd B32 t10 (.tup [.str f.2.2.1, .ref f.2.1, .int 0]) = B33 at g33 h_t10 s33
          generalize upd H32 t10 (.tup [.str f.2.2.1, .ref f.2.1, .int 0]) = H33 at g33 ⊢
          have S33 := S32.trans s33
          refine ⟨_, rfl, _, rfl, by show 2 ≤ sizeLine; decide, fun l11 n_l11 => ?_⟩
          have g34 := g33.add (o := .lst [.str f.2.2.1, .ref f.2.1]) n_l11
          have h_l11 : (upd B33 l11 (.lst [.str f.2.2.1, .ref f.2.1])) l11 = some (.lst [.str f.2.2.1, .ref f.2.1]) := upd_same
          have s34 : Same B33 (upd B33 l11 (.lst [.str f.2.2.1, .ref f.2.1])) := same_new (g33.free n_l11)
          generalize upd B33 l11 (.lst [.str f.2.2.1, .ref f.2.1]) = B34 at g34 h_l11 s34
          generalize upd H33 l11 (.lst [.str f.2.2.1, .ref f.2.1]) = H34 at g34 ⊢
          have S34 := S33.trans s34
          refine fun d12 n_d12 => ?_
          have g35 := g34.add (o := .dK []) n_d12
          have h_d12 : (upd B34 d12 (.dK [])) d12 = some (.dK []) := upd_same
          have s35 : Same B34 (upd B34 d12 (.dK [])) := same_new (g34.free n_d12)
          generalize upd B34 d12 (.dK []) = B35 at g35 h_d12 s35
          generalize upd H34 d12 (.dK []) = H35 at g35 ⊢
          have S35 := S34.trans s35
          refine ⟨by show 5 ≤ sizeLine; decide, fun P2 n_P2 => ?_⟩
          have g36 := g35.add (o := .lst [.ref t8, .ref t9, .ref t10, .ref l11, .ref d12]) n_P2
          have h_P2 : (upd B35 P2 (.lst [.ref t8, .ref t9, .ref t10, .ref l11, .ref d12])) P2 = some (.lst [.ref t8, .ref t9, .ref t10, .ref l11, .ref d12]) := upd_same
          have s36 : Same B35 (upd B35 P2 (.lst [.ref t8, .ref t9, .ref t10, .ref l11, .ref d12])) := same_new (g35.free n_P2)
          generalize upd B35 P2 (.lst [.ref t8, .ref t9, .ref t10, .ref l11, .ref d12]) = B36 at g36 h_P2 s36
          generalize upd H35 P2 (.lst [.ref t8, .ref t9, .ref t10, .ref l11, .ref d12]) = H36 at g36 ⊢
          have S36 := S35.trans s36
          have c36 : Same B36 B36 := Same.refl _
          have c35 : Same B35 B36 := s36.trans c36
          have c34 : Same B34 B36 := s35.trans c35
          have c33 : Same B33 B36 := s34.trans c34
          have c32 : Same B32 B36 := s33.trans c33
          have c31 : Same B31 B36 := s32.trans c32
          have c30 : Same B30 B36 := s31.trans c31
          have c29 : Same B29 B36 := s30.trans c30
          have c28 : Same B28 B36 := s29.trans c29
          have c27 : Same B27 B36 := s28.trans c28
          have c26 : Same B26 B36 := s27.trans c27
          have c25 : Same B25 B36 := s26.trans c26
          have c24 : Same B24 B36 := s25.trans c25
          have c23 : Same B23 B36 := s24.trans c24
          have c22 : Same B22 B36 := s23.trans c23
          have c21 : Same B21 B36 := s22.trans c22
          have c20 : Same B20 B36 := s21.trans c21
          have c19 : Same B19 B36 := s20.trans c20
          have c18 : Same B18 B36 := s19.trans c19
          have c17 : Same B17 B36 := s18.trans c18
          have c16 : Same B16 B36 := s17.trans c17
          refine ⟨P1, P2, _, _, rfl, rfl, g36.ex _ _ (c26 _ _ h_P1), g36.ex _ _ h_P2, by show 12 ≤ sizeLine; decide, fun P3 n_P3 => ?_⟩
          have gE := g36.new (o := .lst ([.non, .ref t1, .ref t3, .ref t4, .ref t5, .ref f.2.1, .ref t7] ++ [.ref t8, .ref t9, .ref t10, .ref l11, .ref d12])) n_P3
          have hE : (upd H36 P3 (.lst ([.non, .ref t1, .ref t3, .ref t4, .ref t5, .ref f.2.1, .ref t7] ++ [.ref t8, .ref t9, .ref t10, .ref l11, .ref d12]))) P3 = some (.lst ([.non, .ref t1, .ref t3, .ref t4, .ref t5, .ref f.2.1, .ref t7] ++ [.ref t8, .ref t9, .ref t10, .ref l11, .ref d12])) := upd_same
          have P3a := g36.ne_a n_P3
          have P3c := g36.ne_c n_P3
          generalize upd H36 P3 (.lst ([.non, .ref t1, .ref t3, .ref t4, .ref t5, .ref f.2.1, .ref t7] ++ [.ref t8, .ref t9, .ref t10, .ref l11, .ref d12])) = HE at gE hE ⊢
          refine ⟨_, rfl, _, rfl, a, c, .ref P3, rfl, gE.st, .inl ⟨P3, _, rfl, P3a, P3c, hE, by show 0 < 12; decide, by show 12 < 1000000; decide, fun v HF hv stF frF => ?_⟩⟩
          have gF := gE.fr frF stF
          have up : Sb B36 HF := fun b o e _ => gF.ex _ _ e
          have tbF : Tabs (lawTbl PT) HF := tb9.ext fun b o e => gF.ex _ _ (S36 _ _ e)
          refine ⟨tbF, fun HG ext tbG R hR => ?_⟩
          have sbB : Sb B36 HG := fun b o e n => ext _ _ (gF.ex _ _ e) n
          have sb0 : Sb B HG := fun b o e n => sbB _ _ (S36 _ _ e) n
          have nt : ∀ (xs : List V) (ps : Array Value), HO.tup xs ≠ .tbl ps := fun _ _ z => nomatch z
          have nl : ∀ (xs : List V) (ps : Array Value), HO.lst xs ≠ .tbl ps := fun _ _ z => nomatch z
          have hk2 : (∃ c v, r.2.2.2 = [c] ∧ f.2.2.2 = [v] ∧ sizeI cs c ≤ 6) ∨ ∃ c d v o, r.2.2.2 = [c, d] ∧ f.2.2.2 = [v, o] ∧ sizeI cs c ≤ 6 ∧ sizeI cs d ≤ 6 := by
            obtain ⟨_, ⟨c1, v1, hp, hv1, _⟩ | ⟨c1, d1, v1, o1, hp, hv1, _⟩⟩ := hk
            · exact .inl ⟨c1, v1, hp, hv1, sizeI_le okc9 _⟩
            · exact .inr ⟨c1, d1, v1, o1, hp, hv1, sizeI_le okc9 _, sizeI_le okc9 _⟩
          have odd := odd_none (cs := cs) (ts := ts) (by rw [hk.1]; exact tabOf_of nd hr) (no_empty okt) hk2 (sb0 _ _ fR (nt _)) (sbB _ _ (c17 _ _ h_t1) (nt _)) (sbB _ _ (c18 _ _ h_L3) (nl _)) (sbB _ _ (c19 _ _ h_t3) (nt _)) (sbB _ _ (c21 _ _ h_c4) (nt _)) (sbB _ _ (c22 _ _ h_t4) (nt _)) (sbB _ _ (c23 _ _ h_b5) (nt _)) (sbB _ _ (c24 _ _ h_t5) (nt _)) (sbB _ _ (c25 _ _ h_t7) (nt _)) (sbB _ _ (c28 _ _ h_r8) (nt _)) (sbB _ _ (c29 _ _ h_t8) (nt _)) (sbB _ _ (c31 _ _ h_r9) (nt _)) (sbB _ _ (c32 _ _ h_t9) (nt _)) (sbB _ _ (c33 _ _ h_t10) (nt _)) (sbB _ _ (c34 _ _ h_l11) (nl _)) (sbB _ _ (c35 _ _ h_d12) (fun _ z => nomatch z)) v hv
          refine ⟨_, rfl, _, rfl, y, v, cs, ts, rfl, pl.sub (fun b o e _ n => sb0 b o e n), okc9.sub sb0, okt9.sub sb0, odd.1, .inr ⟨odd.2, fun HH sH => ⟨rfl, rfl, fun pL HI sI hL => ?_⟩⟩⟩
          refine ⟨by show 1 ≤ sizeLine; decide, fun M nM => ?_⟩
          have sM := sH.trans (sI.trans (same_new (o := .lst [.str (Str.ofString "fact")]) nM))
          have hL2 := same_new (o := .lst [.str (Str.ofString "fact")]) nM _ _ hL
          refine ⟨.list [.str (Str.ofString "fact")], .list [.str (Str.ofString "fact")], .lst (lof hL2) (.cons (.str _) .nil), .lst (lof upd_same) (.cons (.str _) .nil), by decide +kernel, by decide +kernel, _, rfl, ?_⟩
          rw [show PyData.eqv (.list [.str (Str.ofString "fact")]) (.list [.str (Str.ofString "fact")]) = true by simp [PyData.eqv, PyData.eqvAll]]
          obtain ⟨i1, z1, cs1, nac, ea, ec, rr⟩ := gF.st
          have stG : StAt HG a c := ⟨i1, z1, cs1, nac, ext _ _ ea (nl _), ext _ _ ec (nl _), rr⟩
          exact iteF ⟨_, _, _, _, _, _, _, _, _, _, _, _, _, _, rfl, stG.same sM, tbG.ext sM⟩
    · rintro σ H4 ⟨x2, x3, x4, x5, x6, x7, x8, x9, x10, x11, x12, x13, x14, x15, rfl, _⟩
      exact q _
end
end As

/-! ## C11 -/
namespace As
open PySem PySem.Spec PyProof.Rows L2 TL LamX
theorem kit_ref {K : PySem.W.Frag} {D C : Addr} {b : Bool} (h1 : PySem.W.hasDictIn K C = true) (h2 : PySem.W.typeIn K (.ref C) = some (.type "type")) (h3 : PySem.W.subIn K (.ref D) (.ref C) = some b) (ne : D = C → b = true) : PySem.W.kitOne K (.ref D) (.ref C) = some b := by
  by_cases e : D = C
  · rw [ne e, e]; unfold PySem.W.kitOne; rw [if_pos (by simp)]
  · obtain ⟨cd, hc, _⟩ := PySem.W.any_some h1
    unfold PySem.W.kitOne PySem.W.kitCls
    rw [if_neg (by simpa using e)]
    show (if ((PySem.W.clsIn K C).isSome && PySem.W.typeIn K (.ref C) == some (.type "type")) = true then PySem.W.subIn K (.ref D) (.ref C) else none) = _
    rw [hc, h2, if_pos (by simp), h3]
theorem kit_bi {K : PySem.W.Frag} {D : Addr} {T : String} {b : Bool} (h1 : PySem.W.kitMeta T = true) (h3 : PySem.W.subIn K (.ref D) (.type T) = some b) : PySem.W.kitOne K (.ref D) (.type T) = some b := by
  unfold PySem.W.kitOne PySem.W.kitCls
  rw [if_neg (by simp)]
  show (if PySem.W.kitMeta T = true then PySem.W.subIn K (.ref D) (.type T) else none) = _
  rw [if_pos h1, h3]
theorem ne_of_sub {K : PySem.W.Frag} {D C : Addr} (h1 : PySem.W.subIn K (.ref D) (.ref D) = some true) (h2 : PySem.W.subIn K (.ref D) (.ref C) = some false) (e : D = C) : false = true := by
  subst e; rw [h1] at h2; cases h2
theorem all_mk {l : PySem.W.OpenLaw} {w : World} {K : PySem.W.Frag} {h : Heap} {mg : Str → Option Value} {fa C cL PT D EA E0 E2 E3 E4 E5 E6 E7 E8 E9 E10 E11 E12 E13 : Addr} {ts : List Addr} {t6 t8 wMOST_LETTERS wMOST_VALUES wMOST_SIDES : Tok} (X : K.In h) (HT : ∀ P ∈ ts, h.get? P = some (PySem.W.tabObj #[])) (G : h.Ns mainGlobals mg) (hfa : mg "law" = some (.ref fa))
    {fnu : Addr} {odnu annu : Option Addr} {slnu : Array (Option Value)} {ocnu kVnu dcnu pmnu cdnu ctnu : Value} {fbe : Addr} {odbe anbe : Option Addr} {slbe : Array (Option Value)} {ocbe kVbe dcbe pmbe cdbe ctbe : Value} {fna : Addr} {odna anna : Option Addr} {slna : Array (Option Value)} {ocna kVna dcna pmna cdna ctna : Value} {fli : Addr} {odli anli : Option Addr} {slli : Array (Option Value)} {ocli kVli dcli pmli cdli ctli : Value} {fpa : Addr} {odpa anpa : Option Addr} {slpa : Array (Option Value)} {ocpa kVpa dcpa pmpa cdpa ctpa : Value} {fco : Addr} {odco anco : Option Addr} {slco : Array (Option Value)} {occo kVco dcco pmco cdco ctco : Value} {fta : Addr} {odta anta : Option Addr} {slta : Array (Option Value)} {octa kVta dcta pmta cdta ctta : Value} {fdi : Addr} {oddi andi : Option Addr} {sldi : Array (Option Value)} {ocdi kVdi dcdi pmdi cddi ctdi : Value} {fac : Addr} {odac anac : Option Addr} {slac : Array (Option Value)} {ocac kVac dcac pmac cdac ctac : Value} {fat : Addr} {odat anat : Option Addr} {slat : Array (Option Value)} {ocat kVat dcat pmat cdat ctat : Value} {fic : Addr} {odic anic : Option Addr} {slic : Array (Option Value)} {ocic kVic dcic pmic cdic ctic : Value} {fcf : Addr} {odcf ancf : Option Addr} {slcf : Array (Option Value)} {occf kVcf dccf pmcf cdcf ctcf : Value} {fse : Addr} {odse anse : Option Addr} {slse : Array (Option Value)} {ocse kVse dcse pmse cdse ctse : Value} {fsr : Addr} {odsr ansr : Option Addr} {slsr : Array (Option Value)} {ocsr kVsr dcsr pmsr cdsr ctsr : Value} {flts : Addr} {odlts anlts : Option Addr} {sllts : Array (Option Value)} {oclts kVlts dclts pmlts cdlts ctlts : Value} {fst : Addr} {odst anst : Option Addr} {slst : Array (Option Value)} {ocst kVst dcst pmst cdst ctst : Value} {fdr : Addr} {oddr andr : Option Addr} {sldr : Array (Option Value)} {ocdr kVdr dcdr pmdr cddr ctdr : Value} {fpi : Addr} {odpi anpi : Option Addr} {slpi : Array (Option Value)} {ocpi kVpi dcpi pmpi cdpi ctpi : Value} {fmi : Addr} {odmi anmi : Option Addr} {slmi : Array (Option Value)} {ocmi kVmi dcmi pmmi cdmi ctmi : Value} {fnm : Addr} {odnm annm : Option Addr} {slnm : Array (Option Value)} {ocnm kVnm dcnm pmnm cdnm ctnm : Value} {flc : Addr} {odlc anlc : Option Addr} {sllc : Array (Option Value)} {oclc kVlc dclc pmlc cdlc ctlc : Value} {flt : Addr} {odlt anlt : Option Addr} {sllt : Array (Option Value)} {oclt kVlt dclt pmlt cdlt ctlt : Value} {fsd : Addr} {odsd ansd : Option Addr} {slsd : Array (Option Value)} {ocsd kVsd dcsd pmsd cdsd ctsd : Value} {flf : Addr} {odlf anlf : Option Addr} {sllf : Array (Option Value)} {oclf kVlf dclf pmlf cdlf ctlf : Value} {flk : Addr} {odlk anlk : Option Addr} {sllk : Array (Option Value)} {oclk kVlk dclk pmlk cdlk ctlk : Value} {fls : Addr} {odls anls : Option Addr} {slls : Array (Option Value)} {ocls kVls dcls pmls cdls ctls : Value} {fcr : Addr} {odcr ancr : Option Addr} {slcr : Array (Option Value)} {occr kVcr dccr pmcr cdcr ctcr : Value} {fla : Addr} {odla anla : Option Addr} {slla : Array (Option Value)} {ocla kVla dcla pmla ctla : Value} {fin : Addr} {odin anin : Option Addr} {slin : Array (Option Value)} {ocin kVin dcin pmin cdin ctin : Value} {fsp : Addr} {odsp ansp : Option Addr} {slsp : Array (Option Value)} {ocsp kVsp dcsp pmsp cdsp ctsp : Value}
    (anu : PySem.W.nsIn K mainGlobals "is_number" = some (some (.ref fnu)))
    (lnu : K.lookup fnu = some ⟨ocnu, odnu, .func (PySem.W.fnOf "is_number" "is_number" (defArgs s_is_number) (defBody s_is_number) (defScope s_is_number) .none kVnu dcnu pmnu annu cdnu ctnu), slnu⟩)
    (cnu : PySem.W.codeIn K cdnu "is_number" = true)
    (knu : PySem.W.keepIn K (.ref fnu) = true)
    (abe : PySem.W.nsIn K mainGlobals "is_below" = some (some (.ref fbe)))
    (lbe : K.lookup fbe = some ⟨ocbe, odbe, .func (PySem.W.fnOf "is_below" "is_below" (defArgs s_is_below) (defBody s_is_below) (defScope s_is_below) .none kVbe dcbe pmbe anbe cdbe ctbe), slbe⟩)
    (cbe : PySem.W.codeIn K cdbe "is_below" = true)
    (kbe : PySem.W.keepIn K (.ref fbe) = true)
    (ana : PySem.W.nsIn K mainGlobals "is_name" = some (some (.ref fna)))
    (lna : K.lookup fna = some ⟨ocna, odna, .func (PySem.W.fnOf "is_name" "is_name" (defArgs s_is_name) (defBody s_is_name) (defScope s_is_name) .none kVna dcna pmna anna cdna ctna), slna⟩)
    (cna : PySem.W.codeIn K cdna "is_name" = true)
    (kna : PySem.W.keepIn K (.ref fna) = true)
    (ali : PySem.W.nsIn K mainGlobals "is_list" = some (some (.ref fli)))
    (lli : K.lookup fli = some ⟨ocli, odli, .func (PySem.W.fnOf "is_list" "is_list" (defArgs s_is_list) (defBody s_is_list) (defScope s_is_list) .none kVli dcli pmli anli cdli ctli), slli⟩)
    (cli : PySem.W.codeIn K cdli "is_list" = true)
    (kli : PySem.W.keepIn K (.ref fli) = true)
    (apa : PySem.W.nsIn K mainGlobals "is_pair" = some (some (.ref fpa)))
    (lpa : K.lookup fpa = some ⟨ocpa, odpa, .func (PySem.W.fnOf "is_pair" "is_pair" (defArgs s_is_pair) (defBody s_is_pair) (defScope s_is_pair) .none kVpa dcpa pmpa anpa cdpa ctpa), slpa⟩)
    (cpa : PySem.W.codeIn K cdpa "is_pair" = true)
    (kpa : PySem.W.keepIn K (.ref fpa) = true)
    (aco : PySem.W.nsIn K mainGlobals "is_column" = some (some (.ref fco)))
    (lco : K.lookup fco = some ⟨occo, odco, .func (PySem.W.fnOf "is_column" "is_column" (defArgs s_is_column) (defBody s_is_column) (defScope s_is_column) .none kVco dcco pmco anco cdco ctco), slco⟩)
    (cco : PySem.W.codeIn K cdco "is_column" = true)
    (kco : PySem.W.keepIn K (.ref fco) = true)
    (ata : PySem.W.nsIn K mainGlobals "is_table" = some (some (.ref fta)))
    (lta : K.lookup fta = some ⟨octa, odta, .func (PySem.W.fnOf "is_table" "is_table" (defArgs s_is_table) (defBody s_is_table) (defScope s_is_table) .none kVta dcta pmta anta cdta ctta), slta⟩)
    (cta : PySem.W.codeIn K cdta "is_table" = true)
    (kta : PySem.W.keepIn K (.ref fta) = true)
    (adi : PySem.W.nsIn K mainGlobals "have_distinct_names" = some (some (.ref fdi)))
    (ldi : K.lookup fdi = some ⟨ocdi, oddi, .func (PySem.W.fnOf "have_distinct_names" "have_distinct_names" (defArgs s_have_distinct_names) (defBody s_have_distinct_names) (defScope s_have_distinct_names) .none kVdi dcdi pmdi andi cddi ctdi), sldi⟩)
    (cdi : PySem.W.codeIn K cddi "have_distinct_names" = true)
    (kdi : PySem.W.keepIn K (.ref fdi) = true)
    (aac : PySem.W.nsIn K mainGlobals "are_columns" = some (some (.ref fac)))
    (lac : K.lookup fac = some ⟨ocac, odac, .func (PySem.W.fnOf "are_columns" "are_columns" (defArgs s_are_columns) (defBody s_are_columns) (defScope s_are_columns) .none kVac dcac pmac anac cdac ctac), slac⟩)
    (cac : PySem.W.codeIn K cdac "are_columns" = true)
    (kac : PySem.W.keepIn K (.ref fac) = true)
    (aat : PySem.W.nsIn K mainGlobals "are_tables" = some (some (.ref fat)))
    (lat : K.lookup fat = some ⟨ocat, odat, .func (PySem.W.fnOf "are_tables" "are_tables" (defArgs s_are_tables) (defBody s_are_tables) (defScope s_are_tables) .none kVat dcat pmat anat cdat ctat), slat⟩)
    (cat : PySem.W.codeIn K cdat "are_tables" = true)
    (kat : PySem.W.keepIn K (.ref fat) = true)
    (aic : PySem.W.nsIn K mainGlobals "is_fact" = some (some (.ref fic)))
    (lic : K.lookup fic = some ⟨ocic, odic, .func (PySem.W.fnOf "is_fact" "is_fact" (defArgs s_is_fact) (defBody s_is_fact) (defScope s_is_fact) .none kVic dcic pmic anic cdic ctic), slic⟩)
    (cic : PySem.W.codeIn K cdic "is_fact" = true)
    (kic : PySem.W.keepIn K (.ref fic) = true)
    (acf : PySem.W.nsIn K mainGlobals "check_fact" = some (some (.ref fcf)))
    (lcf : K.lookup fcf = some ⟨occf, odcf, .func (PySem.W.fnOf "check_fact" "check_fact" (defArgs s_check_fact) (defBody s_check_fact) (defScope s_check_fact) .none kVcf dccf pmcf ancf cdcf ctcf), slcf⟩)
    (ccf : PySem.W.codeIn K cdcf "check_fact" = true)
    (kcf : PySem.W.keepIn K (.ref fcf) = true)
    (ase : PySem.W.nsIn K mainGlobals "sees" = some (some (.ref fse)))
    (lse : K.lookup fse = some ⟨ocse, odse, .func (PySem.W.fnOf "sees" "sees" (defArgs s_sees) (defBody s_sees) (defScope s_sees) .none kVse dcse pmse anse cdse ctse), slse⟩)
    (cse : PySem.W.codeIn K cdse "sees" = true)
    (kse : PySem.W.keepIn K (.ref fse) = true)
    (asr : PySem.W.nsIn K mainGlobals "seers" = some (some (.ref fsr)))
    (lsr : K.lookup fsr = some ⟨ocsr, odsr, .func (PySem.W.fnOf "seers" "seers" (defArgs s_seers) (defBody s_seers) (defScope s_seers) .none kVsr dcsr pmsr ansr cdsr ctsr), slsr⟩)
    (csr : PySem.W.codeIn K cdsr "seers" = true)
    (ksr : PySem.W.keepIn K (.ref fsr) = true)
    (alts : PySem.W.nsIn K mainGlobals "looks_that_see" = some (some (.ref flts)))
    (llts : K.lookup flts = some ⟨oclts, odlts, .func (PySem.W.fnOf "looks_that_see" "looks_that_see" (defArgs s_looks_that_see) (defBody s_looks_that_see) (defScope s_looks_that_see) .none kVlts dclts pmlts anlts cdlts ctlts), sllts⟩)
    (clts : PySem.W.codeIn K cdlts "looks_that_see" = true)
    (klts : PySem.W.keepIn K (.ref flts) = true)
    (ast : PySem.W.nsIn K mainGlobals "_law_state" = some (some (.ref fst)))
    (lst : K.lookup fst = some ⟨ocst, odst, .func (PySem.W.fnOf "_law_state" "_law_state" (defArgs s_state) (defBody s_state) (defScope s_state) .none kVst dcst pmst anst cdst ctst), slst⟩)
    (cst : PySem.W.codeIn K cdst "_law_state" = true)
    (kst : PySem.W.keepIn K (.ref fst) = true)
    (adr : PySem.W.nsIn K mainGlobals "_law_draw" = some (some (.ref fdr)))
    (ldr : K.lookup fdr = some ⟨ocdr, oddr, .func (PySem.W.fnOf "_law_draw" "_law_draw" (defArgs s_draw) (defBody s_draw) (defScope s_draw) .none kVdr dcdr pmdr andr cddr ctdr), sldr⟩)
    (cdr : PySem.W.codeIn K cddr "_law_draw" = true)
    (kdr : PySem.W.keepIn K (.ref fdr) = true)
    (api : PySem.W.nsIn K mainGlobals "_law_pick" = some (some (.ref fpi)))
    (lpi : K.lookup fpi = some ⟨ocpi, odpi, .func (PySem.W.fnOf "_law_pick" "_law_pick" (defArgs s_pick) (defBody s_pick) (defScope s_pick) .none kVpi dcpi pmpi anpi cdpi ctpi), slpi⟩)
    (cpi : PySem.W.codeIn K cdpi "_law_pick" = true)
    (kpi : PySem.W.keepIn K (.ref fpi) = true)
    (ami : PySem.W.nsIn K mainGlobals "_law_mixed" = some (some (.ref fmi)))
    (lmi : K.lookup fmi = some ⟨ocmi, odmi, .func (PySem.W.fnOf "_law_mixed" "_law_mixed" (defArgs s_mixed) (defBody s_mixed) (defScope s_mixed) .none kVmi dcmi pmmi anmi cdmi ctmi), slmi⟩)
    (cmi : PySem.W.codeIn K cdmi "_law_mixed" = true)
    (kmi : PySem.W.keepIn K (.ref fmi) = true)
    (anm : PySem.W.nsIn K mainGlobals "_law_names" = some (some (.ref fnm)))
    (lnm : K.lookup fnm = some ⟨ocnm, odnm, .func (PySem.W.fnOf "_law_names" "_law_names" (defArgs s_names) (defBody s_names) (defScope s_names) .none kVnm dcnm pmnm annm cdnm ctnm), slnm⟩)
    (cnm : PySem.W.codeIn K cdnm "_law_names" = true)
    (knm : PySem.W.keepIn K (.ref fnm) = true)
    (alc : PySem.W.nsIn K mainGlobals "_law_columns" = some (some (.ref flc)))
    (llc : K.lookup flc = some ⟨oclc, odlc, .func (PySem.W.fnOf "_law_columns" "_law_columns" (defArgs s_lcolumns) (defBody s_lcolumns) (defScope s_lcolumns) .none kVlc dclc pmlc anlc cdlc ctlc), sllc⟩)
    (clc : PySem.W.codeIn K cdlc "_law_columns" = true)
    (klc : PySem.W.keepIn K (.ref flc) = true)
    (alt : PySem.W.nsIn K mainGlobals "_law_tables" = some (some (.ref flt)))
    (llt : K.lookup flt = some ⟨oclt, odlt, .func (PySem.W.fnOf "_law_tables" "_law_tables" (defArgs s_ltables) (defBody s_ltables) (defScope s_ltables) .none kVlt dclt pmlt anlt cdlt ctlt), sllt⟩)
    (clt : PySem.W.codeIn K cdlt "_law_tables" = true)
    (klt : PySem.W.keepIn K (.ref flt) = true)
    (asd : PySem.W.nsIn K mainGlobals "_law_said" = some (some (.ref fsd)))
    (lsd : K.lookup fsd = some ⟨ocsd, odsd, .func (PySem.W.fnOf "_law_said" "_law_said" (defArgs s_said) (defBody s_said) (defScope s_said) .none kVsd dcsd pmsd ansd cdsd ctsd), slsd⟩)
    (csd : PySem.W.codeIn K cdsd "_law_said" = true)
    (ksd : PySem.W.keepIn K (.ref fsd) = true)
    (alf : PySem.W.nsIn K mainGlobals "_law_facts" = some (some (.ref flf)))
    (llf : K.lookup flf = some ⟨oclf, odlf, .func (PySem.W.fnOf "_law_facts" "_law_facts" (defArgs s_lfacts) (defBody s_lfacts) (defScope s_lfacts) .none kVlf dclf pmlf anlf cdlf ctlf), sllf⟩)
    (clf : PySem.W.codeIn K cdlf "_law_facts" = true)
    (klf : PySem.W.keepIn K (.ref flf) = true)
    (alk : PySem.W.nsIn K mainGlobals "_law_looks" = some (some (.ref flk)))
    (llk : K.lookup flk = some ⟨oclk, odlk, .func (PySem.W.fnOf "_law_looks" "_law_looks" (defArgs s_llooks) (defBody s_llooks) (defScope s_llooks) .none kVlk dclk pmlk anlk cdlk ctlk), sllk⟩)
    (clk : PySem.W.codeIn K cdlk "_law_looks" = true)
    (klk : PySem.W.keepIn K (.ref flk) = true)
    (als : PySem.W.nsIn K mainGlobals "_law_sees" = some (some (.ref fls)))
    (lls : K.lookup fls = some ⟨ocls, odls, .func (PySem.W.fnOf "_law_sees" "_law_sees" (defArgs s_lsees) (defBody s_lsees) (defScope s_lsees) .none kVls dcls pmls anls cdls ctls), slls⟩)
    (cls : PySem.W.codeIn K cdls "_law_sees" = true)
    (kls : PySem.W.keepIn K (.ref fls) = true)
    (acr : PySem.W.nsIn K mainGlobals "_law_crossed" = some (some (.ref fcr)))
    (lcr : K.lookup fcr = some ⟨occr, odcr, .func (PySem.W.fnOf "_law_crossed" "_law_crossed" (defArgs s_crossed) (defBody s_crossed) (defScope s_crossed) .none kVcr dccr pmcr ancr cdcr ctcr), slcr⟩)
    (ccr : PySem.W.codeIn K cdcr "_law_crossed" = true)
    (kcr : PySem.W.keepIn K (.ref fcr) = true)
    (ala : PySem.W.nsIn K mainGlobals "law" = some (some (.ref fla)))
    (lla : K.lookup fla = some ⟨ocla, odla, .func (PySem.W.fnOf "law" "law" (defArgs s_law) (defBody s_law) (defScope s_law) .none kVla dcla pmla anla (.ref cL) ctla), slla⟩)
    (cla : PySem.W.codeIn K (.ref cL) "law" = true)
    (kla : PySem.W.keepIn K (.ref fla) = true)
    (aC : PySem.W.nsIn K mainGlobals "Plan" = some (some (.ref C)))
    (ain : PySem.W.findIn K (.ref C) "__init__" = some (some (.ref fin)))
    (iin : PySem.W.isFn K (.ref fin) = true)
    (lin : K.lookup fin = some ⟨ocin, odin, .func (PySem.W.fnOf "__init__" "Plan.__init__" (defArgs s_init) (defBody s_init) (defScope s_init) .none kVin dcin pmin anin cdin ctin), slin⟩)
    (cin : PySem.W.codeIn K cdin "Plan.__init__" = true)
    (kin : PySem.W.keepIn K (.ref fin) = true)
    (asp : PySem.W.findIn K (.ref C) "spans" = some (some (.ref fsp)))
    (isp : PySem.W.isFn K (.ref fsp) = true)
    (lsp : K.lookup fsp = some ⟨ocsp, odsp, .func (PySem.W.fnOf "spans" "Plan.spans" (defArgs s_spans) (defBody s_spans) (defScope s_spans) .none kVsp dcsp pmsp ansp cdsp ctsp), slsp⟩)
    (csp : PySem.W.codeIn K cdsp "Plan.spans" = true)
    (ksp : PySem.W.keepIn K (.ref fsp) = true)
    (pg : PySem.W.plainGet K C Str.empty = true)
    (hd : PySem.W.hasDictIn K C = true)
    (po : PySem.W.plainOver K C = true)
    (sa : PySem.W.findIn K (.ref C) "__setattr__" = some (some (.builtin "object.__setattr__")))
    (mk : PySem.W.makesIn K C = true)
    (kc : PySem.W.keepIn K (.ref C) = true)
    (nC : PySem.W.findIn K (.ref C) "_columns" = some none)
    (nT : PySem.W.findIn K (.ref C) "_tables" = some none)
    (nS : PySem.W.findIn K (.ref C) "_sizes" = some none)
    (nP : PySem.W.findIn K (.ref C) "_spans" = some none)
    (nH : PySem.W.findIn K (.ref C) "_shapes" = some none)
    (rd : PySem.W.readsIn K C (.type "type") = true)
    (ga : PySem.W.specialIn K (.ref C) "__getattribute__" = some (some (.builtin "type.__getattribute__")))
    (v6 : PySem.W.findCls K (.ref C) (.type "type") "MOST_COLUMNS" = some (.val (.int 6 t6)))
    (v8 : PySem.W.findCls K (.ref C) (.type "type") "MOST_TABLES" = some (.val (.int 8 t8)))
    (gA : PySem.W.nsIn K mainGlobals "AskError" = some (some (.ref EA)))
    (bA : PySem.W.subIn K (.ref EA) (.type "BaseException") = some true)
    (hA : PySem.W.hasDictIn K EA = true)
    (tA : PySem.W.typeIn K (.ref EA) = some (.type "type"))
    (ge0 : PySem.W.nsIn K mainGlobals "BadPlan" = some (some (.ref E0)))
    (ge1 : PySem.W.nsIn K mainGlobals "BadFact" = some (some (.ref D)))
    (ge2 : PySem.W.nsIn K mainGlobals "BadLook" = some (some (.ref E2)))
    (ge3 : PySem.W.nsIn K mainGlobals "BadStore" = some (some (.ref E3)))
    (ge4 : PySem.W.nsIn K mainGlobals "BadAsk" = some (some (.ref E4)))
    (ge5 : PySem.W.nsIn K mainGlobals "BadPrices" = some (some (.ref E5)))
    (ge6 : PySem.W.nsIn K mainGlobals "BadDeed" = some (some (.ref E6)))
    (ge7 : PySem.W.nsIn K mainGlobals "BadStory" = some (some (.ref E7)))
    (ge8 : PySem.W.nsIn K mainGlobals "NoBuyer" = some (some (.ref E8)))
    (ge9 : PySem.W.nsIn K mainGlobals "NotForSale" = some (some (.ref E9)))
    (ge10 : PySem.W.nsIn K mainGlobals "TooMany" = some (some (.ref E10)))
    (ge11 : PySem.W.nsIn K mainGlobals "BadAnswers" = some (some (.ref E11)))
    (ge12 : PySem.W.nsIn K mainGlobals "BadText" = some (some (.ref E12)))
    (ge13 : PySem.W.nsIn K mainGlobals "Contradiction" = some (some (.ref E13)))
    (sA : PySem.W.subIn K (.ref D) (.ref EA) = some true)
    (h0 : PySem.W.hasDictIn K E0 = true)
    (t0x : PySem.W.typeIn K (.ref E0) = some (.type "type"))
    (s0 : PySem.W.subIn K (.ref D) (.ref E0) = some false)
    (h2 : PySem.W.hasDictIn K E2 = true)
    (t2x : PySem.W.typeIn K (.ref E2) = some (.type "type"))
    (s2 : PySem.W.subIn K (.ref D) (.ref E2) = some false)
    (h3 : PySem.W.hasDictIn K E3 = true)
    (t3x : PySem.W.typeIn K (.ref E3) = some (.type "type"))
    (s3 : PySem.W.subIn K (.ref D) (.ref E3) = some false)
    (h4 : PySem.W.hasDictIn K E4 = true)
    (t4x : PySem.W.typeIn K (.ref E4) = some (.type "type"))
    (s4 : PySem.W.subIn K (.ref D) (.ref E4) = some false)
    (h5 : PySem.W.hasDictIn K E5 = true)
    (t5x : PySem.W.typeIn K (.ref E5) = some (.type "type"))
    (s5 : PySem.W.subIn K (.ref D) (.ref E5) = some false)
    (h6 : PySem.W.hasDictIn K E6 = true)
    (t6x : PySem.W.typeIn K (.ref E6) = some (.type "type"))
    (s6 : PySem.W.subIn K (.ref D) (.ref E6) = some false)
    (h7 : PySem.W.hasDictIn K E7 = true)
    (t7x : PySem.W.typeIn K (.ref E7) = some (.type "type"))
    (s7 : PySem.W.subIn K (.ref D) (.ref E7) = some false)
    (h8 : PySem.W.hasDictIn K E8 = true)
    (t8x : PySem.W.typeIn K (.ref E8) = some (.type "type"))
    (s8 : PySem.W.subIn K (.ref D) (.ref E8) = some false)
    (h9 : PySem.W.hasDictIn K E9 = true)
    (t9x : PySem.W.typeIn K (.ref E9) = some (.type "type"))
    (s9 : PySem.W.subIn K (.ref D) (.ref E9) = some false)
    (h10 : PySem.W.hasDictIn K E10 = true)
    (t10x : PySem.W.typeIn K (.ref E10) = some (.type "type"))
    (s10 : PySem.W.subIn K (.ref D) (.ref E10) = some false)
    (h11 : PySem.W.hasDictIn K E11 = true)
    (t11x : PySem.W.typeIn K (.ref E11) = some (.type "type"))
    (s11 : PySem.W.subIn K (.ref D) (.ref E11) = some false)
    (h12 : PySem.W.hasDictIn K E12 = true)
    (t12x : PySem.W.typeIn K (.ref E12) = some (.type "type"))
    (s12 : PySem.W.subIn K (.ref D) (.ref E12) = some false)
    (h13 : PySem.W.hasDictIn K E13 = true)
    (t13x : PySem.W.typeIn K (.ref E13) = some (.type "type"))
    (s13 : PySem.W.subIn K (.ref D) (.ref E13) = some false)
    (dv : PySem.W.subIn K (.ref D) (.type "ValueError") = some true)
    (dk : PySem.W.keepIn K (.ref D) = true)
    (db : PySem.W.subIn K (.ref D) (.type "BaseException") = some true)
    (dt : PySem.W.typeIn K (.ref D) = some (.type "type"))
    (dg : PySem.W.findIn K (.ref D) "__getattribute__" = some (some (.builtin "BaseException.__getattribute__")))
    (dh : PySem.W.findIn K (.ref D) "__getattr__" = some none)
    (dd : PySem.W.hasDictIn K D = true)
    (da : PySem.W.findIn K (.ref D) "__class__" = some (some (.builtin "object.__class__")))
    (dn : PySem.W.specialIn K (.builtin "object.__class__") "__get__" = some (some (.builtin "getset_descriptor.__get__")))
    (du : PySem.W.takesIn K (.builtin "object.__class__") = some true)
    (dm : PySem.W.mroIn K D (.type "object") = some true)
    (dq : PySem.W.excIn K D [.type "ValueError", .type "Exception", .type "BaseException", .type "object"] "ValueError.__new__" = true)
    (z_isinstance : PySem.W.nsIn K mainGlobals "isinstance" = some none)
    (z_len : PySem.W.nsIn K mainGlobals "len" = some none)
    (z_all : PySem.W.nsIn K mainGlobals "all" = some none)
    (z_list : PySem.W.nsIn K mainGlobals "list" = some none)
    (z_tuple : PySem.W.nsIn K mainGlobals "tuple" = some none)
    (z_range : PySem.W.nsIn K mainGlobals "range" = some none)
    (z_abs : PySem.W.nsIn K mainGlobals "abs" = some none)
    (z_min : PySem.W.nsIn K mainGlobals "min" = some none)
    (z_int : PySem.W.nsIn K mainGlobals "int" = some none)
    (z_bool : PySem.W.nsIn K mainGlobals "bool" = some none)
    (z_str : PySem.W.nsIn K mainGlobals "str" = some none)
    (z_sorted : PySem.W.nsIn K mainGlobals "sorted" = some none)
    (z_dict : PySem.W.nsIn K mainGlobals "dict" = some none)
    (z_enumerate : PySem.W.nsIn K mainGlobals "enumerate" = some none)
    (z_zip : PySem.W.nsIn K mainGlobals "zip" = some none)
    (z_ValueError : PySem.W.nsIn K mainGlobals "ValueError" = some none)
    (y_MOST_LETTERS : PySem.W.nsIn K mainGlobals "MOST_LETTERS" = some (some (.int 8 wMOST_LETTERS)))
    (y_MOST_VALUES : PySem.W.nsIn K mainGlobals "MOST_VALUES" = some (some (.int 6 wMOST_VALUES)))
    (y_MOST_SIDES : PySem.W.nsIn K mainGlobals "MOST_SIDES" = some (some (.int 2 wMOST_SIDES)))
    (mem : PT ∈ ts)
    (nt : K.lookup PT = none)
    (yhc : PySem.W.codeHdIn K cL PT = true)
    (sD : PySem.W.subIn K (.ref D) (.ref D) = some true)
    : LawAtS l w K CX0 8 63 "script" mg fa h := by
  have e := hfa.symm.trans (PySem.W.mg_of X G ala)
  cases e
  have T : Bi mg := ⟨PySem.W.mg_none_of X G z_isinstance, PySem.W.mg_none_of X G z_len, PySem.W.mg_none_of X G z_all, PySem.W.mg_none_of X G z_list, PySem.W.mg_none_of X G z_tuple, PySem.W.mg_none_of X G z_range, PySem.W.mg_none_of X G z_abs, PySem.W.mg_none_of X G z_min, PySem.W.mg_none_of X G z_int, PySem.W.mg_none_of X G z_bool, PySem.W.mg_none_of X G z_str, PySem.W.mg_none_of X G z_sorted, PySem.W.mg_none_of X G z_dict⟩
  have T2 : Bi2 mg := ⟨PySem.W.mg_none_of X G z_enumerate, PySem.W.mg_none_of X G z_zip, PySem.W.mg_none_of X G z_ValueError⟩
  have mMOST_LETTERS := PySem.W.mg_of X G y_MOST_LETTERS
  have mMOST_VALUES := PySem.W.mg_of X G y_MOST_VALUES
  have mMOST_SIDES := PySem.W.mg_of X G y_MOST_SIDES
  have Fnu := fun_mk (st := s_is_number) lnu cnu knu
  have Dnu : Df K mg "is_number" s_is_number ["thing"] fnu _ := ⟨Fnu, PySem.W.mg_of X G anu, Fnu.binds (ps := ["thing"]) fun _ _ _ _ _ _ us hl => match us, hl with | [_], _ => rfl⟩
  have Fbe := fun_mk (st := s_is_below) lbe cbe kbe
  have Dbe : Df K mg "is_below" s_is_below ["thing", "bound"] fbe _ := ⟨Fbe, PySem.W.mg_of X G abe, Fbe.binds (ps := ["thing", "bound"]) fun _ _ _ _ _ _ us hl => match us, hl with | [_, _], _ => rfl⟩
  have Fna := fun_mk (st := s_is_name) lna cna kna
  have Dna : Df K mg "is_name" s_is_name ["thing"] fna _ := ⟨Fna, PySem.W.mg_of X G ana, Fna.binds (ps := ["thing"]) fun _ _ _ _ _ _ us hl => match us, hl with | [_], _ => rfl⟩
  have Fli := fun_mk (st := s_is_list) lli cli kli
  have Dli : Df K mg "is_list" s_is_list ["thing"] fli _ := ⟨Fli, PySem.W.mg_of X G ali, Fli.binds (ps := ["thing"]) fun _ _ _ _ _ _ us hl => match us, hl with | [_], _ => rfl⟩
  have Fpa := fun_mk (st := s_is_pair) lpa cpa kpa
  have Dpa : Df K mg "is_pair" s_is_pair ["thing"] fpa _ := ⟨Fpa, PySem.W.mg_of X G apa, Fpa.binds (ps := ["thing"]) fun _ _ _ _ _ _ us hl => match us, hl with | [_], _ => rfl⟩
  have Fco := fun_mk (st := s_is_column) lco cco kco
  have Dco : Df K mg "is_column" s_is_column ["thing"] fco _ := ⟨Fco, PySem.W.mg_of X G aco, Fco.binds (ps := ["thing"]) fun _ _ _ _ _ _ us hl => match us, hl with | [_], _ => rfl⟩
  have Fta := fun_mk (st := s_is_table) lta cta kta
  have Dta : Df K mg "is_table" s_is_table ["thing", "column_names"] fta _ := ⟨Fta, PySem.W.mg_of X G ata, Fta.binds (ps := ["thing", "column_names"]) fun _ _ _ _ _ _ us hl => match us, hl with | [_, _], _ => rfl⟩
  have Fdi := fun_mk (st := s_have_distinct_names) ldi cdi kdi
  have Ddi : Df K mg "have_distinct_names" s_have_distinct_names ["pairs"] fdi _ := ⟨Fdi, PySem.W.mg_of X G adi, Fdi.binds (ps := ["pairs"]) fun _ _ _ _ _ _ us hl => match us, hl with | [_], _ => rfl⟩
  have Fac := fun_mk (st := s_are_columns) lac cac kac
  have Dac : Df K mg "are_columns" s_are_columns ["thing"] fac _ := ⟨Fac, PySem.W.mg_of X G aac, Fac.binds (ps := ["thing"]) fun _ _ _ _ _ _ us hl => match us, hl with | [_], _ => rfl⟩
  have Fat := fun_mk (st := s_are_tables) lat cat kat
  have Dat : Df K mg "are_tables" s_are_tables ["thing", "columns"] fat _ := ⟨Fat, PySem.W.mg_of X G aat, Fat.binds (ps := ["thing", "columns"]) fun _ _ _ _ _ _ us hl => match us, hl with | [_, _], _ => rfl⟩
  have Fic := fun_mk (st := s_is_fact) lic cic kic
  have Dic : Df K mg "is_fact" s_is_fact ["plan", "thing"] fic _ := ⟨Fic, PySem.W.mg_of X G aic, Fic.binds (ps := ["plan", "thing"]) fun _ _ _ _ _ _ us hl => match us, hl with | [_, _], _ => rfl⟩
  have Fcf := fun_mk (st := s_check_fact) lcf ccf kcf
  have Dcf : Df K mg "check_fact" s_check_fact ["plan", "thing"] fcf _ := ⟨Fcf, PySem.W.mg_of X G acf, Fcf.binds (ps := ["plan", "thing"]) fun _ _ _ _ _ _ us hl => match us, hl with | [_, _], _ => rfl⟩
  have Fse := fun_mk (st := s_sees) lse cse kse
  have Dse : Df K mg "sees" s_sees ["look", "fact"] fse _ := ⟨Fse, PySem.W.mg_of X G ase, Fse.binds (ps := ["look", "fact"]) fun _ _ _ _ _ _ us hl => match us, hl with | [_, _], _ => rfl⟩
  have Fsr := fun_mk (st := s_seers) lsr csr ksr
  have Dsr : Df K mg "seers" s_seers ["plan", "fact"] fsr _ := ⟨Fsr, PySem.W.mg_of X G asr, Fsr.binds (ps := ["plan", "fact"]) fun _ _ _ _ _ _ us hl => match us, hl with | [_, _], _ => rfl⟩
  have Flts := fun_mk (st := s_looks_that_see) llts clts klts
  have Dlts : Df K mg "looks_that_see" s_looks_that_see ["fact"] flts _ := ⟨Flts, PySem.W.mg_of X G alts, Flts.binds (ps := ["fact"]) fun _ _ _ _ _ _ us hl => match us, hl with | [_], _ => rfl⟩
  have Fst := fun_mk (st := s_state) lst cst kst
  have Dst : Df K mg "_law_state" s_state ["script"] fst _ := ⟨Fst, PySem.W.mg_of X G ast, Fst.binds (ps := ["script"]) fun _ _ _ _ _ _ us hl => match us, hl with | [_], _ => rfl⟩
  have Fdr := fun_mk (st := s_draw) ldr cdr kdr
  have Ddr : Df K mg "_law_draw" s_draw ["state", "size_most"] fdr _ := ⟨Fdr, PySem.W.mg_of X G adr, Fdr.binds (ps := ["state", "size_most"]) fun _ _ _ _ _ _ us hl => match us, hl with | [_, _], _ => rfl⟩
  have Fpi := fun_mk (st := s_pick) lpi cpi kpi
  have Dpi : Df K mg "_law_pick" s_pick ["state", "some"] fpi _ := ⟨Fpi, PySem.W.mg_of X G api, Fpi.binds (ps := ["state", "some"]) fun _ _ _ _ _ _ us hl => match us, hl with | [_, _], _ => rfl⟩
  have Fmi := fun_mk (st := s_mixed) lmi cmi kmi
  have Dmi : Df K mg "_law_mixed" s_mixed ["state", "some"] fmi _ := ⟨Fmi, PySem.W.mg_of X G ami, Fmi.binds (ps := ["state", "some"]) fun _ _ _ _ _ _ us hl => match us, hl with | [_, _], _ => rfl⟩
  have Fnm := fun_mk (st := s_names) lnm cnm knm
  have Dnm : Df K mg "_law_names" s_names ["state", "size"] fnm _ := ⟨Fnm, PySem.W.mg_of X G anm, Fnm.binds (ps := ["state", "size"]) fun _ _ _ _ _ _ us hl => match us, hl with | [_, _], _ => rfl⟩
  have Flc := fun_mk (st := s_lcolumns) llc clc klc
  have Dlc : Df K mg "_law_columns" s_lcolumns ["state", "most", "size_most"] flc _ := ⟨Flc, PySem.W.mg_of X G alc, Flc.binds (ps := ["state", "most", "size_most"]) fun _ _ _ _ _ _ us hl => match us, hl with | [_, _, _], _ => rfl⟩
  have Flt := fun_mk (st := s_ltables) llt clt klt
  have Dlt : Df K mg "_law_tables" s_ltables ["state", "columns", "most"] flt _ := ⟨Flt, PySem.W.mg_of X G alt, Flt.binds (ps := ["state", "columns", "most"]) fun _ _ _ _ _ _ us hl => match us, hl with | [_, _, _], _ => rfl⟩
  have Fsd := fun_mk (st := s_said) lsd csd ksd
  have Dsd : Df K mg "_law_said" s_said ["work"] fsd _ := ⟨Fsd, PySem.W.mg_of X G asd, Fsd.binds (ps := ["work"]) fun _ _ _ _ _ _ us hl => match us, hl with | [_], _ => rfl⟩
  have Flf := fun_mk (st := s_lfacts) llf clf klf
  have Dlf : Df K mg "_law_facts" s_lfacts ["columns", "tables"] flf _ := ⟨Flf, PySem.W.mg_of X G alf, Flf.binds (ps := ["columns", "tables"]) fun _ _ _ _ _ _ us hl => match us, hl with | [_, _], _ => rfl⟩
  have Flk := fun_mk (st := s_llooks) llk clk klk
  have Dlk : Df K mg "_law_looks" s_llooks ["columns", "tables"] flk _ := ⟨Flk, PySem.W.mg_of X G alk, Flk.binds (ps := ["columns", "tables"]) fun _ _ _ _ _ _ us hl => match us, hl with | [_, _], _ => rfl⟩
  have Fls := fun_mk (st := s_lsees) lls cls kls
  have Dls : Df K mg "_law_sees" s_lsees ["look", "fact"] fls _ := ⟨Fls, PySem.W.mg_of X G als, Fls.binds (ps := ["look", "fact"]) fun _ _ _ _ _ _ us hl => match us, hl with | [_, _], _ => rfl⟩
  have Fcr := fun_mk (st := s_crossed) lcr ccr kcr
  have Dcr : Df K mg "_law_crossed" s_crossed ["each", "every"] fcr _ := ⟨Fcr, PySem.W.mg_of X G acr, Fcr.binds (ps := ["each", "every"]) fun _ _ _ _ _ _ us hl => match us, hl with | [_, _], _ => rfl⟩
  have Fin := fun_mk (st := s_init) lin cin kin
  have bin := Fin.binds (ps := ["self", "columns", "tables"]) fun _ _ _ _ _ _ us hl => match us, hl with | [_, _, _], _ => rfl
  have Fsp := fun_mk (st := s_spans) lsp csp ksp
  have bsp := Fsp.binds (ps := ["self", "table"]) fun _ _ _ _ _ _ us hl => match us, hl with | [_, _], _ => rfl
  have hC := PySem.W.mg_of X G aC
  have PF : PlF K C := ⟨⟨pg, hd, po, sa⟩, nC, nT, nS, nP, nH⟩
  have PL : PlC K mg C := ⟨hC, _, _, _, ⟨rd, ga⟩, ⟨v6, ⟨_, rfl⟩⟩, ⟨v8, ⟨_, rfl⟩⟩⟩
  have EX : ExcC K D := ⟨dg, dh, db, dd, da, dn, du, dm⟩
  have EB : ErC K mg "BadFact" D := ⟨dq, PySem.W.mg_of X G ge1, dk, db, dt⟩
  have SF : SaidF K mg (fun i => match i with | 0 => E0 | 1 => D | 2 => E2 | 3 => E3 | 4 => E4 | 5 => E5 | 6 => E6 | 7 => E7 | 8 => E8 | 9 => E9 | 10 => E10 | 11 => E11 | 12 => E12 | _ => E13) EA D 1 := ⟨PySem.W.mg_of X G gA, PySem.W.exm_ref bA hA tA sA, EX, kit_bi (by decide +kernel) dv, PySem.W.mg_of X G ge0, kit_ref h0 t0x s0 (fun e => ne_of_sub sD s0 e), PySem.W.mg_of X G ge1, kit_ref dd dt sD (fun _ => rfl), PySem.W.mg_of X G ge2, kit_ref h2 t2x s2 (fun e => ne_of_sub sD s2 e), PySem.W.mg_of X G ge3, kit_ref h3 t3x s3 (fun e => ne_of_sub sD s3 e), PySem.W.mg_of X G ge4, kit_ref h4 t4x s4 (fun e => ne_of_sub sD s4 e), PySem.W.mg_of X G ge5, kit_ref h5 t5x s5 (fun e => ne_of_sub sD s5 e), PySem.W.mg_of X G ge6, kit_ref h6 t6x s6 (fun e => ne_of_sub sD s6 e), PySem.W.mg_of X G ge7, kit_ref h7 t7x s7 (fun e => ne_of_sub sD s7 e), PySem.W.mg_of X G ge8, kit_ref h8 t8x s8 (fun e => ne_of_sub sD s8 e), PySem.W.mg_of X G ge9, kit_ref h9 t9x s9 (fun e => ne_of_sub sD s9 e), PySem.W.mg_of X G ge10, kit_ref h10 t10x s10 (fun e => ne_of_sub sD s10 e), PySem.W.mg_of X G ge11, kit_ref h11 t11x s11 (fun e => ne_of_sub sD s11 e), PySem.W.mg_of X G ge12, kit_ref h12 t12x s12 (fun e => ne_of_sub sD s12 e), PySem.W.mg_of X G ge13, kit_ref h13 t13x s13 (fun e => ne_of_sub sD s13 e)⟩
  refine ⟨PySem.W.fnOf "law" "law" (defArgs s_law) (defBody s_law) (defScope s_law) .none kVla dcla pmla anla (.ref cL) ctla, [(cL, PT)], spLawT K PT, fun p hp => ?_, fun p hp => ?_, fun p hp => ?_, fun s v => .of_eq rfl, fun H a ns hl _ hH hS => ⟨a, ns, rfl, hS, hl, hH (cL, PT) List.mem_cons_self, fun _ => rfl⟩, fun base _ _ HB => ?_⟩
  · rw [List.mem_singleton.mp hp]; exact HT PT mem
  · rw [List.mem_singleton.mp hp]; exact nt
  · rw [List.mem_singleton.mp hp]; exact PySem.W.codeHd_of_K X yhc
  have Gnu : FnOk l.prog w K mg base CX0 1 fnu _ _ (spNumber K) := ok_number Dnu T
  have Gbe : FnOk l.prog w K mg base CX0 2 fbe _ _ (spBelow K) := ok_below Dbe T Dnu Gnu
  have Gna : FnOk l.prog w K mg base CX0 1 fna _ _ (spName K) := ok_name Dna T mMOST_LETTERS
  have Gli : FnOk l.prog w K mg base CX0 1 fli _ _ (spList K) := ok_list Dli T
  have Gpa : FnOk l.prog w K mg base CX0 1 fpa _ _ (spPair K) := ok_pair Dpa T
  have Gpb : FnOk l.prog w K mg base CX0 1 fpa _ _ spPairA := ok_pairA Dpa T
  have Gco : FnOk l.prog w K mg base CX0 2 fco _ _ (spColumn K) := ok_column Dco T mMOST_VALUES Dpa Gpa Dna Gna Dnu Gnu
  have Gta : FnOk l.prog w K mg base CX0 2 fta _ _ (spTable K) := ok_table Dta T mMOST_SIDES Dpa Gpa Dna Gna
  have Gdi : FnOk l.prog w K mg base CX0 1 fdi _ _ (spDist K) := ok_dist Ddi T
  have Gac : FnOk l.prog w K mg base CX0 3 fac _ _ (spColumns K) := ok_columns Dac T PL Dli Gli Dco Gco Ddi Gdi
  have Gat : FnOk l.prog w K mg base CX0 3 fat _ _ (spTables K) := ok_tables Dat T PL Dli Gli Dta Gta Ddi Gdi
  have Gin : FnOk l.prog w K mg base CX0 4 fin _ _ (spInit K C) := ok_init Fin T PF Dac Gac Dat Gat
  have Gic : FnOk l.prog w K mg base CX0 3 fic _ _ (spIsFact C) := ok_is_fact Dic T T2.zi PF Fsp bsp ⟨asp, isp, ksp⟩ Dpa Gpb Dbe Gbe
  have Gcf : FnOk l.prog w K mg base (L2.CX l.prog w) 4 fcf _ _ (spCheck C D) := ok_check Dcf T Dic Gic EB
  have Glts : FnOk l.prog w K mg base CX0 1 flts _ _ spLts := ok_lts Dlts T2.en
  have Gsr : FnOk l.prog w K mg base (L2.CX l.prog w) 5 fsr _ _ (spSeers C D) := ok_seers Dsr T Dcf Gcf Dlts Glts
  have Gse : FnOk l.prog w K mg base CX0 1 fse _ _ spSees := ok_sees Dse T
  have Gst : FnOk l.prog w K mg base CX0 1 fst _ _ (spState K) := ok_state Dst T
  have Gdr : FnOk l.prog w K mg base CX0 1 fdr _ _ spDraw := ok_draw Ddr T
  have Gpi : FnOk l.prog w K mg base CX0 2 fpi _ _ spPick := ok_pick Dpi T Ddr Gdr
  have Gmi : FnOk l.prog w K mg base CX0 2 fmi _ _ (spMixed K) := ok_mixed Dmi T Ddr Gdr
  have Gnm : FnOk l.prog w K mg base CX0 3 fnm _ _ spNames := ok_names Dnm T Ddr Gdr Dpi Gpi
  have Glc : FnOk l.prog w K mg base CX0 4 flc _ _ spLCols := ok_lcols Dlc T Ddr Gdr Dnm Gnm
  have Glt : FnOk l.prog w K mg base CX0 4 flt _ _ spLTabs := ok_ltabs Dlt T Ddr Gdr Dpi Gpi Dnm Gnm
  have Glf : FnOk l.prog w K mg base CX0 1 flf _ _ spLFacts := ok_lfacts Dlf T
  have Glk : FnOk l.prog w K mg base CX0 1 flk _ _ spLLooks := ok_llooks Dlk T T2.en
  have Gls : FnOk l.prog w K mg base CX0 1 fls _ _ spSees := ok_lsees Dls T
  have Gcr : FnOk l.prog w K mg base CX0 2 fcr _ _ spCrossed := ok_crossed Dcr T Dse Gse
  exact ok_law lla cla (HB (cL, PT) List.mem_cons_self) T T2 PL ⟨mk, ain, iin, kc⟩ bin Gin Dst Gst Dpi Gpi Dmi Gmi Dlc Glc Dlt Glt Dlf Glf Dlk Glk Dls Gls Dse Gse Dcr Gcr Dsr Gsr Dsd.m ksd lsd csd Dsd.b SF
theorem walk {l : PySem.W.OpenLaw} {q : Program} {loose : List Str} {XP : (Str → Option Value) → Heap → Prop} {YP : World → Heap → Prop} {d : DefRec} {K : Params → PySem.W.Frag} (hn : l.most = some 63) (hdf : d.params.defaults = [])
    (hY : ∀ (w : World) (h : Heap), YP w h → (K w.params).In h)
    (F : ∀ (w : World) (mg : Str → Option Value) (fa : Addr) (h : Heap), YP w h → (K w.params).In h → h.Ns mainGlobals mg → mg d.name = some (.ref fa) → LawAtS l w (K w.params) CX0 8 63 "script" mg fa h) :
    PySem.W.WalkO q loose XP YP l.row.toRowW d [] (fun f vs => PySem.call f vs) :=
  walk_ofTs (n := 63) (k := 8) (x := "script") (CX := fun _ => CX0) hn (by decide) hdf ⟨rfl, by decide, by decide⟩ hY F fun _ _ _ _ _ z => z
end As

open PySem PySem.W PyProof.Rows in
set_option maxRecDepth 100000 in
set_option maxHeartbeats 0 in
theorem PySem.Challenge.cw_asksold_k05_what_looks_see_holds : PySem.Challenge.rw_asksold_k05_what_looks_see.Holds := by
  w_on; o_law; k_head; (case hw => w_witness2)
  k_fill
  refine As.walk (l := PySem.Challenge.rw_asksold_k05_what_looks_see) rfl rfl (fun w h Y => PySem.W.km_in_of Y) ?F
  case F =>
    intro w mg fa h Y KX G hmg
    refine' As.all_mk KX (PySem.W.km_tabs_of Y) G hmg ?anu ?lnu ?cnu ?knu ?abe ?lbe ?cbe ?kbe ?ana ?lna ?cna ?kna ?ali ?lli ?cli ?kli ?apa ?lpa ?cpa ?kpa ?aco ?lco ?cco ?kco ?ata ?lta ?cta ?kta ?adi ?ldi ?cdi ?kdi ?aac ?lac ?cac ?kac ?aat ?lat ?cat ?kat ?aic ?lic ?cic ?kic ?acf ?lcf ?ccf ?kcf ?ase ?lse ?cse ?kse ?asr ?lsr ?csr ?ksr ?alts ?llts ?clts ?klts ?ast ?lst ?cst ?kst ?adr ?ldr ?cdr ?kdr ?api ?lpi ?cpi ?kpi ?ami ?lmi ?cmi ?kmi ?anm ?lnm ?cnm ?knm ?alc ?llc ?clc ?klc ?alt ?llt ?clt ?klt ?asd ?lsd ?csd ?ksd ?alf ?llf ?clf ?klf ?alk ?llk ?clk ?klk ?als ?lls ?cls ?kls ?acr ?lcr ?ccr ?kcr ?ala ?lla ?cla ?kla ?aC ?ain ?iin ?lin ?cin ?kin ?asp ?isp ?lsp ?csp ?ksp ?pg ?hd ?po ?sa ?mk ?kc ?nC ?nT ?nS ?nP ?nH ?rd ?ga ?v6 ?v8 ?gA ?bA ?hA ?tA ?ge0 ?ge1 ?ge2 ?ge3 ?ge4 ?ge5 ?ge6 ?ge7 ?ge8 ?ge9 ?ge10 ?ge11 ?ge12 ?ge13 ?sA ?h0 ?t0x ?s0 ?h2 ?t2x ?s2 ?h3 ?t3x ?s3 ?h4 ?t4x ?s4 ?h5 ?t5x ?s5 ?h6 ?t6x ?s6 ?h7 ?t7x ?s7 ?h8 ?t8x ?s8 ?h9 ?t9x ?s9 ?h10 ?t10x ?s10 ?h11 ?t11x ?s11 ?h12 ?t12x ?s12 ?h13 ?t13x ?s13 ?dv ?dk ?db ?dt ?dg ?dh ?dd ?da ?dn ?du ?dm ?dq ?z_isinstance ?z_len ?z_all ?z_list ?z_tuple ?z_range ?z_abs ?z_min ?z_int ?z_bool ?z_str ?z_sorted ?z_dict ?z_enumerate ?z_zip ?z_ValueError ?y_MOST_LETTERS ?y_MOST_VALUES ?y_MOST_SIDES ?mem ?nt ?yhc ?sD
    (case anu => k_is)
    (case lnu => k_is)
    (case cnu => k_is)
    (case knu => k_is)
    (case abe => k_is)
    (case lbe => k_is)
    (case cbe => k_is)
    (case kbe => k_is)
    (case ana => k_is)
    (case lna => k_is)
    (case cna => k_is)
    (case kna => k_is)
    (case ali => k_is)
    (case lli => k_is)
    (case cli => k_is)
    (case kli => k_is)
    (case apa => k_is)
    (case lpa => k_is)
    (case cpa => k_is)
    (case kpa => k_is)
    (case aco => k_is)
    (case lco => k_is)
    (case cco => k_is)
    (case kco => k_is)
    (case ata => k_is)
    (case lta => k_is)
    (case cta => k_is)
    (case kta => k_is)
    (case adi => k_is)
    (case ldi => k_is)
    (case cdi => k_is)
    (case kdi => k_is)
    (case aac => k_is)
    (case lac => k_is)
    (case cac => k_is)
    (case kac => k_is)
    (case aat => k_is)
    (case lat => k_is)
    (case cat => k_is)
    (case kat => k_is)
    (case aic => k_is)
    (case lic => k_is)
    (case cic => k_is)
    (case kic => k_is)
    (case acf => k_is)
    (case lcf => k_is)
    (case ccf => k_is)
    (case kcf => k_is)
    (case ase => k_is)
    (case lse => k_is)
    (case cse => k_is)
    (case kse => k_is)
    (case asr => k_is)
    (case lsr => k_is)
    (case csr => k_is)
    (case ksr => k_is)
    (case alts => k_is)
    (case llts => k_is)
    (case clts => k_is)
    (case klts => k_is)
    (case ast => k_is)
    (case lst => k_is)
    (case cst => k_is)
    (case kst => k_is)
    (case adr => k_is)
    (case ldr => k_is)
    (case cdr => k_is)
    (case kdr => k_is)
    (case api => k_is)
    (case lpi => k_is)
    (case cpi => k_is)
    (case kpi => k_is)
    (case ami => k_is)
    (case lmi => k_is)
    (case cmi => k_is)
    (case kmi => k_is)
    (case anm => k_is)
    (case lnm => k_is)
    (case cnm => k_is)
    (case knm => k_is)
    (case alc => k_is)
    (case llc => k_is)
    (case clc => k_is)
    (case klc => k_is)
    (case alt => k_is)
    (case llt => k_is)
    (case clt => k_is)
    (case klt => k_is)
    (case asd => k_is)
    (case lsd => k_is)
    (case csd => k_is)
    (case ksd => k_is)
    (case alf => k_is)
    (case llf => k_is)
    (case clf => k_is)
    (case klf => k_is)
    (case alk => k_is)
    (case llk => k_is)
    (case clk => k_is)
    (case klk => k_is)
    (case als => k_is)
    (case lls => k_is)
    (case cls => k_is)
    (case kls => k_is)
    (case acr => k_is)
    (case lcr => k_is)
    (case ccr => k_is)
    (case kcr => k_is)
    (case ala => k_is)
    (case lla => k_is)
    (case cla => k_is)
    (case kla => k_is)
    (case aC => k_is)
    (case ain => k_is)
    (case iin => k_is)
    (case lin => k_is)
    (case cin => k_is)
    (case kin => k_is)
    (case asp => k_is)
    (case isp => k_is)
    (case lsp => k_is)
    (case csp => k_is)
    (case ksp => k_is)
    (case pg => k_is)
    (case hd => k_is)
    (case po => k_is)
    (case sa => k_is)
    (case mk => k_is)
    (case kc => k_is)
    (case nC => k_is)
    (case nT => k_is)
    (case nS => k_is)
    (case nP => k_is)
    (case nH => k_is)
    (case rd => k_is)
    (case ga => k_is)
    (case v6 => k_is)
    (case v8 => k_is)
    (case gA => k_is)
    (case bA => k_is)
    (case hA => k_is)
    (case tA => k_is)
    (case ge0 => k_is)
    (case ge1 => k_is)
    (case ge2 => k_is)
    (case ge3 => k_is)
    (case ge4 => k_is)
    (case ge5 => k_is)
    (case ge6 => k_is)
    (case ge7 => k_is)
    (case ge8 => k_is)
    (case ge9 => k_is)
    (case ge10 => k_is)
    (case ge11 => k_is)
    (case ge12 => k_is)
    (case ge13 => k_is)
    (case sA => k_is)
    (case h0 => k_is)
    (case t0x => k_is)
    (case s0 => k_is)
    (case h2 => k_is)
    (case t2x => k_is)
    (case s2 => k_is)
    (case h3 => k_is)
    (case t3x => k_is)
    (case s3 => k_is)
    (case h4 => k_is)
    (case t4x => k_is)
    (case s4 => k_is)
    (case h5 => k_is)
    (case t5x => k_is)
    (case s5 => k_is)
    (case h6 => k_is)
    (case t6x => k_is)
    (case s6 => k_is)
    (case h7 => k_is)
    (case t7x => k_is)
    (case s7 => k_is)
    (case h8 => k_is)
    (case t8x => k_is)
    (case s8 => k_is)
    (case h9 => k_is)
    (case t9x => k_is)
    (case s9 => k_is)
    (case h10 => k_is)
    (case t10x => k_is)
    (case s10 => k_is)
    (case h11 => k_is)
    (case t11x => k_is)
    (case s11 => k_is)
    (case h12 => k_is)
    (case t12x => k_is)
    (case s12 => k_is)
    (case h13 => k_is)
    (case t13x => k_is)
    (case s13 => k_is)
    (case dv => k_is)
    (case dk => k_is)
    (case db => k_is)
    (case dt => k_is)
    (case dg => k_is)
    (case dh => k_is)
    (case dd => k_is)
    (case da => k_is)
    (case dn => k_is)
    (case du => k_is)
    (case dm => k_is)
    (case dq => k_exc)
    (case z_isinstance => k_is)
    (case z_len => k_is)
    (case z_all => k_is)
    (case z_list => k_is)
    (case z_tuple => k_is)
    (case z_range => k_is)
    (case z_abs => k_is)
    (case z_min => k_is)
    (case z_int => k_is)
    (case z_bool => k_is)
    (case z_str => k_is)
    (case z_sorted => k_is)
    (case z_dict => k_is)
    (case z_enumerate => k_is)
    (case z_zip => k_is)
    (case z_ValueError => k_is)
    (case y_MOST_LETTERS => k_is)
    (case y_MOST_VALUES => k_is)
    (case y_MOST_SIDES => k_is)
    (case mem => exact List.mem_cons_self)
    (case nt => first | k_is | rfl | decide)
    (case yhc => first | k_is | rfl | decide)
    (case sD => k_is)

