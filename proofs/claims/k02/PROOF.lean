import PyProof.Rows.All
import Wide.All
import OpenK.AllK
import Wide.FinOn
import HandS.ForMost
import HandS.Flow
import HandS.IsInst
import HandS.Property
import HandS.ClsMeth
import HandS.Conv
import HandS.DictComp
import HandS.SetBool
import HandS.SetKeys
import HandS.Defaults
import HandS.Wide
import HandS.Strs
import HandS.Zip
import HandS.OwnEq
import HandS.Walk
import PySem.Challenge.RW_asksold_k02_what_plans_return
set_option Elab.async false
set_option linter.all false
set_option maxRecDepth 100000
/-! ## A0 -/
namespace As
open PySem PySem.Spec PyProof.Rows L2

theorem ps_dead {X : Cx} {st : Stmt} : PS X st tNever := ⟨fun _ _ _ _ _ _ h => h.elim⟩

/-! heaps -/
theorem same_new {H : Hp} {p : Addr} {o : HO} (h : H p = none) : Same H (upd H p o) := fun b u e => by
  rw [upd_ne (ne_of_none e h)]; exact e
theorem same_new' {B H : Hp} {p : Addr} {o : HO} (e : Same B H) (h : H p = none) : Same B (upd H p o) := e.trans (same_new h)
/-- a place that B does not know may change -/
theorem same_mut {B H : Hp} {p : Addr} {o : HO} (e : Same B H) (h : B p = none) : Same B (upd H p o) := fun b u q => by
  rw [upd_ne (ne_of_none q h)]; exact e b u q
theorem same_t {K : PySem.W.Frag} {H H' : Hp} {a : Addr} {xs : List V} (e : Same H H') (h : SqT K H a xs) : SqT K H' a xs := by
  rcases h with (h | ⟨o, h⟩) | h
  · exact .inl (.inl (e _ _ h))
  · exact .inl (.inr ⟨o, e _ _ h⟩)
  · exact .inr h
theorem tof {K : PySem.W.Frag} {H : Hp} {a : Addr} {xs : List V} (h : H a = some (.tup xs)) : SqT K H a xs := .inl (.inl h)
theorem lof {K : PySem.W.Frag} {H : Hp} {a : Addr} {xs : List V} (h : H a = some (.lst xs)) : SqL K H a xs := .inl (.inl h)
def rem (B : Hp) (f : Addr) : Hp := fun b => if b = f then none else B b
theorem rem_self {B : Hp} {f : Addr} : rem B f f = none := if_pos rfl
theorem rem_ne {B : Hp} {f b : Addr} (h : b ≠ f) : rem B f b = B b := if_neg h
theorem same_rem {B : Hp} {f : Addr} : Same (rem B f) B := fun b o e => by
  by_cases h : b = f
  · subst h; rw [rem_self] at e; cases e
  · rw [rem_ne h] at e; exact e
theorem same_into_rem {A B : Hp} {f : Addr} (e : Same A B) (h : A f = none) : Same A (rem B f) := fun b o q => by
  rw [rem_ne (ne_of_none q h)]; exact e b o q

/-! the source of draws -/
/-- the list at a is [cells, index, hash], its cells at c -/
def StAt (H : Hp) (a c : Addr) : Prop := ∃ (i h : Int) (cs : List Int), a ≠ c ∧ H a = some (.lst [.ref c, .int i, .int h]) ∧ H c = some (.lst (cs.map V.int)) ∧ 0 < cs.length ∧ cs.length ≤ 63 ∧ 0 ≤ h ∧ h < 2147483647
/-- all stands but the source of draws -/
def Fr (a c : Addr) (H H' : Hp) : Prop := ∀ b o, b ≠ a → b ≠ c → H b = some o → H' b = some o
/-- B is known to stand for good; the source of draws is none of it -/
structure Gd (a c : Addr) (B H : Hp) : Prop where
  ex : Same B H
  na : B a = none
  nc : B c = none
  st : StAt H a c
theorem StAt.same {H H' : Hp} {a c : Addr} (h : StAt H a c) (e : Same H H') : StAt H' a c := by
  obtain ⟨i, z, cs, n, h1, h2, r⟩ := h
  exact ⟨i, z, cs, n, e _ _ h1, e _ _ h2, r⟩
theorem StAt.a_ne {H : Hp} {a c b : Addr} (h : StAt H a c) (hb : H b = none) : b ≠ a := by
  obtain ⟨i, z, cs, n, h1, h2, r⟩ := h
  exact (ne_of_none h1 hb).symm
theorem StAt.c_ne {H : Hp} {a c b : Addr} (h : StAt H a c) (hb : H b = none) : b ≠ c := by
  obtain ⟨i, z, cs, n, h1, h2, r⟩ := h
  exact (ne_of_none h2 hb).symm
namespace Gd
variable {a c : Addr} {B B' H H' : Hp}
theorem same (g : Gd a c B H) (e : Same H H') : Gd a c B H' := ⟨g.ex.trans e, g.na, g.nc, g.st.same e⟩
theorem fr (g : Gd a c B H) (f : Fr a c H H') (s : StAt H' a c) : Gd a c B H' :=
  ⟨fun b o e => f b o (ne_of_none e g.na) (ne_of_none e g.nc) (g.ex b o e), g.na, g.nc, s⟩
theorem new (g : Gd a c B H) {p : Addr} {o : HO} (h : H p = none) : Gd a c B (upd H p o) := g.same (same_new h)
/-- the new object is known from then on -/
theorem add (g : Gd a c B H) {p : Addr} {o : HO} (h : H p = none) : Gd a c (upd B p o) (upd H p o) := by
  refine ⟨fun b u e => ?_, ?_, ?_, g.st.same (same_new h)⟩
  · by_cases q : b = p
    · subst q; rw [upd_same] at e ⊢; exact e
    · rw [upd_ne q] at e ⊢; exact g.ex b u e
  · rw [upd_ne (g.st.a_ne h).symm]; exact g.na
  · rw [upd_ne (g.st.c_ne h).symm]; exact g.nc
/-- what stands is told of -/
theorem know (g : Gd a c B H) {p : Addr} {o : HO} (h : H p = some o) (h1 : p ≠ a) (h2 : p ≠ c) : Gd a c (upd B p o) H := by
  refine ⟨fun b u e => ?_, ?_, ?_, g.st⟩
  · by_cases q : b = p
    · subst q; rw [upd_same] at e; rw [h]; exact e
    · rw [upd_ne q] at e; exact g.ex b u e
  · rw [upd_ne h1.symm]; exact g.na
  · rw [upd_ne h2.symm]; exact g.nc
theorem less (g : Gd a c B H) (e : Same B' B) : Gd a c B' H := by
  refine ⟨e.trans g.ex, ?_, ?_, g.st⟩
  · cases q : B' a with
    | none => rfl
    | some o => have := e _ _ q; rw [g.na] at this; cases this
  · cases q : B' c with
    | none => rfl
    | some o => have := e _ _ q; rw [g.nc] at this; cases this
/-- an object that is not told of is changed -/
theorem chg (g : Gd a c B H) {p : Addr} {o : HO} (h : B p = none) (h1 : p ≠ a) (h2 : p ≠ c) : Gd a c B (upd H p o) := by
  refine ⟨same_mut g.ex h, g.na, g.nc, ?_⟩
  obtain ⟨i, z, cs, n, e1, e2, r⟩ := g.st
  exact ⟨i, z, cs, n, by rw [upd_ne h1.symm]; exact e1, by rw [upd_ne h2.symm]; exact e2, r⟩
theorem free (g : Gd a c B H) {p : Addr} (h : H p = none) : B p = none := g.ex.free h
theorem ne_a (g : Gd a c B H) {p : Addr} (h : H p = none) : p ≠ a := g.st.a_ne h
theorem ne_c (g : Gd a c B H) {p : Addr} (h : H p = none) : p ≠ c := g.st.c_ne h
end Gd
end As

/-! ## A1 -/
namespace As
open PySem PySem.Spec PyProof.Rows L2

/-- a comprehension that only reads: item x gives f x, or is left out -/
theorem lc_same {J : It} {n : Nat} {G : Hp → Prop} {xs : List V} {g : TG} {tt : TT} {te : TE} {vs : List Nat} {σ : L2.St} {H1 B : Hp} {D : Addr} {Qd : Hp → Prop}
    (w : Walk J n G (YAt xs)) (hn : n = xs.length) (s0 : Same B H1) (hD : H1 D = none) (hG : ∀ H, Same B H → G H) (hl : xs.length < sizeLine) (f : V → Option V)
    (hs : ∀ x H (Q1 : VK) (Q2 : Hp → Prop), x ∈ xs → Same B H → (∀ y H4, f x = some y → Same H H4 → Q1 y H4) → (∀ H3, f x = none → Same H H3 → Q2 H3) →
      g x (wipe σ vs) H fun σ2 H2 => wipe σ2 vs = wipe σ vs ∧ tt σ2 H2 fun b H3 => if b = true then te σ2 H3 Q1 else Q2 H3)
    (hd : ∀ H', Same H1 H' → H' D = some (.lst (xs.filterMap f)) → Qd H') :
    ∃ W : Nat → Nat → Hp → Prop, (∃ m, W 0 m (upd H1 D (.lst []))) ∧ ∀ i m H, W i m H →
      (J.stop i H ∧ Qd H) ∨ (J.go i H ∧ ∃ Nx : Hp → Prop, (∀ H', Nx H' → ∃ m', m' < m ∧ W (i + 1) m' H') ∧ ∀ x H', J.yld i H x H' → g x (wipe σ vs) H' fun σ2 H2 => wipe σ2 vs = wipe σ vs ∧ tt σ2 H2 fun b H3 =>
        if b = true then te σ2 H3 fun y H4 => ∃ acc, H4 D = some (.lst acc) ∧ acc.length < sizeLine ∧ Nx (upd H4 D (.lst (acc ++ [y]))) else Nx H3) := by
  subst hn
  refine lc_it w (fun i H => Same H1 H ∧ H D = some (.lst ((xs.take i).filterMap f))) ⟨same_new hD, by rw [upd_same]; rfl⟩ (fun i H _ p => hG H (s0.trans p.1)) (fun i x H H' hi p y => ?_) (fun H p => hd H p.1 (by rw [p.2, List.take_length]))
  obtain ⟨rfl, hx⟩ := y
  have hm : x ∈ xs := List.mem_of_getElem? hx
  have ht : xs.take (i + 1) = xs.take i ++ [x] := by
    rw [List.take_succ, hx]; rfl
  refine hs x H' _ _ hm (s0.trans p.1) (fun y H4 e s4 => ⟨_, s4 _ _ p.2, ?_, ?_, ?_⟩) (fun H3 e s3 => ⟨p.1.trans s3, ?_⟩)
  · have a1 := List.length_filterMap_le f (xs.take i)
    have a2 := List.length_take_le i xs
    omega
  · exact same_mut (p.1.trans s4) hD
  · rw [upd_same, ht, List.filterMap_append, List.filterMap_cons, e]; rfl
  · rw [s3 _ _ p.2, ht, List.filterMap_append, List.filterMap_cons, e]; simp

/-- a comprehension whose turns draw: P tells what is made so far -/
theorem lc_draw {J : It} {n : Nat} {G : Hp → Prop} {xs : Nat → V} {g : TG} {tt : TT} {te : TE} {vs : List Nat} {σ : L2.St} {H1 B : Hp} {D a c : Addr} {Qd : Hp → Prop}
    (w : Walk J n G (YFn xs)) (g0 : Gd a c B H1) (hD : H1 D = none) (hG : ∀ B' H, Same B B' → Gd a c B' H → G H) (hl : n < sizeLine) (P : Nat → List V → Hp → Prop)
    (h0 : P 0 [] B) (hP : ∀ i acc acc0 B', P i acc B' → B' D = some (.lst acc0) → P i acc (rem B' D)) (hlen : ∀ i acc B', P i acc B' → acc.length ≤ i)
    (hs : ∀ i H B' acc (Q1 : VK) (Q2 : Hp → Prop), i < n → Same B B' → Gd a c B' H → P i acc (rem B' D) → B' D = some (.lst acc) →
      (∀ y H4 B4, Same B' B4 → Gd a c B4 H4 → P (i + 1) (acc ++ [y]) B4 → Q1 y H4) → (∀ H3 B3, Same B' B3 → Gd a c B3 H3 → P (i + 1) acc B3 → Q2 H3) →
      g (xs i) (wipe σ vs) H fun σ2 H2 => wipe σ2 vs = wipe σ vs ∧ tt σ2 H2 fun b H3 => if b = true then te σ2 H3 Q1 else Q2 H3)
    (hd : ∀ H' B' acc, Same B B' → Gd a c B' H' → B' D = some (.lst acc) → P n acc (rem B' D) → Qd H') :
    ∃ W : Nat → Nat → Hp → Prop, (∃ m, W 0 m (upd H1 D (.lst []))) ∧ ∀ i m H, W i m H →
      (J.stop i H ∧ Qd H) ∨ (J.go i H ∧ ∃ Nx : Hp → Prop, (∀ H', Nx H' → ∃ m', m' < m ∧ W (i + 1) m' H') ∧ ∀ x H', J.yld i H x H' → g x (wipe σ vs) H' fun σ2 H2 => wipe σ2 vs = wipe σ vs ∧ tt σ2 H2 fun b H3 =>
        if b = true then te σ2 H3 fun y H4 => ∃ acc, H4 D = some (.lst acc) ∧ acc.length < sizeLine ∧ Nx (upd H4 D (.lst (acc ++ [y]))) else Nx H3) := by
  have bD : B D = none := g0.free hD
  have na := g0.ne_a hD
  have nc := g0.ne_c hD
  -- the invariant: what is known but for the list at D, and the list
  refine lc_it w (fun i H => ∃ B' acc, Same B B' ∧ B' D = none ∧ Gd a c B' H ∧ H D = some (.lst acc) ∧ P i acc B') ⟨B, [], fun _ _ e => e, bD, g0.chg bD na nc |>.less (fun _ _ e => e), upd_same, h0⟩
    (fun i H _ ⟨B', acc, s, _, gd, _, _⟩ => hG B' H s gd) (fun i x H H' hi p y => ?_) (fun H p => ?_)
  · obtain ⟨rfl, rfl⟩ := y
    obtain ⟨B', acc, s, bn, gd, hd', p⟩ := p
    have rD : rem (upd B' D (.lst acc)) D = B' := by
      funext b
      by_cases e : b = D
      · subst e; rw [rem_self, bn]
      · rw [rem_ne e, upd_ne e]
    refine hs i H' (upd B' D (.lst acc)) acc _ _ hi (same_new' s bn) (gd.know hd' na nc) (by rw [rD]; exact p) upd_same (fun y H4 B4 s4 g4 p4 => ?_) (fun H3 B3 s3 g3 p3 => ?_)
    · have b4 : B4 D = some (.lst acc) := s4 _ _ upd_same
      have e4 : H4 D = some (.lst acc) := g4.ex _ _ b4
      have h1 := hlen _ _ _ p4
      rw [List.length_append] at h1
      have h2 : acc.length < sizeLine := by simp at h1; omega
      refine ⟨acc, e4, h2, rem B4 D, acc ++ [y], same_into_rem (s.trans ((same_new bn).trans s4)) bD, rem_self, ?_, upd_same, hP _ _ _ _ p4 b4⟩
      exact (g4.less same_rem).chg rem_self na nc
    · have b3 : B3 D = some (.lst acc) := s3 _ _ upd_same
      exact ⟨rem B3 D, acc, same_into_rem (s.trans ((same_new bn).trans s3)) bD, rem_self, g3.less same_rem, g3.ex _ _ b3, hP _ _ _ _ p3 b3⟩
  · obtain ⟨B', acc, s, bn, gd, hd', p⟩ := p
    have rD : rem (upd B' D (.lst acc)) D = B' := by
      funext b
      by_cases e : b = D
      · subst e; rw [rem_self, bn]
      · rw [rem_ne e, upd_ne e]
    exact hd H (upd B' D (.lst acc)) acc (same_new' s bn) (gd.know hd' na nc) upd_same (by rw [rD]; exact p)
/-- a list's items by place -/
theorem walk_at {K : PySem.W.Frag} {a : Addr} {xs : List V} (d : V) : Walk (Itl K a) xs.length (fun H => SqL K H a xs) (YFn fun i => xs.getD i d) :=
  walk_list.mono (fun _ h => h) fun i H x H' hi _ y => ⟨y.1, by show x = xs.getD i d; rw [List.getD_eq_getElem?_getD, y.2]; rfl⟩
end As

/-! ## A2 -/
namespace As
open PySem PySem.Spec PyProof.Rows L2
/-- a def of the top, as it stands -/
structure Df (K : PySem.W.Frag) (mg : Str → Option Value) (x : Str) (st : Stmt) (ps : List Str) (f : Addr) (fd : FuncData) : Prop where
  F : Fun K x x st f fd
  m : mg x = some (.ref f)
  b : Binds K fd ps []
/-- what the program reads of the module and the built-ins -/
structure Bi (mg : Str → Option Value) : Prop where
  isinst : mg "isinstance" = none
  len : mg "len" = none
  all : mg "all" = none
  list : mg "list" = none
  tuple : mg "tuple" = none
  range : mg "range" = none
  abs : mg "abs" = none
  min : mg "min" = none
  int : mg "int" = none
  bool : mg "bool" = none
  str : mg "str" = none
  sorted : mg "sorted" = none
  dict : mg "dict" = none
section
variable {X : Cx} {sp : Sp} {x : Str} {f : Addr} {fd : FuncData} {ps : List Str} {k : Nat} {st : Stmt} {p pos : Pos} {e : Expr} {es : List Expr} {t : TA}
theorem pcall (D : Df X.K X.mg x st ps f fd) (G : FnOk X.prog X.w X.K X.mg X.base CX0 k f fd ps sp) (hr : Room k X.A) (ha : PA X (e :: es) t) (hg : Gl X x := by rfl)
    (he : starEach (e :: es) X.env = (false, eval e X.env) :: starEach es X.env := by rfl) (hpl : (backTo pos (starEach es X.env)).any (·.1) = false := by rfl) (hdb : (x == ("__debug__" : Str)) = false := by decide) :
    PE X (.Call (.Name x p) (e :: es) [] pos) (tCall sp [] E0 t) := pe_call G hr hg D.m D.F.kp D.b .nil pass0 ha (he := he) (hpl := hpl) (hdb := hdb)
end
theorem hu64 {A : Around} {k : Nat} (hr : Room k A) : A.units + 64 < cLine := by have := hr.un; omega
/-- which of two built-in types -/
theorem kint_int {K : PySem.W.Frag} : PySem.W.kitOne K (.type "int") (.type "int") = some true := kit_ty (by decide +kernel)
theorem kint_bool {K : PySem.W.Frag} : PySem.W.kitOne K (.type "int") (.type "bool") = some false := kit_ty (by decide +kernel)
theorem kstr_str {K : PySem.W.Frag} : PySem.W.kitOne K (.type "str") (.type "str") = some true := kit_ty (by decide +kernel)
theorem ktup_tup {K : PySem.W.Frag} : PySem.W.kitOne K (.type "tuple") (.type "tuple") = some true := kit_ty (by decide +kernel)
theorem ktup_list {K : PySem.W.Frag} : PySem.W.kitOne K (.type "tuple") (.type "list") = some false := kit_ty (by decide +kernel)
theorem klist_list {K : PySem.W.Frag} : PySem.W.kitOne K (.type "list") (.type "list") = some true := kit_ty (by decide +kernel)
end As
namespace As
open PySem PySem.Spec PyProof.Rows L2
/-! texts sign by sign -/
def signs (z : Str) : List V := z.cps.toList.map fun c => V.str ⟨#[c]⟩
theorem signs_length {z : Str} : (signs z).length = z.cps.size := by unfold signs; rw [List.length_map, Array.length_toList]
theorem walk_sign {z : Str} : Walk (Its z) z.cps.size (fun _ => True) (YAt (signs z)) :=
  walk_str.mono (fun _ h => h) fun i H v H' _ _ y => by
    obtain ⟨e, c, hc, rfl⟩ := y
    refine ⟨e, ?_⟩
    unfold signs
    rw [List.getElem?_map, Array.getElem?_toList, hc]
    rfl
theorem one_le {c d : Nat} : (!decide (([c] : List Nat) < [d])) = decide (d ≤ c) := by
  have h : ([c] < [d]) ↔ c < d := by
    constructor
    · intro h
      cases h with
      | rel h => exact h
      | cons h => cases h
    · intro h; exact List.Lex.rel h
  by_cases q : d ≤ c
  · rw [decide_eq_true q, decide_eq_false (fun z => by have := h.mp z; omega)]; rfl
  · rw [decide_eq_false q, decide_eq_true (h.mpr (by omega))]; rfl
def letter (c : Nat) : Bool := decide (97 ≤ c) && decide (c ≤ 122)
def nameB (z : Str) : Bool := decide (1 ≤ z.length ∧ z.length ≤ 8) && z.cps.toList.all letter
theorem str_len {z : Str} : z.length = z.cps.size := rfl
theorem all_map {α : Type} {f : α → Bool} : ∀ {l : List α}, (l.map f).all id = l.all f
  | [] => rfl
  | a :: r => by rw [List.map_cons, List.all_cons, List.all_cons, all_map]; rfl
theorem filterMap_some {α β : Type} {f : α → β} {l : List α} : l.filterMap (fun x => some (f x)) = l.map f := by
  induction l with
  | nil => rfl
  | cons a r ih => rw [List.filterMap_cons, List.map_cons, ih]
end As
namespace As
theorem filterMap_same {α β : Type} {f g : α → Option β} : ∀ {l : List α}, (∀ x ∈ l, f x = g x) → l.filterMap f = l.filterMap g
  | [], _ => rfl
  | a :: r, h => by rw [List.filterMap_cons, List.filterMap_cons, h a List.mem_cons_self, filterMap_same fun x hx => h x (List.mem_cons_of_mem _ hx)]
end As

/-! ## A3 -/
set_option maxHeartbeats 2000000
namespace As
open PySem PySem.Spec PyProof.Rows L2
/-- an iteration served by one of two rules -/
theorem pi_either {X : Cx} {tg e : Expr} {w1 w2 : TI} (h1 : PI X tg e w1) (h2 : PI X tg e w2) : PI X tg e (fun σ H R => w1 σ H R ∨ w2 σ H R) :=
  ⟨fun pins s σ H R I h => h.elim (fun q => h1.run pins s σ H R I q) fun q => h2.run pins s σ H R I q⟩

/-- {elt for target in iter if ..} of texts and ints: the set grows by the key k -/
def ScTurn (P : Program) (w : World) (D : Addr) (Nx : Hp → Prop) (y : V) (H : Hp) : Prop :=
  ∃ (k : Key) (S : Key → Bool) (n : Nat), y = kV k ∧ H D = some (SetK P w D S n) ∧ n + 1 < scanBound ∧ Nx (upd H D (SetK P w D (fun j => S j || decide (j = k)) (if S k = true then n else n + 1)))
def tScK (P : Program) (w : World) (wi : TI) (g : TG) (tt : TT) (te : TE) (vs : List Nat) : TE := fun σ H Q => wi σ H fun J H1 => ∀ D, H1 D = none →
  ∃ W : Nat → Nat → Hp → Prop, (∃ m, W 0 m (upd H1 D (SetK P w D (fun _ => false) 0))) ∧ ∀ i m H, W i m H → (J.stop i H ∧ Q (.ref D) H) ∨ (J.go i H ∧ ∃ Nx : Hp → Prop, (∀ H', Nx H' → ∃ m', m' < m ∧ W (i + 1) m' H') ∧
    ∀ x H', J.yld i H x H' → g x (wipe σ vs) H' fun σ2 H2 => wipe σ2 vs = wipe σ vs ∧ tt σ2 H2 fun b H3 => if b = true then te σ2 H3 (ScTurn P w D Nx) else Nx H3)

theorem setK_fresh {P : Program} {w : World} {h : Heap} : (h.push { cls := .type "set", dict := none, data := .set #[] 0 (.fresh 0 0 (!w.params.followText "set-order")) }).SetOf (mixKind P w) h.objs.size (fun _ => false) 0 :=
  ⟨_, #[], 0, _, Heap.get?_push_size h rfl, ⟨rfl, rfl, rfl⟩, rfl, (fun e he => by simp at he), (fun k => by simp), (by decide), (by rfl), rfl⟩

theorem addK_ok {X : Cx} {pins : List (Addr × Obj)} {σ : L2.St} {H : Hp} {s : Shared} {E : Value → Shared → Prop} {D : Addr} {S : Key → Bool} {n : Nat} {k : Key} {u : Value} {Q : Value → Shared → Prop} (I : Inv X pins σ H s) (r : RelV (kV k) u)
    (hD : H D = some (SetK X.prog X.w D S n)) (room : n + 1 < scanBound) (q : ∀ s', Inv X pins σ (upd H D (SetK X.prog X.w D (fun j => S j || decide (j = k)) (if S k = true then n else n + 1))) s' → Q .none s') :
    wpAny (model X.prog X.w) X.A (call (.builtin "set.add") [.ref D, u]) Q E s := by
  refine call_set_add (kV_is r) (key_scan r) (setK_get I hD) room fun h' sb new => q _ ?_
  have ⟨o, _, _, _, ho, _⟩ := new
  exact I.write (e := D) (t' := s.toks + 1) (by rw [hD]; trivial) (.inl rfl) (fun b u hb hu => (sb.2 b hb).trans hu) ⟨o, ho⟩ (setK_new new)

section
variable {X : Cx}
theorem pe_scK {elt tg iter : Expr} {ifs : List Expr} {scope : Scope} {own : List (Str × Nat)} {pos : Pos} {wi : TI} {g : TG} {tt : TT} {te : TE} (calm : X.calm = true) (nd : X.N.Nodup) (hi : PI X tg iter wi) (ok : BlkOk X.N X.env.scope scope own)
    (G : ∀ s H C cl fp, PG (X.blk s H scope (compEnvC scope cl C X.env) fp) tg g) (T : ∀ s H C cl fp, PTs (X.blk s H scope (compEnvC scope cl C X.env) fp) ifs tt)
    (V : ∀ s H C cl fp, PE (X.blk s H scope (compEnvC scope cl C X.env) fp) elt te) (folds : ∀ x, foldedSetIterable iter X.env x = pure x := by intro _; rfl) :
    PE X (.SetComp elt [⟨tg, iter, ifs, 0⟩] scope pos) (tScK X.prog X.w wi g tt te (own.map (·.2))) := by
  refine ⟨fun pins s σ H Q I h => ?_⟩
  rw [PpSet.eval_SetComp]
  have frees : ∀ y ∈ scope.names, y.2 = .free → ∃ c, X.env.cells.lookup y.1 = some c := fun y hy e => (ok.free y hy e).elim (fun k => I.ok.has _ (.inl k)) fun k => I.ok.has _ (.inr k)
  refine wpAny_comprehension_free rfl folds (closure_ok frees) ok.kind (fun y hy e => by rw [ok.uniq y hy, e]) (thn (hi.run pins s σ H _ I h) fun xv s1 hx => thn hx fun itv s2 h2 => ?_)
  obtain ⟨it, fp, tn, J, H2, rfl, I2, walk, at2, free2, q⟩ := h2
  refine PpSet.newSet_ok (newEnv_comp ?_)
  -- D: the place of the new set
  obtain ⟨D, hD⟩ : ∃ D, s2.heap.objs.size = D := ⟨_, rfl⟩
  obtain ⟨W, ⟨m0, w0⟩, turn⟩ := q D (I2.hok.fresh (Nat.le_of_eq hD))
  obtain ⟨H3, eH3⟩ : ∃ H3, upd H2 D (SetK X.prog X.w D (fun _ => false) 0) = H3 := ⟨_, rfl⟩
  obtain ⟨s3, e3⟩ : ∃ s3 : Shared, ({ s2 with heap := s2.heap.push { cls := .type "set", dict := none, data := .set #[] 0 (.fresh 0 0 (!X.w.params.followText "set-order")) } } : Shared) = s3 := ⟨_, rfl⟩
  have I3 : Inv X pins σ H3 s3 := by
    subst e3 eH3
    refine I2.laid (t' := s2.toks) (fun b o e => Heap.get?_push_of_some _ e) (Nat.le_of_eq hD) ?_
    subst hD
    exact setK_new setK_fresh
  have grow : ∀ b o, s2.heap.get? b = some o → s3.heap.get? b = some o := fun b o e => by subst e3; exact Heap.get?_push_of_some _ e
  have in3 : ∀ b ∈ fp, b < s2.heap.objs.size ∧ b < s3.heap.objs.size := fun b hb => by
    obtain ⟨o, e, _⟩ := walk.obj _ _ at2 b hb
    exact ⟨Heap.lt_size e, Heap.lt_size (grow b o e)⟩
  have free3 : ∀ b ∈ fp, FpOk X pins H3 b ∧ b < s3.heap.objs.size := fun b hb => by
    refine ⟨⟨?_, (free2 b hb).2⟩, (in3 b hb).2⟩
    rw [← eH3, upd_ne (by rw [← hD]; exact Nat.ne_of_lt (in3 b hb).1)]
    exact (free2 b hb).1
  have at3 : tn 0 s3.heap := walk.keep _ _ _ at2 fun b _ o e => grow b o e
  have I4 := block_start I3 ok nd free3
  obtain ⟨cl, ecl⟩ : ∃ cl, cellsFrom (s3.heap.objs.size + 1) scope.names (cloFrom X.env.cells scope.names []) = cl := ⟨_, rfl⟩
  rw [ecl] at I4
  have pg := G s3 H3 s3.heap.objs.size cl fp
  have pt := T s3 H3 s3.heap.objs.size cl fp
  have pe := V s3 H3 s3.heap.objs.size cl fp
  rw [eH3] at w0
  have none3 : ∀ b ∈ fp, H3 b = none := fun b hb => (free3 b hb).1.1
  show codeAny _ _ (.compStart (.SetComp elt [⟨tg, iter, ifs, 0⟩] scope pos) 0 (.ref it) (.ref s2.heap.objs.size) _) _ _
  rw [e3, hD, ecl]
  show codeAny _ _ (.compStart _ 0 (.ref it) (.ref D) (compEnvC scope cl s3.heap.objs.size X.env)) (compPost (model X.prog X.w) X.A X.xe none (EP X pins σ Q) (.ref D) s3.heap.objs.size)
    ({ s3 with heap := pushCells (s3.heap.push { cls := .type "dict", data := .dict #[] }) scope.names } : Shared)
  obtain ⟨ce, ece⟩ : ∃ ce, compEnvC scope cl s3.heap.objs.size X.env = ce := ⟨_, rfl⟩
  rw [ece] at I4 pg pt pe ⊢
  have place : ce.locals = s3.heap.objs.size := by rw [← ece]; rfl
  obtain ⟨s4, e4⟩ : ∃ s4 : Shared, ({ s3 with heap := pushCells (s3.heap.push { cls := .type "dict", data := .dict #[] }) scope.names } : Shared) = s4 := ⟨_, rfl⟩
  rw [e4] at I4 ⊢
  have at4 : tn 0 s4.heap := walk.keep _ _ _ at3 fun b _ o e => by rw [← e4]; exact pushCells_keeps _ _ _ _ (Heap.get?_push_of_some _ e)
  have stays : ∀ {σ' : L2.St} {H' : Hp} {s' : Shared}, Inv (X.blk s3 H3 scope ce fp) [] σ' H' s' → (∀ b ∈ fp, H' b = none) → ∀ b ∈ fp, FpOk (X.blk s3 H3 scope ce fp) [] H' b := fun {σ' H' s'} I' hn b hb =>
    ⟨hn b hb, (I'.ok.exf b hb).1, I'.ok.exfs b hb, .inl hb, fun x c e => (I'.ok.exf b hb).2 x c e, fun p hp => absurd (show p ∈ ([] : List (Addr × Obj)) ++ [] from hp) (by simp)⟩
  refine PpSet.codeAny_compStart_set ?loop (walk.self X.A 0 _ _ _ at4 ?loop)
  refine PpSet.compLoopS_any (fun n s' => ∃ i H', Inv (X.blk s3 H3 scope ce fp) [] (wipe σ (own.map (·.2))) H' s' ∧ tn i s'.heap ∧ (∀ b ∈ fp, H' b = none) ∧ W i n H') ?_ m0 ⟨0, H3, I4, at4, none3, w0⟩
  rintro n s5 ⟨i, H5, I5, at5, n5, w5⟩
  rcases turn i n H5 w5 with ⟨stop, qq⟩ | ⟨go, Nx, hNx, step⟩
  · -- no item is left: back in the def
    refine thnF (walk.done (X.blk s3 H3 scope ce fp) rfl rfl rfl calm i [] s5 _ H5 (fun _ _ => False) I5 (stays I5 n5) at5 stop) fun r s6 ⟨hr, I6⟩ => ?_
    subst hr
    have I7 : Inv X pins σ H5 s6 := I3.call' (ch := fp) I6.os I6.base I6.hok I6.bare fun b hb => ⟨(free3 b hb).1.2.2.2.1, (free3 b hb).1.2.1, (free3 b hb).1.2.2.2.2.1, (free3 b hb).1.2.2.2.2.2⟩
    have none5 : H5 s3.heap.objs.size = none := place ▸ (show H5 ce.locals = none from I6.free)
    obtain ⟨m, hn, _⟩ := I6.loc
    have hn : s6.heap.Ns ce.locals m := hn
    rw [place] at hn
    obtain ⟨f0, f1, f2, f3, f4, f5⟩ := I3.fpOk (Nat.le_refl _) none5
    exact ⟨m, hn, fun h'' sb => ⟨.ref D, H5, I7.turned (t' := s6.toks) (fun b o hb e => (sb.2 b hb).trans e) f0 f1 f3 f4 f5, rfl, qq⟩⟩
  · refine thnF (walk.item (X.blk s3 H3 scope ce fp) rfl rfl rfl calm i [] s5 _ H5 (fun _ _ => False) I5 (stays I5 n5) at5 go) fun r s6 ⟨u, hr, h6⟩ => ?_
    subst hr
    refine thnF h6 fun _ s7 ⟨x, H7, I7, r7, y7, at7, n7⟩ => ?_
    refine thnF (pg.run _ s7 _ H7 x u _ (I7.pinned (stays I7 n7) (walk.obj _ _ at7)) r7 (step x H7 y7)) fun _ s8 ⟨σ8, H8, I8, same8, q8⟩ => ?_
    refine thnF (pt.run _ s8 σ8 H8 _ I8 q8) fun b s9 ⟨H9, I9, q9⟩ => ?_
    have next : ∀ {s' : Shared} {H' : Hp}, Inv (X.blk s3 H3 scope ce fp) ([] ++ pinsAt fp s7.heap) σ8 H' s' → Nx H' →
        ∃ m, m < n ∧ ∃ i H', Inv (X.blk s3 H3 scope ce fp) [] (wipe σ (own.map (·.2))) H' s' ∧ tn i s'.heap ∧ (∀ b ∈ fp, H' b = none) ∧ W i m H' := fun {s' H'} I' nx => by
      obtain ⟨m', less, w'⟩ := hNx H' nx
      have pinned : ∀ b ∈ fp, ∀ o, s7.heap.get? b = some o → s'.heap.get? b = some o ∧ H' b = none := fun b hb o e =>
        have z := I'.pin (b, o) (List.mem_append_right _ (List.mem_append_right _ (mem_pinsAt hb e)))
        ⟨z.1, z.2.1⟩
      refine ⟨m', less, i + 1, H', (I'.unpinned (pins := [])).weak (by rw [← same8, wipe_length]) (fun j v e => ?_), walk.keep _ _ _ at7 fun b hb o e => (pinned b hb o e).1, fun b hb => ?_, w'⟩
      · rw [← same8] at e
        exact (wipe_some e).1
      · obtain ⟨o, e, _⟩ := walk.obj _ _ at7 b hb
        exact (pinned b hb o e).2
    cases b with
    | false =>
      simp only [Bool.false_eq_true, if_false] at q9 ⊢
      exact next I9 q9
    | true =>
      simp only [if_true] at q9 ⊢
      refine thnF (pe.run _ s9 σ8 H9 _ I9 q9) fun z s10 ⟨yv, H10, I10, r10, k, S0, n0, ey, atD, room, nx⟩ => ?_
      subst ey
      exact addK_ok (X := X.blk s3 H3 scope ce fp) I10 r10 atD room fun s11 I11 => next I11 nx
end
end As
namespace As
open PySem PySem.Spec PyProof.Rows L2
theorem call_lenK {X : Cx} : CallR X (.builtin "len") (fun xs H Q => ∃ (a : Addr) (S : Key → Bool) (n : Nat), xs = [.ref a] ∧ H a = some (SetK X.prog X.w a S n) ∧ Q (.int n) H) := by
  intro pins s σ H xs us Q I r h
  obtain ⟨a, S, n, rfl, ha, q⟩ := h
  cases r with
  | cons r t =>
    cases t
    cases (show _ = Value.ref a from r)
    obtain ⟨o, es, ep, t, ho, hex, hd, _, _, hb, hf, hn⟩ := setK_get I ha
    have hs : (scanBound : Nat) ≤ 2 ^ 62 := by decide
    exact call_len_set ho hex hd hf (by omega) ⟨.int n, H, I.tok _, ⟨_, by rw [hn]⟩, q⟩

/-- the set comprehension that only reads: keys distinct -/
theorem sc_same {P : Program} {w : World} {J : It} {n : Nat} {G : Hp → Prop} {xs : List V} {g : TG} {tt : TT} {te : TE} {vs : List Nat} {σ : L2.St} {H1 B : Hp} {D : Addr} {Qd : Hp → Prop}
    (wk : Walk J n G (YAt xs)) (hn : n = xs.length) (s0 : Same B H1) (hD : H1 D = none) (hG : ∀ H, Same B H → G H) (hl : xs.length + 1 < scanBound) (f : V → Key) (nd : (xs.map f).Nodup)
    (hs : ∀ x H (Q1 : VK) (Q2 : Hp → Prop), x ∈ xs → Same B H → (∀ H4, Same H H4 → Q1 (kV (f x)) H4) →
      g x (wipe σ vs) H fun σ2 H2 => wipe σ2 vs = wipe σ vs ∧ tt σ2 H2 fun b H3 => if b = true then te σ2 H3 Q1 else Q2 H3)
    (hd : ∀ H' S, Same H1 H' → H' D = some (SetK P w D S xs.length) → Qd H') :
    ∃ W : Nat → Nat → Hp → Prop, (∃ m, W 0 m (upd H1 D (SetK P w D (fun _ => false) 0))) ∧ ∀ i m H, W i m H →
      (J.stop i H ∧ Qd H) ∨ (J.go i H ∧ ∃ Nx : Hp → Prop, (∀ H', Nx H' → ∃ m', m' < m ∧ W (i + 1) m' H') ∧ ∀ x H', J.yld i H x H' → g x (wipe σ vs) H' fun σ2 H2 => wipe σ2 vs = wipe σ vs ∧ tt σ2 H2 fun b H3 =>
        if b = true then te σ2 H3 (ScTurn P w D Nx) else Nx H3) := by
  subst hn
  have main : ∀ i, i ≤ xs.length → ∀ H, (Same H1 H ∧ ∃ S : Key → Bool, H D = some (SetK P w D S i) ∧ ∀ k, S k = true → k ∈ (xs.take i).map f) → True := fun _ _ _ _ => trivial
  refine ⟨fun i m H => m = xs.length - i ∧ i ≤ xs.length ∧ Same H1 H ∧ ∃ S : Key → Bool, H D = some (SetK P w D S i) ∧ ∀ k, S k = true → k ∈ (xs.take i).map f, ⟨_, rfl, Nat.zero_le _, same_new hD, _, upd_same, fun k z => by cases z⟩, ?_⟩
  rintro i m H ⟨rfl, hi, s1, S, hS, hk⟩
  by_cases hlt : i < xs.length
  · refine .inr ⟨wk.goes i H hlt (hG H (s0.trans s1)), fun H' => Same H1 H' ∧ ∃ S : Key → Bool, H' D = some (SetK P w D S (i + 1)) ∧ ∀ k, S k = true → k ∈ (xs.take (i + 1)).map f, fun H' p => ⟨xs.length - (i + 1), by omega, rfl, hlt, p⟩, fun x H' y => ?_⟩
    obtain ⟨rfl, hx⟩ := wk.yields i H x H' hlt (hG H (s0.trans s1)) y
    have ht : xs.take (i + 1) = xs.take i ++ [x] := by rw [List.take_succ, hx]; rfl
    refine hs x H' _ _ (List.mem_of_getElem? hx) (s0.trans s1) fun H4 s4 => ?_
    have new : S (f x) = false := by
      cases e : S (f x) with
      | false => rfl
      | true =>
        have h1 := hk _ e
        have h2 : ((xs.take (i + 1)).map f).Nodup := by
          rw [List.map_take]; exact List.Sublist.nodup (List.take_sublist _ _) nd
        rw [ht, List.map_append, List.nodup_append] at h2
        exact absurd rfl (h2.2.2 _ h1 (f x) (by simp))
    refine ⟨f x, S, i, rfl, s4 _ _ hS, by omega, same_mut (s1.trans s4) hD, _, by rw [upd_same, new]; rfl, fun k z => ?_⟩
    rw [ht, List.map_append, List.mem_append]
    rw [Bool.or_eq_true] at z
    rcases z with z | z
    · exact .inl (hk k z)
    · exact .inr (by rw [of_decide_eq_true z]; simp)
  · have e : i = xs.length := by omega
    subst e
    exact .inl ⟨wk.stops H (hG H (s0.trans s1)), hd H S s1 hS⟩
end As
namespace As
open PySem PySem.Spec PyProof.Rows L2
/-! the same rules where the context is a comprehension's: the text's part is named -/
section
variable {X : Cx} (K : PySem.W.Frag)
theorem inK (h : X.K = K := by rfl) : OpR X (compareOp .In) (rIn K false) := h ▸ op_in_seq
theorem notInK (h : X.K = K := by rfl) : OpR X (compareOp .NotIn) (rIn K true) := h ▸ op_notIn_seq
theorem ixL (h : X.K = K := by rfl) : IxR X (rIxL K) := h ▸ ix_list
theorem ixT (h : X.K = K := by rfl) : IxR X (rIxT K) := h ▸ ix_tup
theorem slL (h : X.K = K := by rfl) : SlR X (rSlL K) := h ▸ sl_list
theorem pgT {es : List Expr} {k n : Nat} {t : TGs} {pos : Pos} (hk : PG X (.Tuple es k pos) (gTup X.K n t)) (h : X.K = K := by rfl) : PG X (.Tuple es k pos) (gTup K n t) := h ▸ hk
end
end As

/-! ## A4 -/
namespace As
open PySem PySem.Spec PyProof.Rows L2
section
variable {X : Cx} (K : PySem.W.Frag)
theorem fldK {e : Expr} {f : Str} {ta : TE} {pos : Pos} (he : PE X e ta) (hb : attributeBase e f X.env (eval e X.env) = eval e X.env := by rfl) (h : X.K = K := by rfl) : PE X (.Attribute e f pos) (tFld K ta f) := h ▸ pe_fld he hb
theorem tupK {p pos : Pos} {a : Expr} {ta : TE} (ha : PE X a ta) (hg : Gl X "tuple" := by rfl) (hm : X.mg "tuple" = none := by assumption) (h : X.K = K := by rfl) (na : starEach [a] X.env = (false, eval a X.env) :: starEach [] X.env := by rfl) :
    PE X (.Call (.Name "tuple" p) [a] [] pos) (tThen ta (kTup K)) := h ▸ pe_tupleOf hg hm ha na
theorem piL {tg l : Expr} {tl : TE} (hl : PE X l tl) (h : X.K = K := by rfl) : PI X tg l (iList K tl) := h ▸ pi_list hl
theorem piT {tg l : Expr} {tl : TE} (hl : PE X l tl) (h : X.K = K := by rfl) : PI X tg l (iTup K tl) := h ▸ pi_tup hl
end
theorem putK_new {κ : Type} [DecidableEq κ] {kvs : List (κ × V)} {k : κ} {v : V} (h : k ∉ kvs.map (·.1)) : putK kvs k v = kvs ++ [(k, v)] := by
  unfold putK
  rw [if_neg]
  intro z
  rw [List.any_eq_true] at z
  obtain ⟨kv, hm, e⟩ := z
  exact h (List.mem_map.mpr ⟨kv, hm, of_decide_eq_true e⟩)
theorem paired_keys {α : Type} {R : α → V → Prop} {f : α → Key} : ∀ {xs : List α} {kvs : List (Key × V)}, Paired (fun x kv => kv.1 = f x ∧ R x kv.2) xs kvs → kvs.map (·.1) = xs.map f
  | _, _, .nil => rfl
  | _, _, .cons h t => by rw [List.map_cons, List.map_cons, h.1, paired_keys t]
theorem paired_len {α β : Type} {R : α → β → Prop} : ∀ {xs : List α} {ys : List β}, Paired R xs ys → xs.length = ys.length
  | _, _, .nil => rfl
  | _, _, .cons _ t => by rw [List.length_cons, List.length_cons, paired_len t]
theorem paired_imp {α β : Type} {R S : α → β → Prop} (h : ∀ a b, R a b → S a b) : ∀ {xs : List α} {ys : List β}, Paired R xs ys → Paired S xs ys
  | _, _, .nil => .nil
  | _, _, .cons r t => .cons (h _ _ r) (paired_imp h t)
/-- tuples stand -/
def Imm (H H' : Hp) : Prop := ∀ b xs, H b = some (.tup xs) → H' b = some (.tup xs)
theorem same_imm {H H' : Hp} (e : Same H H') : Imm H H' := fun _ _ h => e _ _ h
theorem imm_dict {H : Hp} {D : Addr} {kvs : List (Key × V)} {o : HO} (h : H D = some (.dK kvs)) : Imm H (upd H D o) := fun b xs e => by
  rw [upd_ne (fun z => by subst z; rw [h] at e; cases e)]; exact e

/-- a dict comprehension whose keys are distinct; R tells of each value -/
theorem dc_same {J : It} {n : Nat} {G : Hp → Prop} {xs : List V} {g : TG} {tt : TT} {tk tv : TE} {vs : List Nat} {σ : L2.St} {H1 B : Hp} {D : Addr} {Qd : Hp → Prop}
    (wk : Walk J n G (YAt xs)) (hn : n = xs.length) (s0 : Same B H1) (hD : H1 D = none) (hG : ∀ H, Same B H → G H) (hl : xs.length < sizeLine) (f : V → Key) (nd : (xs.map f).Nodup)
    (R : V → V → Hp → Prop) (mono : ∀ x v H H', Imm H H' → R x v H → R x v H')
    (hs : ∀ x H (Q1 : V → V → Hp → Prop) (Q2 : Hp → Prop), x ∈ xs → Same B H → (∀ v H5, Same H H5 → R x v H5 → Q1 (kV (f x)) v H5) →
      g x (wipe σ vs) H fun σ2 H2 => wipe σ2 vs = wipe σ vs ∧ tt σ2 H2 fun b H3 => if b = true then tk σ2 H3 (fun y H4 => tv σ2 H4 fun z H5 => Q1 y z H5) else Q2 H3)
    (hd : ∀ H' kvs, Same H1 H' → H' D = some (.dK kvs) → Paired (fun x kv => kv.1 = f x ∧ R x kv.2 H') xs kvs → Qd H') :
    ∃ W : Nat → Nat → Hp → Prop, (∃ m, W 0 m (upd H1 D (.dK []))) ∧ ∀ i m H, W i m H →
      (J.stop i H ∧ Qd H) ∨ (J.go i H ∧ ∃ Nx : Hp → Prop, (∀ H', Nx H' → ∃ m', m' < m ∧ W (i + 1) m' H') ∧ ∀ x H', J.yld i H x H' → g x (wipe σ vs) H' fun σ2 H2 => wipe σ2 vs = wipe σ vs ∧ tt σ2 H2 fun b H3 =>
        if b = true then tk σ2 H3 fun y H4 => tv σ2 H4 fun z H5 => ∃ kvs k, y = kV k ∧ H5 D = some (.dK kvs) ∧ kvs.length < sizeLine ∧ Nx (upd H5 D (.dK (putK kvs k z))) else Nx H3) := by
  subst hn
  refine ⟨fun i m H => m = xs.length - i ∧ i ≤ xs.length ∧ Same H1 H ∧ ∃ kvs, H D = some (.dK kvs) ∧ Paired (fun x (kv : Key × V) => kv.1 = f x ∧ R x kv.2 H) (xs.take i) kvs, ⟨_, rfl, Nat.zero_le _, same_new hD, [], upd_same, .nil⟩, ?_⟩
  rintro i m H ⟨rfl, hi, s1, kvs, hS, hk⟩
  by_cases hlt : i < xs.length
  · refine .inr ⟨wk.goes i H hlt (hG H (s0.trans s1)), fun H' => Same H1 H' ∧ ∃ kvs, H' D = some (.dK kvs) ∧ Paired (fun x (kv : Key × V) => kv.1 = f x ∧ R x kv.2 H') (xs.take (i + 1)) kvs, fun H' p => ⟨xs.length - (i + 1), by omega, rfl, hlt, p⟩, fun x H' y => ?_⟩
    obtain ⟨rfl, hx⟩ := wk.yields i H x H' hlt (hG H (s0.trans s1)) y
    have ht : xs.take (i + 1) = xs.take i ++ [x] := by rw [List.take_succ, hx]; rfl
    refine hs x H' _ _ (List.mem_of_getElem? hx) (s0.trans s1) fun v H5 s5 r5 => ?_
    have h5 := s5 _ _ hS
    have keys := paired_keys (R := fun x v => R x v H') (f := f) hk
    have new : f x ∉ kvs.map (·.1) := by
      rw [keys]
      intro h1
      have h2 : ((xs.take (i + 1)).map f).Nodup := by
        rw [List.map_take]; exact List.Sublist.nodup (List.take_sublist _ _) nd
      rw [ht, List.map_append, List.nodup_append] at h2
      exact absurd rfl (h2.2.2 _ h1 (f x) (by simp))
    have len := paired_len hk
    refine ⟨kvs, f x, rfl, h5, ?_, same_mut (s1.trans s5) hD, _, upd_same, ?_⟩
    · rw [← len]; have := List.length_take_le i xs; omega
    · rw [putK_new new, ht]
      have im : Imm H5 (upd H5 D (.dK (kvs ++ [(f x, v)]))) := imm_dict h5
      exact (paired_imp (fun a b r => ⟨r.1, mono _ _ _ _ im (mono _ _ _ _ (same_imm s5) r.2)⟩) hk).snoc ⟨rfl, mono _ _ _ _ im r5⟩
  · have e : i = xs.length := by omega
    subst e
    rw [List.take_length] at hk
    exact .inl ⟨wk.stops H (hG H (s0.trans s1)), hd H kvs s1 hS hk⟩
end As

/-! ## A5 -/
set_option maxHeartbeats 2000000
namespace As
open PySem PySem.Spec PyProof.Rows L2
section
variable {X : Cx} {CX : CXT} {C f n : Nat} {fd : FuncData} {ps : List Str} {sp : Sp}
/-- a promise kept at a call from within a built-in -/
theorem call_in {A : Around} {pins : List (Addr × Obj)} {σ : L2.St} {H : Hp} {s : Shared} {Q : VK} {E : XK} {us : List Value} {vs : List V} (F : FnOk X.prog X.w X.K X.mg X.base CX n f fd ps sp) (sb : L2.Sub X n A) (hb : Binds X.K fd ps []) (hx : Passes CX X E)
    (I : Inv X pins σ H s) (r : Vals vs us) (h : sp vs H Q E) : wpAny (model X.prog X.w) A (call (.ref f) us) (EP X pins σ Q) X.xe s := by
  have len : us.length = ps.length := by rw [← r.length]; exact F.len _ _ _ _ h
  have e0 : Env0 X.prog X.w X.K X.mg X.base A X.stack s H := by
    obtain ⟨x1, x2, x3, x4, x5, x6, x7, x8⟩ := I.env0
    exact ⟨by rw [sb.fr]; exact x1, x2, x3, x4, x5, x6, x7, x8⟩
  have bt := hb s us I.kIn (by simpa using len)
  rw [List.append_nil] at bt
  refine wpAny_call (codeAny_mono (F.run A X.stack s H ⟨us, []⟩ us vs Q E sb.room e0 bt r h) fun r s' hq => ?_)
  rcases r with e | fl
  · exact hx pins σ H s e s' I hq
  · cases fl with
    | ret u => exact I.after hq
    | next => exact False.elim hq
    | brk => exact False.elim hq
    | cont => exact False.elim hq
end
/-- the class at C compares by its own == at f, and leaves != to object -/
structure EqC (K : PySem.W.Frag) (C f : Addr) : Prop where
  eq : PySem.W.findIn K (.ref C) "__eq__" = some (some (.ref f))
  fn : PySem.W.isFn K (.ref f) = true
  ne : PySem.W.findIn K (.ref C) "__ne__" = some (some (.builtin "object.__ne__"))
  top : PySem.W.mroIn K C (.type "object") = some true
  lst : PySem.W.notFirst K C (.type "list") = true
/-- an own instance against another of the class, or against a list -/
def rOwn (C : Addr) (sp : Sp) (g : Bool → Bool) : R2 := fun x y H Q => ∃ (a b dx : Addr) (fs : List (Str × V)), x = .ref a ∧ y = .ref b ∧ H a = some (.ins C dx fs) ∧ ((∃ dy gs, H b = some (.ins C dy gs)) ∨ ∃ zs, H b = some (.lst zs)) ∧
  sp [.ref a, .ref b] H (fun v H' => ∃ r, v = .bl r ∧ Q (.bl (g r)) H') E0
section
variable {X : Cx} {C f n : Nat} {fd : FuncData} {ps : List Str} {sp : Sp}
theorem looks_kind {M : Model} {pins : List (Addr × Obj)} {σ : L2.St} {H : Hp} {s : Shared} {b : Addr} (q : EqC X.K C f) (I : Inv X pins σ H s) (h : (∃ dy gs, H b = some (.ins C dy gs)) ∨ ∃ zs, H b = some (.lst zs)) :
    ∃ tb, PySem.W.Looks M s.heap (typeOf (.ref b)) tb ∧ PySem.W.notFirst X.K C tb = true := by
  rcases h with ⟨dy, gs, hb⟩ | ⟨zs, hb⟩
  · obtain ⟨mB, J, _⟩ := ins_get I.hok hb
    obtain ⟨od, J, _⟩ := J.look
    exact ⟨.ref C, J.type, by simp [PySem.W.notFirst]⟩
  · obtain ⟨_, _, k, _, e⟩ := I.hok b _ hb
    exact ⟨.type "list", (PySem.W.Looks.ld e).andThen .now, q.lst⟩
theorem op_eqOwn (F : FnOk X.prog X.w X.K X.mg X.base CX0 n f fd ps sp) (hr : Room n X.A) (hb : Binds X.K fd ps []) (q : EqC X.K C f) : OpR X (compareOp .Eq) (rOwn C sp id) := by
  intro pins s σ H x y v u Q I rx ry h
  obtain ⟨a, b, dx, fs, rfl, rfl, ha, hk, hs⟩ := h
  cases rx
  cases ry
  obtain ⟨mA, J, _⟩ := ins_get I.hok ha
  obtain ⟨od, J, _⟩ := J.look
  obtain ⟨tb, lk, nf⟩ := looks_kind q I hk
  obtain ⟨m, hF⟩ := I.fr
  have r2 : Vals [V.ref a, V.ref b] [Value.ref a, Value.ref b] := .cons rfl (.cons rfl .nil)
  refine PySem.W.cmp_K (op := .Eq) (Nat.lt_of_le_of_lt (Nat.le_add_right _ _) (hu_of hr)) hF I.ok.mod.kin J lk nf q.eq q.fn (thn (call_in F ⟨hr, rfl⟩ hb pass0 I r2 hs) fun w s' z => ?_)
  obtain ⟨v, H', I', rv, r, rfl, qr⟩ := z
  cases rv
  exact ⟨.bl r, H', I', rfl, qr⟩
theorem ne_bind (self : Value) : bindSpecial (.builtin "object.__ne__") self = pure (.builtin "object.__ne__", [self]) := PySem.F.cmp_object.ne.bind self
theorem op_neOwn (F : FnOk X.prog X.w X.K X.mg X.base CX0 n f fd ps sp) (hr : Room (n + 1) X.A) (hb : Binds X.K fd ps []) (q : EqC X.K C f) : OpR X (compareOp .NotEq) (rOwn C sp not) := by
  intro pins s σ H x y v u Q I rx ry h
  obtain ⟨a, b, dx, fs, rfl, rfl, ha, hk, hs⟩ := h
  cases rx
  cases ry
  obtain ⟨mA, J, _⟩ := ins_get I.hok ha
  obtain ⟨od, J, _⟩ := J.look
  obtain ⟨tb, lk, nf⟩ := looks_kind (M := model X.prog X.w) q I hk
  have hu : X.A.units + 1 < cLine := hu_of hr
  have hu0 : X.A.units < cLine := Nat.lt_of_succ_lt hu
  have KI := I.kIn
  have r2 : Vals [V.ref a, V.ref b] [Value.ref a, Value.ref b] := .cons rfl (.cons rfl .nil)
  -- the built-in's call
  have run : wpAny (model X.prog X.w) X.A (call (.builtin "object.__ne__") [.ref a, .ref b]) (fun v s' => ∃ r : Bool, v = .bool r ∧ EP X pins σ Q (.bool r) s') X.xe s := by
    have sub : PySem.W.Looks (model X.prog X.w) s.heap (isInstance (.ref a) (.type "object")) true := J.type.andThen (PySem.W.looks_mroIn KI q.top)
    refine wpAny_call (codeAny_call_builtin PySem.F.cmp_object.ne.plain PySem.F.cmpEntry_ne (PySem.W.check_slot PySem.F.cmpKind_ne PySem.F.cmpSplit_ne sub (PySem.F.cmpArgs_ne _ _) ?_))
    have inner : wpAny (model X.prog X.w) X.A.in1 (callSpecialIfBound? (.ref a) "__eq__" [.ref b]) (fun o s' => ∃ r : Bool, o = some (.bool r) ∧ EP X pins σ Q (.bool (!r)) s') X.xe s :=
      PySem.W.ifBound_K KI J q.eq q.fn (thn (call_in F ⟨hr.in1, rfl⟩ hb pass0 I r2 hs) fun w s' z => by
        obtain ⟨v, H', I', rv, r, rfl, qr⟩ := z
        cases rv
        exact ⟨r, rfl, .bl (!r), H', I', rfl, qr⟩)
    unfold Builtin.«object.__ne__»
    repeat (first | with_reducible refine wpAny_cRoomFor hu ?_ | (refine wpAny_bind (wpAny_mono inner (fun o s' z => ?_) fun _ _ e => e)) | wp_step)
    obtain ⟨r, rfl, ep⟩ := z
    refine wpAny_bind (wpAny_truthy_bool (wpAny_pure ?_))
    exact ⟨!r, rfl, ep⟩
  have one : wpAny (model X.prog X.w) X.A (tryCompare (.ref a) "__ne__" (.ref b)) (fun r s' => ∃ b, r = some (.bool b) ∧ EP X pins σ Q (.bool b) s') X.xe s := by
    simp only [tryCompare, callSpecialIfBound?, bindSpecialIfBound?]
    refine wpAny_bind (wpAny_holding (wpAny_bind (wpAny_bind (wpAny_bind (J.type.here ((PySem.W.looks_findIn KI q.ne).here ?_))))))
    refine wpAny_bind (wpAny_askSetting (wpAny_ite ?_))
    have fin : wpAny (model X.prog X.w) X.A (call (.builtin "object.__ne__") ([.ref a] ++ [.ref b]) >>= fun v => pure (some v)) (fun o s' => ∃ r : Bool, o = some (.bool r) ∧ EP X pins σ Q (.bool r) s') X.xe s :=
      wpAny_bind (wpAny_mono run (fun v s' z => wpAny_pure (by obtain ⟨r, rfl, ep⟩ := z; exact ⟨r, rfl, ep⟩)) fun _ _ e => e)
    have fin2 : wpAny (model X.prog X.w) X.A (call (.builtin "object.__ne__") ([.ref a] ++ [.ref b]) >>= fun v => pure (some v))
        (fun o s' => wpAny (model X.prog X.w) X.A (match o with | some .notImplemented => pure none | none => pure none | some v => pure (some v)) (fun r s' => ∃ b, r = some (.bool b) ∧ EP X pins σ Q (.bool b) s') X.xe s') X.xe s :=
      wpAny_mono fin (fun o s' z => by obtain ⟨r, rfl, ep⟩ := z; exact wpAny_pure ⟨r, rfl, ep⟩) fun _ _ e => e
    split
    · refine wpAny_bind ?_
      rw [ne_bind]
      exact wpAny_pure (wpAny_pure fin2)
    · refine wpAny_tryCatch (wpAny_bind ?_)
      rw [ne_bind]
      exact wpAny_pure (wpAny_pure fin2)
  show wpAny _ _ (richCompare .NotEq (.ref a) (.ref b)) _ _ _
  unfold richCompare
  simp only [PySem.oneThing_ref, PySem.cmpInfo_NotEq]
  refine wpAny_holding (wpAny_bind (wpAny_cRoomFor hu0 ?_))
  refine wpAny_bind (J.type.here (wpAny_bind (lk.here ?_)))
  have tail : wpAny (model X.prog X.w) X.A (tryCompare (.ref a) "__ne__" (.ref b)) (fun r s' => ∃ v, r = some v ∧ EP X pins σ Q v s') X.xe s := wpAny_mono one (fun o s' z => by obtain ⟨r, rfl, ep⟩ := z; exact ⟨_, rfl, ep⟩) fun _ _ e => e
  split
  · rename_i ne
    have no : PySem.W.subIn X.K tb (.ref C) = some false := by
      unfold PySem.W.notFirst at nf
      rw [Bool.or_eq_true] at nf
      rcases nf with e | e
      · rw [eq_of_beq e] at ne
        simp at ne
      · exact eq_of_beq e
    refine wpAny_bind ((PySem.W.looks_subIn KI no).here ?_)
    rw [if_neg (by decide)]
    exact wpAny_bind (wpAny_mono tail (fun o s' z => by obtain ⟨v, rfl, ep⟩ := z; exact wpAny_pure ep) fun _ _ e => e)
  · refine wpAny_bind (wpAny_pure ?_)
    rw [if_neg (by decide)]
    exact wpAny_bind (wpAny_mono tail (fun o s' z => by obtain ⟨v, rfl, ep⟩ := z; exact wpAny_pure ep) fun _ _ e => e)
end
end As

/-! ## A8 -/
namespace As
open PySem PySem.Spec PyProof.Rows L2
/-- o.m(k = e, ..): the object, then the keywords' values -/
def tMethN (C : Addr) (m : Str) (j : Nat) (sp : Sp) (gV : List V → List V → List V) (ta : TE) (tk : TA) : TE := fun σ H Q => ta σ H fun x H1 => ∃ a dx fs, x = .ref a ∧ H1 a = some (.ins C dx fs) ∧ fs.lookup m = none ∧ tk σ H1 fun zs H2 => zs.length = j ∧ sp (gV [x] zs) H2 Q E0
section
variable {X : Cx} {k : Nat} {C f : Addr} {fd : FuncData} {ps ks : List Str} {sp : Sp} {m : Str} {pos apos : Pos} {o : Expr} {kws : List Keyword} {ta : TE} {tk : TA} {g : List Value → List Value → List Value} {gV : List V → List V → List V}
theorem pe_methN {pl : Sem Bool} (he : PE X o ta) (c : Cls X.K C) (hm : Meth X.K C m f) (F : FnOk X.prog X.w X.K X.mg X.base CX0 k f fd ps sp) (hr : Room k X.A) (hb : KBn X.K fd ps 1 ks g gV) (hkw : PK X kws tk)
    (hall : (backToKw pos (keywordEach kws X.env)).all (·.1.isSome) = true := by rfl) (hks : (backToKw pos (keywordEach kws X.env)).filterMap (·.1) = ks := by rfl)
    (hpl : ((backTo pos (starEach [] X.env)).any (·.1) || (backToKw pos (keywordEach kws X.env)).any (·.1.isNone)) = false := by rfl)
    (ht : eval (.Call (.Attribute o m apos) [] kws pos) X.env = (eval o X.env >>= fun ov => standAt apos.atName >>= fun _ => holding [ov] (getMethod ov m pl) >>= fun p => callWith pos p.1 p.2 (backTo pos (starEach [] X.env)) (backToKw pos (keywordEach kws X.env))) := by rfl) :
    PE X (.Call (.Attribute o m apos) [] kws pos) (tMethN C m ks.length sp gV ta tk) := by
  refine ⟨fun pins s σ H Q I h => ?_⟩
  refine PySem.W.methodCall_KW (pl := pl) (thn (he.run pins s σ H _ I h) fun u s1 ⟨x, H1, I1, rx, a, dx, fs, ex, ea, l, q⟩ => ?_) ht
  subst ex
  cases rx
  refine getmeth_ok I1 ea c hm l (PySem.W.callWith_KW0 (first := [.ref a]) (h₀ := X.base) I.ok.mod.kin hm.kp hall ?_ hpl)
  refine thn (hkw.run pos pins s1 σ H1 _ I1 q) fun ws s2 ⟨zs, H2, I2, rz, lz, q2⟩ => ⟨I2.kIn, ?_⟩
  rw [hks]
  exact run_fnN (us := [.ref a]) (vs := [.ref a]) F hr hb pass0 I2 (.cons rfl .nil) rz rfl lz q2
end
/-- a def of two parameters, its second given by name -/
theorem bn_two {K : PySem.W.Frag} {x qual p1 p2 : Str} {st : Stmt} {f : Addr} {fd : FuncData} (F : Fun K x qual st f fd)
    (h : ∀ (kV doc pm : Value) (an : Option Addr) (cdv ct u v : Value), bindArgs (PySem.W.fnOf x qual (defArgs st) (defBody st) (defScope st) .none kV doc pm an cdv ct) ⟨[u], [(p2, v)]⟩ = pure [(p1, u), (p2, v)]) :
    KBn K fd [p1, p2] 1 [p2] (fun us ws => us ++ ws) (fun vs zs => vs ++ zs) := by
  obtain ⟨oc, od, kV, doc, pm, an, cdv, ct, osl, rfl, lk, hcd⟩ := F.ex
  refine ⟨fun s us ws _ h1 h2 => ?_, fun r z => r.append z⟩
  match us, ws, h1, h2 with
  | [u], [v], _, _ => exact .of_eq (h kV doc pm an cdv ct u v)
theorem lenK {X : Cx} (K : PySem.W.Frag) (h : X.K = K := by rfl) : CallR X (.builtin "len") (fun xs H Q => ∃ p ys, xs = [.ref p] ∧ (SqL K H p ys ∨ SqT K H p ys) ∧ Q (.int ys.length) H) := h ▸ call_len_seq
end As

/-! ## H02 -/
namespace As
open PySem PySem.Spec PyProof.Rows L2
def top (i : Nat) : Stmt := PySem.Challenge.pw_asksold_k02_what_plans_return.main.body.getD i (.Pass ⟨0, 0, 0, 0⟩)
-- class AskError at 2
-- class BadPlan at 3
abbrev s_is_number : Stmt := top 8
abbrev s_is_name : Stmt := top 9
abbrev s_is_list : Stmt := top 10
abbrev s_is_pair : Stmt := top 11
abbrev s_is_column : Stmt := top 12
abbrev s_is_table : Stmt := top 13
abbrev s_have_distinct_names : Stmt := top 14
abbrev s_are_columns : Stmt := top 15
abbrev s_are_tables : Stmt := top 16
abbrev s_init : Stmt := inClass (top 17) 2
abbrev s_columns : Stmt := inClass (top 17) 3
abbrev s_tables : Stmt := inClass (top 17) 4
abbrev s_eq : Stmt := inClass (top 17) 5
abbrev s_size_of : Stmt := inClass (top 17) 6
abbrev s_sides : Stmt := inClass (top 17) 7
abbrev s_columns_of : Stmt := inClass (top 17) 8
abbrev s_spans : Stmt := inClass (top 17) 9
abbrev s_table_names : Stmt := inClass (top 17) 10
abbrev s_state : Stmt := top 19
abbrev s_draw : Stmt := top 20
abbrev s_pick : Stmt := top 21
abbrev s_mixed : Stmt := top 22
abbrev s_names : Stmt := top 23
abbrev s_lcolumns : Stmt := top 24
abbrev s_ltables : Stmt := top 25
abbrev s_kept : Stmt := top 26
abbrev s_none_right : Stmt := top 27
abbrev s_law : Stmt := top 28
end As

/-! ## B1 -/
namespace As
open PySem PySem.Spec PyProof.Rows L2
section
variable {P : Program} {w : World} {K : PySem.W.Frag} {mg : Str → Option Value} {base : Heap}

def spNumber (K : PySem.W.Frag) : Sp := fun vs H Q _ => ∃ x t b1 b2, vs = [x] ∧ TyX K H x t ∧ PySem.W.kitOne K t (.type "int") = some b1 ∧ PySem.W.kitOne K t (.type "bool") = some b2 ∧ Q (.bl (b1 && !b2)) H
theorem sc_number : FnScope ["thing"] ["thing"] (defScope s_is_number) := ⟨rfl, rfl, rfl, by decide +kernel, rfl, by decide +kernel, by decide +kernel⟩
theorem ok_number {f : Addr} {fd : FuncData} (D : Df K mg "is_number" s_is_number ["thing"] f fd) (T : Bi mg) : FnOk P w K mg base CX0 1 f fd ["thing"] (spNumber K) := by
  refine D.F.ok sc_number (fun vs H Q E h => ?_) (fun cdv A outer s H vs Q E hr h => ?_)
  · obtain ⟨x, t, b1, b2, rfl, _⟩ := h; rfl
  · obtain ⟨x, t, b1, b2, rfl, ty, k1, k2, q⟩ := h
    refine ⟨_, pss_one (ps_ret (pe_and (pe_callB call_isi (by rfl) T.isinst (by decide +kernel) (pa_cons (pv 0) (pa_cons (pe_bltn (v := .ty "int") (by rfl) T.int (by decide +kernel) rfl) pa_nil)))
      (pe_one (pe_not (pe_callB call_isi (by rfl) T.isinst (by decide +kernel) (pa_cons (pv 0) (pa_cons (pe_bltn (v := .ty "bool") (by rfl) T.bool (by decide +kernel) rfl) pa_nil))))))), ?_⟩
    refine ⟨_, rfl, x, .ty "int", t, _, b1, rfl, .ty "int", ty, k1, b1, rfl, ?_⟩
    cases b1 with
    | false => exact iteF q
    | true => exact iteT ⟨_, rfl, x, .ty "bool", t, _, b2, rfl, .ty "bool", ty, k2, b2, rfl, q⟩
end
end As

/-! ## B2 -/
namespace As
open PySem PySem.Spec PyProof.Rows L2
section
variable {P : Program} {w : World} {K : PySem.W.Frag} {mg : Str → Option Value} {base : Heap}

def spName (K : PySem.W.Frag) : Sp := fun vs H Q _ => ∃ z, vs = [.str z] ∧ z.length ≤ sizeLine ∧ ∀ H', Same H H' → Q (.bl (nameB z)) H'
theorem sc_name : FnScope ["thing", "letter"] ["thing"] (defScope s_is_name) := ⟨rfl, rfl, rfl, by decide +kernel, rfl, by decide +kernel, by decide +kernel⟩
theorem ok_name {f : Addr} {fd : FuncData} (D : Df K mg "is_name" s_is_name ["thing"] f fd) (T : Bi mg) {t8 : Tok} (m8 : mg "MOST_LETTERS" = some (.int 8 t8)) : FnOk P w K mg base CX0 1 f fd ["thing"] (spName K) := by
  refine D.F.ok sc_name (fun vs H Q E h => ?_) (fun cdv A outer s H vs Q E hr h => ?_)
  · obtain ⟨z, rfl, _⟩ := h; rfl
  · obtain ⟨z, rfl, hz, q⟩ := h
    refine ⟨_, pss_cons (ps_if (PW.pt (pw_or (pt_not (pt_val (pe_callB call_isi (by rfl) T.isinst (by decide +kernel) (pa_cons (pv 0) (pa_cons (pe_bltn (v := .ty "str") (by rfl) T.str (by decide +kernel) rfl) pa_nil)))))
        (pw_or1 (pt_not (pt_chain op_le op_le pe_int (pe_callB call_len_str (by rfl) T.len PySem.boot_len (pa_cons (pv 0) pa_nil)) (pe_glob (v := .int 8) rfl m8 ⟨_, rfl⟩)))))) (pss_one (ps_ret pe_bl)) pss_nil)
      (pss_one (ps_ret (pe_callB (cr_all rfl) (by rfl) T.all (by decide +kernel) (pa_cons (pe_lc (own := [("letter", 1)]) (g := gName 1) (tt := tYes) rfl sc_name.nd (pi_str (pv 0)) (blkOk_by (N := ["thing", "letter"]) (sc := defScope s_is_name) (by decide +kernel))
        (fun _ _ _ _ _ => pg_name (i := 1) sc_name.nd rfl (Or.inl rfl)) (fun _ _ _ _ _ => pts_nil) (fun _ _ _ _ _ => pe_chain op_le_str op_le_str pe_str (pv 1) pe_str)) pa_nil)))), ?_⟩
    refine ⟨_, rfl, _, _, _, _, true, rfl, .ty "str", .base (.str z), kstr_str, true, rfl, ?_⟩
    refine iteF ?_
    refine ⟨_, rfl, z, rfl, hz, 1, _, rfl, rfl, _, rfl, ?_⟩
    have sq := @Same.refl H
    by_cases h1 : (1 : Int) ≤ z.length
    · rw [decide_eq_true h1]
      refine iteT ⟨_, _, rfl, rfl, _, rfl, ?_⟩
      by_cases h8 : (z.length : Int) ≤ 8
      · rw [decide_eq_true h8]
        refine iteF ⟨_, rfl, z, rfl, fun D hD => lc_same (B := H) walk_sign signs_length.symm (Same.refl H) hD (fun _ _ => trivial) (by rw [signs_length]; exact Nat.lt_of_le_of_lt (show z.cps.size ≤ 8 by have := @str_len z; omega) (by decide))
          (fun x => match x with | .str y => some (V.bl (y.cps.toList.all letter)) | _ => none) (fun x H2 Q1 Q2 hx s2 k1 k2 => ?_) (fun H' s' hD' => ?_)⟩
        · obtain ⟨c, hc, rfl⟩ := List.mem_map.mp hx
          refine ⟨rfl, ?_⟩
          refine iteT (B := Q2 H2) ?_
          refine ⟨_, rfl, _, _, rfl, rfl, _, rfl, ?_⟩
          have e1 : (!decide ((⟨#[c]⟩ : Str).cps.toList < (Str.ofString "a").cps.toList)) = decide (97 ≤ c) := one_le
          have e2 : (!decide ((Str.ofString "z").cps.toList < (⟨#[c]⟩ : Str).cps.toList)) = decide (c ≤ 122) := one_le
          rw [e1]
          by_cases ha : 97 ≤ c
          · rw [decide_eq_true ha]
            refine iteT ⟨_, _, rfl, rfl, ?_⟩
            rw [e2]
            refine k1 _ _ ?_ (Same.refl _)
            show some (V.bl (letter c && true)) = _
            unfold letter
            rw [decide_eq_true ha]; simp
          · rw [decide_eq_false ha]
            refine iteF (k1 _ _ ?_ (Same.refl _))
            show some (V.bl (letter c && true)) = _
            unfold letter
            rw [decide_eq_false ha]; simp
        · refine ⟨D, z.cps.toList.map letter, rfl, lof ?_, ?_⟩
          · rw [hD']
            congr 2
            unfold signs
            rw [List.filterMap_map, List.map_map, ← filterMap_some]
            congr 1
            funext c
            show some (V.bl (letter c && true)) = _
            rw [Bool.and_true]; rfl
          · rw [all_map]
            have e : nameB z = z.cps.toList.all letter := by
              unfold nameB
              rw [decide_eq_true (by omega)]; rfl
            rw [← e]
            exact q _ s'
      · rw [decide_eq_false h8]
        refine iteT ?_
        have e : nameB z = false := by
          unfold nameB
          rw [decide_eq_false (by omega)]; rfl
        rw [← e]
        exact q _ sq
    · rw [decide_eq_false h1]
      refine iteF ⟨_, rfl, ?_⟩
      refine iteT ?_
      have e : nameB z = false := by
        unfold nameB
        rw [decide_eq_false (by omega)]; rfl
      rw [← e]
      exact q _ sq
end
end As

/-! ## B3 -/
namespace As
open PySem PySem.Spec PyProof.Rows L2
/-- a list or a tuple -/
def Sq (H : Hp) (a : Addr) (xs : List V) : Prop := H a = some (.lst xs) ∨ H a = some (.tup xs)
theorem Sq.same {H H' : Hp} {a : Addr} {xs : List V} (h : Sq H a xs) (e : Same H H') : Sq H' a xs := h.elim (fun h => .inl (e _ _ h)) fun h => .inr (e _ _ h)
theorem Sq.or {K : PySem.W.Frag} {H : Hp} {a : Addr} {xs : List V} (h : Sq H a xs) : SqL K H a xs ∨ SqT K H a xs := h.elim (fun h => .inl (lof h)) fun h => .inr (tof h)
theorem kany1 {K : PySem.W.Frag} : PySem.W.kitAny K (.type "list") [.type "list", .type "tuple"] = some true := kitAny_cons klist_list (fun z => nomatch z) fun _ => rfl
theorem kany2 {K : PySem.W.Frag} : PySem.W.kitAny K (.type "tuple") [.type "list", .type "tuple"] = some true := kitAny_cons ktup_list (fun _ => kitAny_cons ktup_tup (fun z => nomatch z) fun _ => rfl) fun z => nomatch z

theorem bl_true {p : Prop} [Decidable p] (h : p) : V.bl (decide p) = V.bl true := by rw [decide_eq_true h]
abbrev CRow := Addr × Str × Int
def cv (r : CRow) : V := .ref r.1
structure ColsOk (H : Hp) (rs : List CRow) : Prop where
  row : ∀ r ∈ rs, H r.1 = some (.tup [.str r.2.1, .int r.2.2])
  len : 1 ≤ rs.length ∧ rs.length ≤ 6
  nm : ∀ r ∈ rs, nameB r.2.1 = true
  sz : ∀ r ∈ rs, 1 ≤ r.2.2 ∧ r.2.2 ≤ 6
  nd : (rs.map (·.2.1)).Nodup
abbrev TRow := Addr × Str × Addr × List Str
def tv (r : TRow) : V := .ref r.1
structure TabsOk (H : Hp) (cs : List Str) (rs : List TRow) : Prop where
  row : ∀ r ∈ rs, H r.1 = some (.tup [.str r.2.1, .ref r.2.2.1])
  prt : ∀ r ∈ rs, H r.2.2.1 = some (.tup (r.2.2.2.map V.str))
  len : 1 ≤ rs.length ∧ rs.length ≤ 8
  nm : ∀ r ∈ rs, nameB r.2.1 = true
  two : ∀ r ∈ rs, 1 ≤ r.2.2.2.length ∧ r.2.2.2.length ≤ 2
  own : ∀ r ∈ rs, ∀ x ∈ r.2.2.2, x ∈ cs
  nd : (rs.map (·.2.1)).Nodup
theorem ColsOk.same {H H' : Hp} {rs : List CRow} (h : ColsOk H rs) (e : Same H H') : ColsOk H' rs := ⟨fun r hr => e _ _ (h.row r hr), h.len, h.nm, h.sz, h.nd⟩
theorem TabsOk.same {H H' : Hp} {cs : List Str} {rs : List TRow} (h : TabsOk H cs rs) (e : Same H H') : TabsOk H' cs rs := ⟨fun r hr => e _ _ (h.row r hr), fun r hr => e _ _ (h.prt r hr), h.len, h.nm, h.two, h.own, h.nd⟩
theorem name_len {z : Str} (h : nameB z = true) : 1 ≤ z.length ∧ z.length ≤ 8 := by
  unfold nameB at h
  rw [Bool.and_eq_true] at h
  exact of_decide_eq_true h.1
theorem name_line {z : Str} (h : nameB z = true) : z.length ≤ sizeLine := Nat.le_trans (name_len h).2 (by decide)
theorem inV_str {x : Str} {xs : List Str} : inV (.str x) (xs.map V.str) = decide (x ∈ xs) := by
  unfold inV
  induction xs with
  | nil => rfl
  | cons y r ih =>
    rw [List.map_cons, List.any_cons, ih]
    show ((y == x) || decide (x ∈ r)) = decide (x ∈ y :: r)
    by_cases h : y = x
    · subst h; simp
    · have h' : ¬ x = y := fun e => h e.symm
      rw [(beq_eq_false_iff_ne).mpr h]; simp [h']
theorem flat_strs {xs : List Str} : (xs.map V.str).all flatV = true := by
  rw [List.all_map]; induction xs with
  | nil => rfl
  | cons a r ih => rw [List.all_cons, ih]; rfl

section
variable {P : Program} {w : World} {K : PySem.W.Frag} {mg : Str → Option Value} {base : Heap}

def spList (K : PySem.W.Frag) : Sp := fun vs H Q _ => ∃ a xs, vs = [.ref a] ∧ Sq H a xs ∧ ∀ H', Same H H' → Q (.bl true) H'
theorem sc_list : FnScope ["thing"] ["thing"] (defScope s_is_list) := ⟨rfl, rfl, rfl, by decide +kernel, rfl, by decide +kernel, by decide +kernel⟩
theorem ok_list {f : Addr} {fd : FuncData} (D : Df K mg "is_list" s_is_list ["thing"] f fd) (T : Bi mg) : FnOk P w K mg base CX0 1 f fd ["thing"] (spList K) := by
  refine D.F.ok sc_list (fun vs H Q E h => ?_) (fun cdv A outer s H vs Q E hr h => ?_)
  · obtain ⟨a, xs, rfl, _⟩ := h; rfl
  · obtain ⟨a, xs, rfl, hs, q⟩ := h
    refine ⟨_, pss_one (ps_ret (pe_callB call_isiT (by rfl) T.isinst (by decide +kernel) (pa_cons (pv 0) (pa_cons (pe_tup (pa_cons (pe_bltn (v := .ty "list") (by rfl) T.list (by decide +kernel) rfl)
      (pa_cons (pe_bltn (v := .ty "tuple") (by rfl) T.tuple (by decide +kernel) rfl) pa_nil))) pa_nil)))), ?_⟩
    refine ⟨_, rfl, by show 2 ≤ sizeLine; decide, fun p hp => ?_⟩
    have s1 : Same H (upd H p (.tup [.ty "list", .ty "tuple"])) := same_new hp
    rcases hs with hs | hs
    · exact ⟨_, p, _, .type "list", _, true, rfl, upd_same, .cons (.ty _) (.cons (.ty _) .nil), .base (.lst (s1 _ _ hs)), kany1, q _ s1⟩
    · exact ⟨_, p, _, .type "tuple", _, true, rfl, upd_same, .cons (.ty _) (.cons (.ty _) .nil), .base (.tup (s1 _ _ hs)), kany2, q _ s1⟩

def spPair (K : PySem.W.Frag) : Sp := fun vs H Q _ => ∃ a xs, vs = [.ref a] ∧ H a = some (.tup xs) ∧ Q (.bl (decide (xs.length = 2))) H
theorem sc_pair : FnScope ["thing"] ["thing"] (defScope s_is_pair) := ⟨rfl, rfl, rfl, by decide +kernel, rfl, by decide +kernel, by decide +kernel⟩
theorem ok_pair {f : Addr} {fd : FuncData} (D : Df K mg "is_pair" s_is_pair ["thing"] f fd) (T : Bi mg) : FnOk P w K mg base CX0 1 f fd ["thing"] (spPair K) := by
  refine D.F.ok sc_pair (fun vs H Q E h => ?_) (fun cdv A outer s H vs Q E hr h => ?_)
  · obtain ⟨a, xs, rfl, _⟩ := h; rfl
  · obtain ⟨a, xs, rfl, hs, q⟩ := h
    refine ⟨_, pss_one (ps_ret (pe_and (pe_callB call_isi (by rfl) T.isinst (by decide +kernel) (pa_cons (pv 0) (pa_cons (pe_bltn (v := .ty "tuple") (by rfl) T.tuple (by decide +kernel) rfl) pa_nil)))
      (pe_one (pe_cmpR op_eq (pe_callB call_len_seq (by rfl) T.len PySem.boot_len (pa_cons (pv 0) pa_nil)) pe_int (nomark _))))), ?_⟩
    refine ⟨_, rfl, _, _, _, _, true, rfl, .ty "tuple", .base (.tup hs), ktup_tup, true, rfl, iteT ?_⟩
    refine ⟨_, rfl, a, xs, rfl, .inr (tof hs), rfl, ?_⟩
    have e : decide (V.int (xs.length : Int) = V.int 2) = decide (xs.length = 2) := by
      by_cases h : xs.length = 2
      · rw [h]; rfl
      · rw [decide_eq_false h]; exact decide_eq_false fun z => h (by injection z with z; omega)
    rw [e]
    exact q

def spColumn (K : PySem.W.Frag) : Sp := fun vs H Q _ => ∃ t n m, vs = [.ref t] ∧ H t = some (.tup [.str n, .int m]) ∧ nameB n = true ∧ (1 ≤ m ∧ m ≤ 6) ∧ ∀ H', Same H H' → Q (.bl true) H'
theorem sc_column : FnScope ["thing"] ["thing"] (defScope s_is_column) := ⟨rfl, rfl, rfl, by decide +kernel, rfl, by decide +kernel, by decide +kernel⟩
theorem ok_column {f fn fp fu : Addr} {fd dn dp du : FuncData} (D : Df K mg "is_column" s_is_column ["thing"] f fd) (T : Bi mg) {t6 : Tok} (m6 : mg "MOST_VALUES" = some (.int 6 t6))
    (Dp : Df K mg "is_pair" s_is_pair ["thing"] fp dp) (Gp : FnOk P w K mg base CX0 1 fp dp ["thing"] (spPair K)) (Dn : Df K mg "is_name" s_is_name ["thing"] fn dn) (Gn : FnOk P w K mg base CX0 1 fn dn ["thing"] (spName K))
    (Du : Df K mg "is_number" s_is_number ["thing"] fu du) (Gu : FnOk P w K mg base CX0 1 fu du ["thing"] (spNumber K)) : FnOk P w K mg base CX0 2 f fd ["thing"] (spColumn K) := by
  refine D.F.ok sc_column (fun vs H Q E h => ?_) (fun cdv A outer s H vs Q E hr h => ?_)
  · obtain ⟨t, n, m, rfl, _⟩ := h; rfl
  · obtain ⟨t, n, m, rfl, ht, hn, hm, q⟩ := h
    refine ⟨_, pss_cons (ps_if (PW.pt (pw_or (pt_not (pt_val (pcall Dp Gp hr (pa_cons (pv 0) pa_nil)))) (pw_or1 (pt_not (pt_val (pcall Dn Gn hr (pa_cons (pe_ix ix_tup (pv 0) pe_int (fun _ _ => rfl)) pa_nil)))))))
        (pss_one (ps_ret pe_bl)) pss_nil)
      (pss_one (ps_ret (pe_and (pcall Du Gu hr (pa_cons (pe_ix ix_tup (pv 0) pe_int (fun _ _ => rfl)) pa_nil)) (pe_one (pe_chain op_le op_le pe_int (pe_ix ix_tup (pv 0) pe_int (fun _ _ => rfl)) (pe_glob (v := .int 6) rfl m6 ⟨_, rfl⟩)))))), ?_⟩
    refine ⟨_, rfl, t, _, rfl, ht, true, rfl, iteF ?_⟩
    refine ⟨_, rfl, t, _, 0, .str n, rfl, rfl, tof ht, rfl, n, rfl, name_line hn, fun H1 s1 => ?_⟩
    rw [hn]
    refine ⟨true, rfl, iteF ?_⟩
    have h1 := s1 _ _ ht
    refine ⟨_, rfl, t, _, 1, .int m, rfl, rfl, tof h1, rfl, .int m, .type "int", true, false, rfl, .base (.int m), kint_int, kint_bool, true, rfl, iteT ?_⟩
    refine ⟨_, rfl, t, _, 1, .int m, rfl, rfl, tof h1, rfl, 1, m, rfl, rfl, true, bl_true hm.1, iteT ?_⟩
    refine ⟨m, 6, rfl, rfl, ?_⟩
    show Q (.bl (decide (m ≤ 6))) H1
    rw [decide_eq_true hm.2]
    exact q _ s1

def spTable (K : PySem.W.Frag) : Sp := fun vs H Q _ => ∃ (t : Addr) (n : Str) (p : Addr) (ps : List Str) (c : Addr) (cs : List Str), vs = [.ref t, .ref c] ∧ H t = some (.tup [.str n, .ref p]) ∧ H p = some (.tup (ps.map V.str)) ∧ H c = some (.lst (cs.map V.str)) ∧ nameB n = true ∧
  (1 ≤ ps.length ∧ ps.length ≤ 2) ∧ (∀ x ∈ ps, x ∈ cs) ∧ ∀ H', Same H H' → Q (.bl true) H'
theorem sc_table : FnScope ["thing", "column_names", "names", "name"] ["thing", "column_names"] (defScope s_is_table) := ⟨rfl, rfl, rfl, by decide +kernel, rfl, by decide +kernel, by decide +kernel⟩
theorem ok_table {f fn fp : Addr} {fd dn dp : FuncData} (D : Df K mg "is_table" s_is_table ["thing", "column_names"] f fd) (T : Bi mg) {t2 : Tok} (m2 : mg "MOST_SIDES" = some (.int 2 t2))
    (Dp : Df K mg "is_pair" s_is_pair ["thing"] fp dp) (Gp : FnOk P w K mg base CX0 1 fp dp ["thing"] (spPair K)) (Dn : Df K mg "is_name" s_is_name ["thing"] fn dn) (Gn : FnOk P w K mg base CX0 1 fn dn ["thing"] (spName K)) :
    FnOk P w K mg base CX0 2 f fd ["thing", "column_names"] (spTable K) := by
  refine D.F.ok sc_table (fun vs H Q E h => ?_) (fun cdv A outer s H vs Q E hr h => ?_)
  · obtain ⟨t, n, p, ps, c, cs, rfl, _⟩ := h; rfl
  · obtain ⟨t, n, p, ps, c, cs, rfl, ht, hp, hc, hn, hl, ho, q⟩ := h
    refine ⟨_, pss_cons (ps_if (PW.pt (pw_or (pt_not (pt_val (pcall Dp Gp hr (pa_cons (pv 0) pa_nil)))) (pw_or1 (pt_not (pt_val (pcall Dn Gn hr (pa_cons (pe_ix ix_tup (pv 0) pe_int (fun _ _ => rfl)) pa_nil)))))))
        (pss_one (ps_ret pe_bl)) pss_nil)
      (pss_cons (ps_set (i := 2) sc_table.nd rfl (Or.inl rfl) (pe_ix ix_tup (pv 0) pe_int (fun _ _ => rfl)))
      (pss_cons (ps_if (PW.pt (pw_or (pt_not (pt_val (pe_callB call_isi (by rfl) T.isinst (by decide +kernel) (pa_cons (pv 2) (pa_cons (pe_bltn (v := .ty "tuple") (by rfl) T.tuple (by decide +kernel) rfl) pa_nil)))))
          (pw_or1 (pt_not (pt_chain op_le op_le pe_int (pe_callB call_len_seq (by rfl) T.len PySem.boot_len (pa_cons (pv 2) pa_nil)) (pe_glob (v := .int 2) rfl m2 ⟨_, rfl⟩)))))) (pss_one (ps_ret pe_bl)) pss_nil)
      (pss_one (ps_ret (pe_callB (cr_all rfl) (by rfl) T.all (by decide +kernel) (pa_cons (pe_lc (own := [("name", 3)]) (g := gName 3) (tt := tYes) rfl sc_table.nd (pi_tup (pv 2)) (blkOk_by (N := ["thing", "column_names", "names", "name"]) (sc := defScope s_is_table) (by decide +kernel))
        (fun _ _ _ _ _ => pg_name (i := 3) sc_table.nd rfl (Or.inl rfl)) (fun _ _ _ _ _ => pts_nil) (fun _ _ _ _ _ => pe_cmpR (inK K) (pv 3) (pv 1) rfl)) pa_nil)))))), ?_⟩
    refine ⟨_, rfl, t, _, rfl, ht, true, rfl, iteF ?_⟩
    refine ⟨_, rfl, t, _, 0, .str n, rfl, rfl, tof ht, rfl, n, rfl, name_line hn, fun H1 s1 => ?_⟩
    rw [hn]
    refine ⟨true, rfl, iteF ?_⟩
    refine ⟨_, rfl, t, _, 1, .ref p, rfl, rfl, tof (s1 _ _ ht), rfl, ?_⟩
    have hp1 := s1 _ _ hp
    refine ⟨_, rfl, _, _, _, _, true, rfl, .ty "tuple", .base (.tup hp1), ktup_tup, true, rfl, iteF ?_⟩
    refine ⟨_, rfl, p, _, rfl, .inr (tof hp1), 1, _, rfl, rfl, true, bl_true (by rw [List.length_map]; omega), iteT ?_⟩
    refine ⟨_, _, rfl, rfl, true, bl_true (by rw [List.length_map]; omega), iteF ?_⟩
    refine ⟨_, rfl, p, rfl, ⟨_, tof hp1⟩, fun D hD => lc_same (B := H1) walk_tup rfl (Same.refl H1) hD (fun H e => tof (e _ _ hp1)) (by rw [List.length_map]; exact Nat.lt_of_le_of_lt hl.2 (by decide)) (fun _ => some (.bl true)) (fun x H2 Q1 Q2 hx s2 k1 k2 => ?_) (fun H' s' hD' => ?_)⟩
    · obtain ⟨y, hy, rfl⟩ := List.mem_map.mp hx
      refine ⟨rfl, ?_⟩
      refine iteT (B := Q2 H2) ?_
      refine ⟨_, rfl, _, rfl, c, _, rfl, .inl (lof (s2 _ _ (s1 _ _ hc))), rfl, flat_strs, ?_⟩
      show Q1 (.bl (inV (.str y) (cs.map V.str))) H2
      rw [inV_str, decide_eq_true (ho y hy)]
      exact k1 _ _ rfl (Same.refl _)
    · refine ⟨D, ps.map fun _ => true, rfl, lof ?_, ?_⟩
      · rw [hD']
        congr 2
        rw [filterMap_some, List.map_map, List.map_map]; rfl
      · have e : (ps.map fun _ => true).all id = true := by
          rw [List.all_map]; simp
        rw [e]
        exact q _ (s1.trans s')
end
end As

/-! ## B4 -/
namespace As
open PySem PySem.Spec PyProof.Rows L2
/-- the class Plan as the module has it -/
structure PlC (K : PySem.W.Frag) (mg : Str → Option Value) (C : Addr) : Prop where
  m : mg "Plan" = some (.ref C)
  cls : ∃ mc u6 u8, ClX.CRead K C mc ∧ ClX.CVal K C mc "MOST_COLUMNS" (.int 6) u6 ∧ ClX.CVal K C mc "MOST_TABLES" (.int 8) u8
section
variable {P : Program} {w : World} {K : PySem.W.Frag} {mg : Str → Option Value} {base : Heap}

/-- rows: the place of a pair, its first item, its second -/
abbrev PRow := Addr × Str × V
def rv (r : PRow) : V := .ref r.1
def spDist (K : PySem.W.Frag) : Sp := fun vs H Q _ => ∃ (a : Addr) (rs : List PRow), vs = [.ref a] ∧ Sq H a (rs.map rv) ∧ (∀ r ∈ rs, H r.1 = some (.tup [.str r.2.1, r.2.2])) ∧ (rs.map (·.2.1)).Nodup ∧ rs.length ≤ 8 ∧ ∀ H', Same H H' → Q (.bl true) H'
theorem sc_dist : FnScope ["pairs", "pair"] ["pairs"] (defScope s_have_distinct_names) := ⟨rfl, rfl, rfl, by decide +kernel, rfl, by decide +kernel, by decide +kernel⟩
theorem nodup_key : ∀ {xs : List Str}, xs.Nodup → (xs.map (Sum.inr : Str → Key)).Nodup := fun h => by
  rw [List.Nodup, List.pairwise_map]
  exact h.imp fun h e => h (by injection e)
theorem ok_dist {f : Addr} {fd : FuncData} (D : Df K mg "have_distinct_names" s_have_distinct_names ["pairs"] f fd) (T : Bi mg) : FnOk P w K mg base CX0 1 f fd ["pairs"] (spDist K) := by
  refine D.F.ok sc_dist (fun vs H Q E h => ?_) (fun cdv A outer s H vs Q E hr h => ?_)
  · obtain ⟨a, rs, rfl, _⟩ := h; rfl
  · obtain ⟨a, rs, rfl, hs, hrow, nd, hl, q⟩ := h
    refine ⟨_, pss_one (ps_ret (pe_cmpR op_eq (pe_callB call_lenK (by rfl) T.len PySem.boot_len (pa_cons (pe_scK (own := [("pair", 1)]) (g := gName 1) (tt := tYes) rfl sc_dist.nd (pi_either (pi_list (pv 0)) (pi_tup (pv 0)))
        (blkOk_by (N := ["pairs", "pair"]) (sc := defScope s_have_distinct_names) (by decide +kernel)) (fun _ _ _ _ _ => pg_name (i := 1) sc_dist.nd rfl (Or.inl rfl)) (fun _ _ _ _ _ => pts_nil) (fun _ _ _ _ _ => pe_ix (ixT K) (pv 1) pe_int (fun _ _ => rfl))) pa_nil))
      (pe_callB call_len_seq (by rfl) T.len PySem.boot_len (pa_cons (pv 0) pa_nil)) (nomark _))), ?_⟩
    have turn : ∀ (x : V) (H1 : Hp) (Q1 : VK) (Q2 : Hp → Prop), x ∈ rs.map rv → Same H H1 → (∀ H4, Same H1 H4 → Q1 (kV (match rs.find? (fun r => decide (rv r = x)) with | some r => (.inr r.2.1 : Key) | none => .inl 0)) H4) →
        gName 1 x (wipe (L2.start ["pairs", "pair"] [.ref a]) [1]) H1 fun σ2 H2 => wipe σ2 [1] = wipe (L2.start ["pairs", "pair"] [.ref a]) [1] ∧ tYes σ2 H2 fun b H3 => if b = true then tOp (rIxT K) (tVar 1) (tC (.int 0)) σ2 H3 Q1 else Q2 H3 := by
      intro x H1 Q1 Q2 hx s1 k
      refine ⟨rfl, ?_⟩
      refine iteT (B := Q2 H1) ?_
      cases hf : rs.find? (fun r => decide (rv r = x)) with
      | none =>
        obtain ⟨r, hr', e⟩ := List.mem_map.mp hx
        exact absurd (List.find?_eq_none.mp hf r hr') (by simp [e])
      | some r =>
        have hm := List.mem_of_find?_eq_some hf
        have he : rv r = x := by have z := List.find?_some hf; simpa using z
        subst he
        rw [hf] at k
        exact ⟨_, rfl, r.1, _, 0, .str r.2.1, rfl, rfl, tof (s1 _ _ (hrow r hm)), rfl, k _ (Same.refl _)⟩
    have keys : ((rs.map rv).map (fun x => match rs.find? (fun r => decide (rv r = x)) with | some r => (.inr r.2.1 : Key) | none => .inl 0)).Nodup := by
      have e : (rs.map rv).map (fun x => match rs.find? (fun r => decide (rv r = x)) with | some r => (.inr r.2.1 : Key) | none => .inl 0) = (rs.map (·.2.1)).map Sum.inr := by
        rw [List.map_map, List.map_map]
        refine List.map_congr_left fun r hm => ?_
        show (match rs.find? (fun r' => decide (rv r' = rv r)) with | some r => (.inr r.2.1 : Key) | none => .inl 0) = .inr r.2.1
        cases hf : rs.find? (fun r' => decide (rv r' = rv r)) with
        | none => exact absurd (List.find?_eq_none.mp hf r hm) (by simp)
        | some r' =>
          have hm' := List.mem_of_find?_eq_some hf
          have he : rv r' = rv r := by have z := List.find?_some hf; simpa using z
          have h1 := hrow r hm
          have h2 := hrow r' hm'
          have ha : r'.1 = r.1 := by injection he
          rw [ha, h1] at h2
          injection h2 with h2; injection h2 with h2; injection h2 with h2; injection h2 with h2
          show Sum.inr r'.2.1 = _
          rw [h2]
      rw [e]; exact nodup_key nd
    have fin : ∀ (D : Addr) (H' : Hp) (S : Key → Bool), Same H H' → H' D = some (SetK P w D S (rs.map rv).length) →
        tCons (tVar 0) tNil (L2.start ["pairs", "pair"] [.ref a]) H' (fun vs H1 => ∃ p ys, vs = [V.ref p] ∧ (SqL K H1 p ys ∨ SqT K H1 p ys) ∧ rEq (.int ((rs.map rv).length : Nat)) (.int (ys.length : Nat)) H1 Q) := fun D H' S s' hD => by
      refine ⟨_, rfl, a, rs.map rv, rfl, (hs.same s').or, rfl, ?_⟩
      rw [decide_eq_true rfl]
      exact q _ s'
    have small : (rs.map rv).length + 1 < scanBound := by rw [List.length_map]; exact Nat.lt_of_le_of_lt (Nat.succ_le_succ hl) (by decide)
    rcases hs with hs | hs
    · refine .inl ⟨_, rfl, a, rfl, ⟨_, lof hs⟩, fun D hD => sc_same walk_list rfl (Same.refl H) hD (fun H e => lof (e _ _ hs)) small _ keys turn (fun H' S s' hD' => ?_)⟩
      exact ⟨D, S, _, rfl, hD', fin D H' S s' hD'⟩
    · refine .inr ⟨_, rfl, a, rfl, ⟨_, tof hs⟩, fun D hD => sc_same walk_tup rfl (Same.refl H) hD (fun H e => tof (e _ _ hs)) small _ keys turn (fun H' S s' hD' => ?_)⟩
      exact ⟨D, S, _, rfl, hD', fin D H' S s' hD'⟩

def colRow (r : CRow) : PRow := (r.1, r.2.1, .int r.2.2)
def tabRow (r : TRow) : PRow := (r.1, r.2.1, .ref r.2.2.1)
def spColumns (K : PySem.W.Frag) : Sp := fun vs H Q _ => ∃ (a : Addr) (rs : List CRow), vs = [.ref a] ∧ Sq H a (rs.map cv) ∧ ColsOk H rs ∧ ∀ H', Same H H' → Q (.bl true) H'
theorem sc_columns : FnScope ["thing", "item"] ["thing"] (defScope s_are_columns) := ⟨rfl, rfl, rfl, by decide +kernel, rfl, by decide +kernel, by decide +kernel⟩
theorem ok_columns {f fl fc fh C : Addr} {fd dl dc dh : FuncData} (D : Df K mg "are_columns" s_are_columns ["thing"] f fd) (T : Bi mg) (L : PlC K mg C)
    (Dl : Df K mg "is_list" s_is_list ["thing"] fl dl) (Gl' : FnOk P w K mg base CX0 1 fl dl ["thing"] (spList K)) (Dc : Df K mg "is_column" s_is_column ["thing"] fc dc) (Gc : FnOk P w K mg base CX0 2 fc dc ["thing"] (spColumn K))
    (Dh : Df K mg "have_distinct_names" s_have_distinct_names ["pairs"] fh dh) (Gh : FnOk P w K mg base CX0 1 fh dh ["pairs"] (spDist K)) : FnOk P w K mg base CX0 3 f fd ["thing"] (spColumns K) := by
  refine D.F.ok sc_columns (fun vs H Q E h => ?_) (fun cdv A outer s H vs Q E hr h => ?_)
  · obtain ⟨a, rs, rfl, _⟩ := h; rfl
  · obtain ⟨a, rs, rfl, hs, ok, q⟩ := h
    obtain ⟨mc, u6, u8, rd, c6, c8⟩ := L.cls
    have hr1 : Room 1 _ := hr.mono (by decide)
    refine ⟨_, pss_cons (ps_if (PW.pt (pw_or (pt_not (pt_val (pcall Dl Gl' hr1 (pa_cons (pv 0) pa_nil)))) (pw_or1 (pt_not (pt_chain op_le op_le pe_int (pe_callB call_len_seq (by rfl) T.len PySem.boot_len (pa_cons (pv 0) pa_nil)) (ClX.pe_cval (pe_glob (v := .ref C) rfl L.m rfl)))))))
        (pss_one (ps_ret pe_bl)) pss_nil)
      (pss_one (ps_ret (pe_and (pe_callB (cr_all rfl) (by rfl) T.all (by decide +kernel) (pa_cons (pe_lc (own := [("item", 1)]) (g := gName 1) (tt := tYes) rfl sc_columns.nd (pi_either (pi_list (pv 0)) (pi_tup (pv 0)))
          (blkOk_by (N := ["thing", "item"]) (sc := defScope s_are_columns) (by decide +kernel)) (fun _ _ _ _ _ => pg_name (i := 1) sc_columns.nd rfl (Or.inl rfl)) (fun _ _ _ _ _ => pts_nil) (fun _ _ _ _ _ => pcall Dc Gc hr (pa_cons (pv 1) pa_nil))) pa_nil))
        (pe_one (pcall Dh Gh hr1 (pa_cons (pv 0) pa_nil)))))), ?_⟩
    refine ⟨_, rfl, a, _, rfl, hs, fun H1 s1 => ⟨true, rfl, iteF ?_⟩⟩
    have hs1 := hs.same s1
    refine ⟨_, rfl, a, _, rfl, hs1.or, 1, _, rfl, rfl, true, bl_true (by rw [List.length_map]; have := ok.len; omega), iteT ?_⟩
    refine ⟨C, mc, .int 6, u6, rfl, rd, c6, _, _, rfl, rfl, true, bl_true (by rw [List.length_map]; have := ok.len; omega), iteF ?_⟩
    have ok1 := ok.same s1
    have turn : ∀ (x : V) (H2 : Hp) (Q1 : VK) (Q2 : Hp → Prop), x ∈ rs.map cv → Same H1 H2 → (∀ y H4, some (V.bl true) = some y → Same H2 H4 → Q1 y H4) → (∀ H3, some (V.bl true) = none → Same H2 H3 → Q2 H3) →
        gName 1 x (wipe (L2.start ["thing", "item"] [.ref a]) [1]) H2 fun σ2 H3 => wipe σ2 [1] = wipe (L2.start ["thing", "item"] [.ref a]) [1] ∧ tYes σ2 H3 fun b H4 => if b = true then tCall (spColumn K) [] E0 (tCons (tVar 1) tNil) σ2 H4 Q1 else Q2 H4 := by
      intro x H2 Q1 Q2 hx s2 k1 k2
      obtain ⟨r, hm, rfl⟩ := List.mem_map.mp hx
      refine ⟨rfl, ?_⟩
      refine iteT (B := Q2 H2) ?_
      exact ⟨_, rfl, r.1, r.2.1, r.2.2, rfl, s2 _ _ (ok1.row r hm), ok.nm r hm, ok.sz r hm, fun H4 s4 => k1 _ _ rfl s4⟩
    have fin : ∀ (D : Addr) (H' : Hp), Same H1 H' → H' D = some (.lst ((rs.map cv).filterMap fun _ => some (V.bl true))) →
        rAll K [.ref D] H' (fun x H2 => ∃ c, x = .bl c ∧ if c = true then tCall (spDist K) [] E0 (tCons (tVar 0) tNil) (L2.start ["thing", "item"] [.ref a]) H2 Q else Q (.bl false) H2) := by
      intro D H' s' hD
      refine ⟨D, rs.map fun _ => true, rfl, lof ?_, ?_⟩
      · rw [hD]; congr 2; rw [filterMap_some, List.map_map, List.map_map]; rfl
      · have e : (rs.map fun _ => true).all id = true := by rw [List.all_map]; simp
        rw [e]
        refine ⟨true, rfl, iteT ⟨_, rfl, a, rs.map colRow, rfl, ?_, ?_, ?_, ?_, fun H2 s2 => q _ ((s1.trans s').trans s2)⟩⟩
        · have e : (rs.map colRow).map rv = rs.map cv := by rw [List.map_map]; rfl
          rw [e]; exact hs1.same s'
        · intro r hm
          obtain ⟨r0, hm0, rfl⟩ := List.mem_map.mp hm
          exact s' _ _ (ok1.row r0 hm0)
        · rw [List.map_map]; exact ok.nd
        · rw [List.length_map]; have := ok.len; omega
    have small : (rs.map cv).length < sizeLine := by rw [List.length_map]; exact Nat.lt_of_le_of_lt ok.len.2 (by decide)
    rcases hs1 with hs1 | hs1
    · exact .inl ⟨_, rfl, a, rfl, ⟨_, lof hs1⟩, fun D hD => lc_same walk_list rfl (Same.refl H1) hD (fun H e => lof (e _ _ hs1)) small (fun _ => some (.bl true)) turn fun H' s' hD' => fin D H' s' hD'⟩
    · exact .inr ⟨_, rfl, a, rfl, ⟨_, tof hs1⟩, fun D hD => lc_same walk_tup rfl (Same.refl H1) hD (fun H e => tof (e _ _ hs1)) small (fun _ => some (.bl true)) turn fun H' s' hD' => fin D H' s' hD'⟩

def spTables (K : PySem.W.Frag) : Sp := fun vs H Q _ => ∃ (a c : Addr) (rs : List TRow) (cs : List CRow), vs = [.ref a, .ref c] ∧ Sq H a (rs.map tv) ∧ Sq H c (cs.map cv) ∧ ColsOk H cs ∧ TabsOk H (cs.map (·.2.1)) rs ∧ ∀ H', Same H H' → Q (.bl true) H'
theorem sc_tables : FnScope ["thing", "columns", "column_names", "name", "many", "item"] ["thing", "columns"] (defScope s_are_tables) := ⟨rfl, rfl, rfl, by decide +kernel, rfl, by decide +kernel, by decide +kernel⟩
theorem ok_tables {f fl fc fh C : Addr} {fd dl dc dh : FuncData} (D : Df K mg "are_tables" s_are_tables ["thing", "columns"] f fd) (T : Bi mg) (L : PlC K mg C)
    (Dl : Df K mg "is_list" s_is_list ["thing"] fl dl) (Gl' : FnOk P w K mg base CX0 1 fl dl ["thing"] (spList K)) (Dc : Df K mg "is_table" s_is_table ["thing", "column_names"] fc dc) (Gc : FnOk P w K mg base CX0 2 fc dc ["thing", "column_names"] (spTable K))
    (Dh : Df K mg "have_distinct_names" s_have_distinct_names ["pairs"] fh dh) (Gh : FnOk P w K mg base CX0 1 fh dh ["pairs"] (spDist K)) : FnOk P w K mg base CX0 3 f fd ["thing", "columns"] (spTables K) := by
  refine D.F.ok sc_tables (fun vs H Q E h => ?_) (fun cdv A outer s H vs Q E hr h => ?_)
  · obtain ⟨a, c, rs, cs, rfl, _⟩ := h; rfl
  · obtain ⟨a, c, rs, cs, rfl, hs, hcs, okc, ok, q⟩ := h
    obtain ⟨mc, u6, u8, rd, c6, c8⟩ := L.cls
    have hr1 : Room 1 _ := hr.mono (by decide)
    refine ⟨_, pss_cons (ps_if (PW.pt (pw_or (pt_not (pt_val (pcall Dl Gl' hr1 (pa_cons (pv 0) pa_nil)))) (pw_or1 (pt_not (pt_chain op_le op_le pe_int (pe_callB call_len_seq (by rfl) T.len PySem.boot_len (pa_cons (pv 0) pa_nil)) (ClX.pe_cval (pe_glob (v := .ref C) rfl L.m rfl)))))))
        (pss_one (ps_ret pe_bl)) pss_nil)
      (pss_cons (ps_set (i := 2) sc_tables.nd rfl (Or.inr rfl) (pe_lc (own := [("name", 3), ("many", 4)]) (g := gTup K 2 (gCons (gName 3) (gCons (gName 4) gNil))) (tt := tYes) rfl sc_tables.nd (pi_either (pi_list (pv 1)) (pi_tup (pv 1)))
          (blkOk_by (N := ["thing", "columns", "column_names", "name", "many", "item"]) (sc := defScope s_are_tables) (by decide +kernel)) (fun _ _ _ _ _ => pgT K (pg_tup rfl (pgs_cons (pg_name (i := 3) sc_tables.nd rfl (Or.inl rfl)) (pgs_cons (pg_name (i := 4) sc_tables.nd rfl (Or.inl rfl)) pgs_nil))))
          (fun _ _ _ _ _ => pts_nil) (fun _ _ _ _ _ => pv 3)))
      (pss_one (ps_ret (pe_and (pe_callB (cr_all rfl) (by rfl) T.all (by decide +kernel) (pa_cons (pe_lc (own := [("item", 5)]) (g := gName 5) (tt := tYes) rfl sc_tables.nd (pi_either (pi_list (pv 0)) (pi_tup (pv 0)))
          (blkOk_by (N := ["thing", "columns", "column_names", "name", "many", "item"]) (sc := defScope s_are_tables) (by decide +kernel)) (fun _ _ _ _ _ => pg_name (i := 5) sc_tables.nd rfl (Or.inl rfl)) (fun _ _ _ _ _ => pts_nil)
          (fun _ _ _ _ _ => pcall Dc Gc hr (pa_cons (pv 5) (pa_cons (pv 2) pa_nil)))) pa_nil))
        (pe_one (pcall Dh Gh hr1 (pa_cons (pv 0) pa_nil))))))), ?_⟩
    refine ⟨_, rfl, a, _, rfl, hs, fun H1 s1 => ⟨true, rfl, iteF ?_⟩⟩
    have hs1 := hs.same s1
    refine ⟨_, rfl, a, _, rfl, hs1.or, 1, _, rfl, rfl, true, bl_true (by rw [List.length_map]; have := ok.len; omega), iteT ?_⟩
    refine ⟨C, mc, .int 8, u8, rfl, rd, c8, _, _, rfl, rfl, true, bl_true (by rw [List.length_map]; have := ok.len; omega), iteF ?_⟩
    have hcs1 := hcs.same s1
    -- the rest, behind the names' list at N
    have rest : ∀ (N : Addr) (H2 : Hp), Same H1 H2 → H2 N = some (.lst ((cs.map (·.2.1)).map V.str)) →
        tRet (tAndV (tCB (rAll K) (tCons (tLc (fun σ H R => iList K (tVar 0) σ H R ∨ iTup K (tVar 0) σ H R) (gName 5) tYes (tCall (spTable K) [] E0 (tCons (tVar 5) (tCons (tVar 2) tNil))) [5]) tNil)) (tCall (spDist K) [] E0 (tCons (tVar 0) tNil)))
          { nx := fun _ H' => Q .non H', rt := Q } ((L2.start ["thing", "columns", "column_names", "name", "many", "item"] [.ref a, .ref c]).set 2 (some (.ref N))) H2 := by
      intro N H2 s2 hN
      have hs2 := hs1.same s2
      have ok2 := ok.same (s1.trans s2)
      have turn : ∀ (x : V) (H3 : Hp) (Q1 : VK) (Q2 : Hp → Prop), x ∈ rs.map tv → Same H2 H3 → (∀ y H4, some (V.bl true) = some y → Same H3 H4 → Q1 y H4) → (∀ H4, some (V.bl true) = none → Same H3 H4 → Q2 H4) →
          gName 5 x (wipe ((L2.start ["thing", "columns", "column_names", "name", "many", "item"] [.ref a, .ref c]).set 2 (some (.ref N))) [5]) H3 fun σ2 H4 => wipe σ2 [5] = wipe ((L2.start ["thing", "columns", "column_names", "name", "many", "item"] [.ref a, .ref c]).set 2 (some (.ref N))) [5] ∧
            tYes σ2 H4 fun b H5 => if b = true then tCall (spTable K) [] E0 (tCons (tVar 5) (tCons (tVar 2) tNil)) σ2 H5 Q1 else Q2 H5 := by
        intro x H3 Q1 Q2 hx s3 k1 k2
        obtain ⟨r, hm, rfl⟩ := List.mem_map.mp hx
        refine ⟨rfl, ?_⟩
        refine iteT (B := Q2 H3) ?_
        exact ⟨_, rfl, _, rfl, r.1, r.2.1, r.2.2.1, r.2.2.2, N, cs.map (·.2.1), rfl, s3 _ _ (ok2.row r hm), s3 _ _ (ok2.prt r hm), s3 _ _ hN, ok.nm r hm, ok.two r hm, ok.own r hm, fun H4 s4 => k1 _ _ rfl s4⟩
      have fin : ∀ (D : Addr) (H' : Hp), Same H2 H' → H' D = some (.lst ((rs.map tv).filterMap fun _ => some (V.bl true))) →
          rAll K [.ref D] H' (fun x H3 => ∃ c', x = .bl c' ∧ if c' = true then tCall (spDist K) [] E0 (tCons (tVar 0) tNil) ((L2.start ["thing", "columns", "column_names", "name", "many", "item"] [.ref a, .ref c]).set 2 (some (.ref N))) H3 Q else Q (.bl false) H3) := by
        intro D H' s' hD
        refine ⟨D, rs.map fun _ => true, rfl, lof ?_, ?_⟩
        · rw [hD]; congr 2; rw [filterMap_some, List.map_map, List.map_map]; rfl
        · have e : (rs.map fun _ => true).all id = true := by rw [List.all_map]; simp
          rw [e]
          refine ⟨true, rfl, iteT ⟨_, rfl, a, rs.map tabRow, rfl, ?_, ?_, ?_, ?_, fun H3 s3 => q _ (((s1.trans s2).trans s').trans s3)⟩⟩
          · have e : (rs.map tabRow).map rv = rs.map tv := by rw [List.map_map]; rfl
            rw [e]; exact hs2.same s'
          · intro r hm
            obtain ⟨r0, hm0, rfl⟩ := List.mem_map.mp hm
            exact s' _ _ (ok2.row r0 hm0)
          · rw [List.map_map]; exact ok.nd
          · rw [List.length_map]; exact ok.len.2
      have small : (rs.map tv).length < sizeLine := by rw [List.length_map]; exact Nat.lt_of_le_of_lt ok.len.2 (by decide)
      rcases hs2 with hs2 | hs2
      · exact .inl ⟨_, rfl, a, rfl, ⟨_, lof hs2⟩, fun D hD => lc_same walk_list rfl (Same.refl H2) hD (fun H e => lof (e _ _ hs2)) small (fun _ => some (.bl true)) turn fun H' s' hD' => fin D H' s' hD'⟩
      · exact .inr ⟨_, rfl, a, rfl, ⟨_, tof hs2⟩, fun D hD => lc_same walk_tup rfl (Same.refl H2) hD (fun H e => tof (e _ _ hs2)) small (fun _ => some (.bl true)) turn fun H' s' hD' => fin D H' s' hD'⟩
    have okc1 := okc.same s1
    let nameOf : V → Option V := fun x => match cs.find? (fun r => decide (cv r = x)) with | some r => some (.str r.2.1) | none => none
    have nameAt : ∀ r ∈ cs, nameOf (cv r) = some (.str r.2.1) := fun r hm => by
      show (match cs.find? (fun r' => decide (cv r' = cv r)) with | some r => some (V.str r.2.1) | none => none) = _
      cases hf : cs.find? (fun r' => decide (cv r' = cv r)) with
      | none => exact absurd (List.find?_eq_none.mp hf r hm) (by simp)
      | some r' =>
        have he : cv r' = cv r := by have z := List.find?_some hf; simpa using z
        have ha : r'.1 = r.1 := by injection he
        have h2 := okc.row r' (List.mem_of_find?_eq_some hf)
        rw [ha, okc.row r hm] at h2
        injection h2 with h2; injection h2 with h2; injection h2 with h2; injection h2 with h2
        show some (V.str r'.2.1) = _
        rw [h2]
    have names : (cs.map cv).filterMap nameOf = (cs.map (·.2.1)).map V.str := by
      rw [List.filterMap_map, List.map_map, ← filterMap_some]
      exact filterMap_same fun r hm => nameAt r hm
    have turn : ∀ (x : V) (H3 : Hp) (Q1 : VK) (Q2 : Hp → Prop), x ∈ cs.map cv → Same H1 H3 → (∀ y H4, nameOf x = some y → Same H3 H4 → Q1 y H4) → (∀ H4, nameOf x = none → Same H3 H4 → Q2 H4) →
        gTup K 2 (gCons (gName 3) (gCons (gName 4) gNil)) x (wipe (L2.start ["thing", "columns", "column_names", "name", "many", "item"] [.ref a, .ref c]) [3, 4]) H3 fun σ2 H4 => wipe σ2 [3, 4] = wipe (L2.start ["thing", "columns", "column_names", "name", "many", "item"] [.ref a, .ref c]) [3, 4] ∧
          tYes σ2 H4 fun b H5 => if b = true then tVar 3 σ2 H5 Q1 else Q2 H5 := by
      intro x H3 Q1 Q2 hx s3 k1 k2
      obtain ⟨r, hm, rfl⟩ := List.mem_map.mp hx
      refine ⟨r.1, _, rfl, tof (s3 _ _ (okc1.row r hm)), rfl, _, _, rfl, _, _, rfl, rfl, rfl, ?_⟩
      refine iteT (B := Q2 H3) ?_
      exact ⟨_, rfl, k1 _ _ (nameAt r hm) (Same.refl _)⟩
    have small : (cs.map cv).length < sizeLine := by rw [List.length_map]; exact Nat.lt_of_le_of_lt okc.len.2 (by decide)
    rcases hcs1 with hc1 | hc1
    · exact .inl ⟨_, rfl, c, rfl, ⟨_, lof hc1⟩, fun D hD => lc_same walk_list rfl (Same.refl H1) hD (fun H e => lof (e _ _ hc1)) small nameOf turn fun H' s' hD' => rest D H' s' (by rw [hD', names])⟩
    · exact .inr ⟨_, rfl, c, rfl, ⟨_, tof hc1⟩, fun D hD => lc_same walk_tup rfl (Same.refl H1) hD (fun H e => tof (e _ _ hc1)) small nameOf turn fun H' s' hD' => rest D H' s' (by rw [hD', names])⟩
end
end As

/-! ## B5 -/
namespace As
open PySem PySem.Spec PyProof.Rows L2

/-! what a row's place tells -/
def rowFn {ρ α : Type} (rows : List ρ) (at_ : ρ → Addr) (φ : ρ → α) (d : α) : V → α := fun x => match rows.find? (fun r => decide (V.ref (at_ r) = x)) with | some r => φ r | none => d
theorem rowFn_at {ρ α : Type} {rows : List ρ} {at_ : ρ → Addr} {φ : ρ → α} {d : α} (u : ∀ r ∈ rows, ∀ r' ∈ rows, at_ r = at_ r' → φ r = φ r') {r : ρ} (hr : r ∈ rows) : rowFn rows at_ φ d (.ref (at_ r)) = φ r := by
  unfold rowFn
  cases hf : rows.find? (fun r' => decide (V.ref (at_ r') = V.ref (at_ r))) with
  | none => exact absurd (List.find?_eq_none.mp hf r hr) (by simp)
  | some r' =>
    have z := List.find?_some hf
    have he : at_ r' = at_ r := by simpa using z
    exact u r' (List.mem_of_find?_eq_some hf) r hr he
theorem ColsOk.det {H : Hp} {cs : List CRow} (ok : ColsOk H cs) : ∀ r ∈ cs, ∀ r' ∈ cs, r.1 = r'.1 → r.2 = r'.2 := fun r hr r' hr' e => by
  have h1 := ok.row r hr
  have h2 := ok.row r' hr'
  rw [e, h2] at h1
  injection h1 with h1; injection h1 with h1; injection h1 with h1 h3; injection h3 with h3
  injection h1 with h1; injection h3 with h3
  exact Prod.ext h1.symm h3.symm
theorem map_str_inj : ∀ {xs ys : List Str}, xs.map V.str = ys.map V.str → xs = ys
  | [], [], _ => rfl
  | [], _ :: _, h => nomatch h
  | _ :: _, [], h => nomatch h
  | x :: xs, y :: ys, h => by
    injection h with h1 h2
    injection h1 with h1
    rw [h1, map_str_inj h2]
theorem TabsOk.det {H : Hp} {cs : List Str} {ts : List TRow} (ok : TabsOk H cs ts) : ∀ r ∈ ts, ∀ r' ∈ ts, r.1 = r'.1 → r.2 = r'.2 := fun r hr r' hr' e => by
  have h1 := ok.row r hr
  have h2 := ok.row r' hr'
  rw [e, h2] at h1
  injection h1 with h1; injection h1 with h1; injection h1 with h1 h3; injection h3 with h3
  injection h1 with h1; injection h3 with h3
  have p1 := ok.prt r hr
  have p2 := ok.prt r' hr'
  rw [← h3, p2] at p1
  injection p1 with p1; injection p1 with p1
  exact Prod.ext h1.symm (Prod.ext h3.symm (map_str_inj p1).symm)

/-! the plan as an object -/
theorem nCT : ¬ (Str.ofString "_columns") = (Str.ofString "_tables") := by decide +kernel
theorem nCS : ¬ (Str.ofString "_columns") = (Str.ofString "_sizes") := by decide +kernel
theorem nCP : ¬ (Str.ofString "_columns") = (Str.ofString "_spans") := by decide +kernel
theorem nTS : ¬ (Str.ofString "_tables") = (Str.ofString "_sizes") := by decide +kernel
theorem nTP : ¬ (Str.ofString "_tables") = (Str.ofString "_spans") := by decide +kernel
theorem nSP : ¬ (Str.ofString "_sizes") = (Str.ofString "_spans") := by decide +kernel
def pf3 (ct tt sz : Addr) : List (Str × V) := putF (Str.ofString "_sizes") (.ref sz) (putF (Str.ofString "_tables") (.ref tt) (putF (Str.ofString "_columns") (.ref ct) []))
theorem nCH : ¬ (Str.ofString "_columns") = (Str.ofString "_shapes") := by decide +kernel
theorem nTH : ¬ (Str.ofString "_tables") = (Str.ofString "_shapes") := by decide +kernel
theorem nSH : ¬ (Str.ofString "_sizes") = (Str.ofString "_shapes") := by decide +kernel
theorem nHP : ¬ (Str.ofString "_shapes") = (Str.ofString "_spans") := by decide +kernel
def pf4 (ct tt sz sh : Addr) : List (Str × V) := putF (Str.ofString "_shapes") (.ref sh) (pf3 ct tt sz)
def pf (ct tt sz sp sh : Addr) : List (Str × V) := putF (Str.ofString "_spans") (.ref sp) (pf4 ct tt sz sh)
theorem pf_C {ct tt sz sp sh : Addr} : (pf ct tt sz sp sh).lookup (Str.ofString "_columns") = some (.ref ct) := by
  unfold pf pf4 pf3; rw [lookup_putF, if_neg nCP, lookup_putF, if_neg nCH, lookup_putF, if_neg nCS, lookup_putF, if_neg nCT, lookup_putF, if_pos rfl]
theorem pf_T {ct tt sz sp sh : Addr} : (pf ct tt sz sp sh).lookup (Str.ofString "_tables") = some (.ref tt) := by
  unfold pf pf4 pf3; rw [lookup_putF, if_neg nTP, lookup_putF, if_neg nTH, lookup_putF, if_neg nTS, lookup_putF, if_pos rfl]
theorem pf_S {ct tt sz sp sh : Addr} : (pf ct tt sz sp sh).lookup (Str.ofString "_sizes") = some (.ref sz) := by
  unfold pf pf4 pf3; rw [lookup_putF, if_neg nSP, lookup_putF, if_neg nSH, lookup_putF, if_pos rfl]
theorem pf_P {ct tt sz sp sh : Addr} : (pf ct tt sz sp sh).lookup (Str.ofString "_spans") = some (.ref sp) := by
  unfold pf; rw [lookup_putF, if_pos rfl]
theorem pf_H {ct tt sz sp sh : Addr} : (pf ct tt sz sp sh).lookup (Str.ofString "_shapes") = some (.ref sh) := by
  unfold pf pf4; rw [lookup_putF, if_neg nHP, lookup_putF, if_pos rfl]
theorem pf4_S {ct tt sz sh : Addr} : (pf4 ct tt sz sh).lookup (Str.ofString "_sizes") = some (.ref sz) := by
  unfold pf4 pf3; rw [lookup_putF, if_neg nSH, lookup_putF, if_pos rfl]
theorem pf_no {ct tt sz sp sh : Addr} {m : Str} (h1 : ¬ m = (Str.ofString "_columns")) (h2 : ¬ m = (Str.ofString "_tables")) (h3 : ¬ m = (Str.ofString "_sizes")) (h4 : ¬ m = (Str.ofString "_spans")) (h5 : ¬ m = (Str.ofString "_shapes")) : (pf ct tt sz sp sh).lookup m = none := by
  unfold pf pf4 pf3; rw [lookup_putF, if_neg h4, lookup_putF, if_neg h5, lookup_putF, if_neg h3, lookup_putF, if_neg h2, lookup_putF, if_neg h1]; rfl

def colsD (cs : List CRow) : List (Key × V) := cs.map fun r => (.inr r.2.1, .int r.2.2)
/-- the number of values of a column, or None -/
def sizeV (cs : List CRow) (z : Str) : V := (valV (colsD cs) (.inr z)).getD .non
def spanVs (cs : List CRow) (r : TRow) : List V := r.2.2.2.map (sizeV cs)
/-- at p a plan of these columns and tables -/
def shapesD (ts : List TRow) : List (Key × V) := ts.map fun r => (.inr r.2.1, .ref r.2.2.1)
def PlanAt (H : Hp) (C p : Addr) (cs : List CRow) (ts : List TRow) : Prop := ∃ (dx ct tt sz sp sh : Addr) (ks : List (Key × V)), H p = some (.ins C dx (pf ct tt sz sp sh)) ∧ H ct = some (.tup (cs.map cv)) ∧ H tt = some (.tup (ts.map tv)) ∧
  H sz = some (.dK (colsD cs)) ∧ H sp = some (.dK ks) ∧ H sh = some (.dK (shapesD ts)) ∧ Paired (fun (r : TRow) (kv : Key × V) => kv.1 = .inr r.2.1 ∧ ∃ q, kv.2 = .ref q ∧ H q = some (.tup (spanVs cs r))) ts ks
theorem PlanAt.same {H H' : Hp} {C p : Addr} {cs : List CRow} {ts : List TRow} (h : PlanAt H C p cs ts) (e : Same H H') : PlanAt H' C p cs ts := by
  obtain ⟨dx, ct, tt, sz, sp, sh, ks, h1, h2, h3, h4, h5, hs, h6⟩ := h
  exact ⟨dx, ct, tt, sz, sp, sh, ks, e _ _ h1, e _ _ h2, e _ _ h3, e _ _ h4, e _ _ h5, e _ _ hs, paired_imp (fun _ _ r => ⟨r.1, r.2.elim fun q z => ⟨q, z.1, e _ _ z.2⟩⟩) h6⟩

theorem kTup_seq {K : PySem.W.Frag} {H : Hp} {a : Addr} {xs : List V} {Q : VK} (h : Sq H a xs) (k : ∀ q H', Same H H' → H' q = some (.tup xs) → Q (.ref q) H') : kTup K (.ref a) H Q := by
  rcases h with h | h
  · exact .inl ⟨a, xs, rfl, lof h, fun q hq => k q _ (same_new hq) upd_same⟩
  · exact .inr ⟨a, xs, rfl, tof h, k a H (Same.refl H) h⟩
theorem pfl {f : Str} {v : V} {fs : List (Str × V)} {n : Nat} (h : fs.length ≤ n) : (putF f v fs).length ≤ n + 1 := Nat.le_trans (length_putF f v fs) (Nat.succ_le_succ h)
theorem valV_cols {cs : List CRow} {c : Str} (h : c ∈ cs.map (·.2.1)) : ∃ v, valV (colsD cs) (.inr c) = some v := by
  unfold valV colsD
  cases hf : (cs.map fun r => ((.inr r.2.1 : Key), V.int r.2.2)).find? (fun kv => decide (kv.1 = .inr c)) with
  | some kv => exact ⟨_, rfl⟩
  | none =>
    obtain ⟨r, hr, e⟩ := List.mem_map.mp h
    exact absurd (List.find?_eq_none.mp hf (.inr r.2.1, .int r.2.2) (List.mem_map.mpr ⟨r, hr, rfl⟩)) (by simp [e])
section
variable {H : Hp} {p C dx : Addr} {fs : List (Str × V)}
theorem ne_ins {b : Addr} {o : HO} (hp : H p = some (.ins C dx fs)) (h : H b = some o) (n : ∀ C dx fs, o ≠ .ins C dx fs) : b ≠ p := fun e => by
  subst e; rw [hp] at h; injection h with h; exact n _ _ _ h.symm
theorem Sq.rem {a : Addr} {xs : List V} (hp : H p = some (.ins C dx fs)) (h : Sq H a xs) : Sq (As.rem H p) a xs := by
  rcases h with h | h
  · exact .inl (by rw [rem_ne (ne_ins hp h (fun _ _ _ z => nomatch z))]; exact h)
  · exact .inr (by rw [rem_ne (ne_ins hp h (fun _ _ _ z => nomatch z))]; exact h)
theorem ColsOk.rem {cs : List CRow} (hp : H p = some (.ins C dx fs)) (h : ColsOk H cs) : ColsOk (As.rem H p) cs :=
  ⟨fun r hr => by rw [rem_ne (ne_ins hp (h.row r hr) (fun _ _ _ z => nomatch z))]; exact h.row r hr, h.len, h.nm, h.sz, h.nd⟩
theorem TabsOk.rem {cs : List Str} {ts : List TRow} (hp : H p = some (.ins C dx fs)) (h : TabsOk H cs ts) : TabsOk (As.rem H p) cs ts :=
  ⟨fun r hr => by rw [rem_ne (ne_ins hp (h.row r hr) (fun _ _ _ z => nomatch z))]; exact h.row r hr, fun r hr => by rw [rem_ne (ne_ins hp (h.prt r hr) (fun _ _ _ z => nomatch z))]; exact h.prt r hr, h.len, h.nm, h.two, h.own, h.nd⟩
end
theorem paired_cols {cs cs0 : List CRow} {f g : V → V} {key : V → Key} : (∀ r ∈ cs, key (cv r) = .inr r.2.1 ∧ g (cv r) = .int r.2.2) → ∀ {kvs : List (Key × V)}, Paired (fun x (kv : Key × V) => kv.1 = key x ∧ kv.2 = g x) (cs.map cv) kvs → kvs = colsD cs := by
  induction cs with
  | nil => intro _ kvs h; cases h; rfl
  | cons r t ih =>
    intro hk kvs h
    rw [List.map_cons] at h
    cases h with
    | @cons a kv l1 l2 h1 h2 =>
      have e := ih (fun r hr => hk r (List.mem_cons_of_mem _ hr)) h2
      have z := hk r List.mem_cons_self
      show kv :: l2 = (.inr r.2.1, .int r.2.2) :: colsD t
      rw [e]
      congr 1
      exact Prod.ext (h1.1.trans z.1) (h1.2.trans z.2)
theorem paired_rows {ts : List TRow} {R : V → V → Prop} {S : TRow → V → Prop} {key : V → Key} : (∀ r ∈ ts, key (tv r) = .inr r.2.1 ∧ ∀ v, R (tv r) v → S r v) → ∀ {kvs : List (Key × V)}, Paired (fun x (kv : Key × V) => kv.1 = key x ∧ R x kv.2) (ts.map tv) kvs →
    Paired (fun (r : TRow) (kv : Key × V) => kv.1 = .inr r.2.1 ∧ S r kv.2) ts kvs := by
  induction ts with
  | nil => intro _ kvs h; cases h; exact .nil
  | cons r t ih =>
    intro hk kvs h
    rw [List.map_cons] at h
    cases h with
    | @cons a kv l1 l2 h1 h2 => exact .cons ⟨h1.1.trans (hk r List.mem_cons_self).1, (hk r List.mem_cons_self).2 _ h1.2⟩ (ih (fun r hr => hk r (List.mem_cons_of_mem _ hr)) h2)
/-- the class: its fields are no attributes of it -/
structure PlF (K : PySem.W.Frag) (C : Addr) : Prop where
  cl : Cls K C
  aC : NoAttr K C (Str.ofString "_columns")
  aT : NoAttr K C (Str.ofString "_tables")
  aS : NoAttr K C (Str.ofString "_sizes")
  aP : NoAttr K C (Str.ofString "_spans")
  aH : NoAttr K C (Str.ofString "_shapes")
/-- a dict comprehension over a list or a tuple -/
theorem dcE {K : PySem.W.Frag} {b : Addr} {i : Nat} {xs : List V} {g : TG} {tt : TT} {tk tv : TE} {vs : List Nat} {σ : L2.St} {H1 : Hp} {Q : VK} (hb : Sq H1 b xs) (hσ : σ[i]? = some (some (.ref b))) (hl : xs.length < sizeLine) (f : V → Key) (nd : (xs.map f).Nodup)
    (R : V → V → Hp → Prop) (mono : ∀ x v H H', Imm H H' → R x v H → R x v H')
    (hs : ∀ x H (Q1 : V → V → Hp → Prop) (Q2 : Hp → Prop), x ∈ xs → Same H1 H → (∀ v H5, Same H H5 → R x v H5 → Q1 (kV (f x)) v H5) →
      g x (wipe σ vs) H fun σ2 H2 => wipe σ2 vs = wipe σ vs ∧ tt σ2 H2 fun b H3 => if b = true then tk σ2 H3 (fun y H4 => tv σ2 H4 fun z H5 => Q1 y z H5) else Q2 H3)
    (hd : ∀ D H' kvs, Same H1 H' → H' D = some (.dK kvs) → Paired (fun x kv => kv.1 = f x ∧ R x kv.2 H') xs kvs → Q (.ref D) H') :
    tDc (fun σ H R => iList K (tVar i) σ H R ∨ iTup K (tVar i) σ H R) g tt tk tv vs σ H1 Q := by
  rcases hb with hb | hb
  · exact .inl ⟨_, hσ, b, rfl, ⟨_, lof hb⟩, fun D hD => dc_same walk_list rfl (Same.refl H1) hD (fun H e => lof (e _ _ hb)) hl f nd R mono hs fun H' ks s' h1 h2 => hd D H' ks s' h1 h2⟩
  · exact .inr ⟨_, hσ, b, rfl, ⟨_, tof hb⟩, fun D hD => dc_same walk_tup rfl (Same.refl H1) hD (fun H e => tof (e _ _ hb)) hl f nd R mono hs fun H' ks s' h1 h2 => hd D H' ks s' h1 h2⟩
theorem paired_shapes {ts : List TRow} {g : V → V} {key : V → Key} : (∀ r ∈ ts, key (tv r) = .inr r.2.1 ∧ g (tv r) = .ref r.2.2.1) → ∀ {kvs : List (Key × V)}, Paired (fun x (kv : Key × V) => kv.1 = key x ∧ kv.2 = g x) (ts.map tv) kvs → kvs = shapesD ts := by
  induction ts with
  | nil => intro _ kvs h; cases h; rfl
  | cons r t ih =>
    intro hk kvs h
    rw [List.map_cons] at h
    cases h with
    | @cons a kv l1 l2 h1 h2 =>
      have e := ih (fun r hr => hk r (List.mem_cons_of_mem _ hr)) h2
      have z := hk r List.mem_cons_self
      show kv :: l2 = (.inr r.2.1, .ref r.2.2.1) :: shapesD t
      rw [e]
      congr 1
      exact Prod.ext (h1.1.trans z.1) (h1.2.trans z.2)
theorem TabsOk.detA {H : Hp} {cs : List Str} {ts : List TRow} (ok : TabsOk H cs ts) : ∀ r ∈ ts, ∀ r' ∈ ts, r.1 = r'.1 → r.2.2.1 = r'.2.2.1 := fun r hr r' hr' e => by rw [ok.det r hr r' hr' e]
section
variable {P : Program} {w : World} {K : PySem.W.Frag} {mg : Str → Option Value} {base : Heap}

def spInit (K : PySem.W.Frag) (C : Addr) : Sp := fun vs H Q _ => ∃ (p dx a b : Addr) (cs : List CRow) (ts : List TRow), vs = [.ref p, .ref a, .ref b] ∧ H p = some (.ins C dx []) ∧ Sq H a (cs.map cv) ∧ Sq H b (ts.map tv) ∧ ColsOk H cs ∧ TabsOk H (cs.map (·.2.1)) ts ∧
  ∀ H', (∀ c o, c ≠ p → H c = some o → H' c = some o) → PlanAt H' C p cs ts → Q .non H'
abbrev scSpans : Scope := { kind := .function, names := [(".0", .local), ("name", .local), ("names", .local), ("tuple", .globalImplicit), ("self", .free)], isGenerator := false, isCoroutine := false }
abbrev nInit : List Str := ["self", "columns", "tables", "name", "many", "names", "column"]
theorem sc_init : FnScope nInit ["self", "columns", "tables"] (defScope s_init) := ⟨rfl, rfl, rfl, by decide +kernel, rfl, by decide +kernel, by decide +kernel⟩
theorem ok_init {f fc ft C : Addr} {fd dc dt : FuncData} (F : Fun K "__init__" "Plan.__init__" s_init f fd) (T : Bi mg) (L : PlF K C)
    (Dc : Df K mg "are_columns" s_are_columns ["thing"] fc dc) (Gc : FnOk P w K mg base CX0 3 fc dc ["thing"] (spColumns K)) (Dt : Df K mg "are_tables" s_are_tables ["thing", "columns"] ft dt) (Gt : FnOk P w K mg base CX0 3 ft dt ["thing", "columns"] (spTables K)) :
    FnOk P w K mg base CX0 4 f fd ["self", "columns", "tables"] (spInit K C) := by
  refine F.ok sc_init (fun vs H Q E h => ?_) (fun cdv A outer s H vs Q E hr h => ?_)
  · obtain ⟨p, dx, a, b, cs, ts, rfl, _⟩ := h; rfl
  · obtain ⟨p, dx, a, b, cs, ts, rfl, hp, ha, hb, okc, okt, q⟩ := h
    have ht := T.tuple
    refine ⟨_, pss_cons (ps_if (pt_not (pt_val (pcall Dc Gc hr (pa_cons (pv 1) pa_nil)))) (pss_one ps_dead) pss_nil)
      (pss_cons (ps_if (pt_not (pt_val (pcall Dt Gt hr (pa_cons (pv 2) (pa_cons (pv 1) pa_nil))))) (pss_one ps_dead) pss_nil)
      (pss_cons (ps_fld (pv 0) (tupK K (pv 1)) rfl) (pss_cons (ps_fld (pv 0) (tupK K (pv 2)) rfl)
      (pss_cons (ps_fld (pv 0) (pe_dc (own := [("name", 3), ("many", 4)]) (g := gTup K 2 (gCons (gName 3) (gCons (gName 4) gNil))) (tt := tYes) rfl sc_init.nd (pi_either (piL K (pv 1)) (piT K (pv 1)))
          (blkOk_by (N := nInit) (sc := defScope s_init) (by decide +kernel)) (fun _ _ _ _ _ => pgT K (pg_tup rfl (pgs_cons (pg_name (i := 3) sc_init.nd rfl (Or.inl rfl)) (pgs_cons (pg_name (i := 4) sc_init.nd rfl (Or.inl rfl)) pgs_nil))))
          (fun _ _ _ _ _ => pts_nil) (fun _ _ _ _ _ => pv 3) (fun _ _ _ _ _ => pv 4)) rfl)
      (pss_cons (ps_fld (pv 0) (pe_dc (own := [("name", 3), ("names", 5)]) (g := gTup K 2 (gCons (gName 3) (gCons (gName 5) gNil))) (tt := tYes) rfl sc_init.nd (pi_either (piL K (pv 2)) (piT K (pv 2)))
          (blkOk_by (N := nInit) (sc := defScope s_init) (by decide +kernel)) (fun _ _ _ _ _ => pgT K (pg_tup rfl (pgs_cons (pg_name (i := 3) sc_init.nd rfl (Or.inl rfl)) (pgs_cons (pg_name (i := 5) sc_init.nd rfl (Or.inl rfl)) pgs_nil))))
          (fun _ _ _ _ _ => pts_nil) (fun _ _ _ _ _ => pv 3) (fun _ _ _ _ _ => pv 5)) rfl)
      (pss_one (ps_fld (pv 0) (pe_dc (own := [("name", 3), ("names", 5)]) (g := gTup K 2 (gCons (gName 3) (gCons (gName 5) gNil))) (tt := tYes) rfl sc_init.nd (pi_either (piL K (pv 2)) (piT K (pv 2)))
          (blkOk_by (N := nInit) (sc := defScope s_init) (by decide +kernel)) (fun _ _ _ _ _ => pgT K (pg_tup rfl (pgs_cons (pg_name (i := 3) sc_init.nd rfl (Or.inl rfl)) (pgs_cons (pg_name (i := 5) sc_init.nd rfl (Or.inl rfl)) pgs_nil))))
          (fun _ _ _ _ _ => pts_nil) (fun _ _ _ _ _ => pv 3)
          (fun _ _ _ _ _ => tupK K (pe_lc (own := [("column", 6)]) (g := gName 6) (tt := tYes) rfl sc_init.nd (piT K (pv 5)) (blkOk_by (N := nInit) (sc := relS scSpans (defScope s_init)) (by decide +kernel)) (fun _ _ _ _ _ => pg_name (i := 6) sc_init.nd rfl (Or.inl rfl))
            (fun _ _ _ _ _ => pts_nil) (fun _ _ _ _ _ => pe_dget (hu_of hr) (fldK K (pv 0)) (pv 6) (fun _ _ => rfl))))) rfl))))))), ?_⟩
    refine ⟨_, rfl, a, cs, rfl, ha, okc, fun H1 s1 => ⟨true, rfl, iteF ?_⟩⟩
    refine ⟨_, rfl, _, rfl, b, a, ts, cs, rfl, hb.same s1, ha.same s1, okc.same s1, okt.same s1, fun H2 s2 => ⟨true, rfl, iteF ?_⟩⟩
    have s12 := s1.trans s2
    -- what stands for good
    have sB : Same (As.rem H p) H2 := same_rem.trans s12
    have bp : As.rem H p p = none := rem_self
    have aB := ha.rem hp
    have bB := hb.rem hp
    have cB := okc.rem hp
    have tB := okt.rem hp
    have p2 := s12 _ _ hp
    generalize hBe : As.rem H p = B at sB bp aB bB cB tB
    -- self._columns, self._tables
    refine ⟨_, rfl, kTup_seq (aB.same sB) fun ct H3 s3 hct => ?_⟩
    refine ⟨_, rfl, p, C, dx, [], rfl, s3 _ _ p2, L.cl, L.aC, by decide, ?_⟩
    have ct3 := ne_ins (s3 _ _ p2) hct (fun _ _ _ z => nomatch z)
    have sB4 : Same B (upd H3 p (.ins C dx (putF (Str.ofString "_columns") (.ref ct) []))) := same_mut (sB.trans s3) bp
    have hct4 : (upd H3 p (.ins C dx (putF (Str.ofString "_columns") (.ref ct) []))) ct = some (.tup (cs.map cv)) := by rw [upd_ne ct3]; exact hct
    have p4 : (upd H3 p (.ins C dx (putF (Str.ofString "_columns") (.ref ct) []))) p = some (.ins C dx (putF (Str.ofString "_columns") (.ref ct) [])) := upd_same
    generalize (upd H3 p (.ins C dx (putF (Str.ofString "_columns") (.ref ct) []))) = H4 at sB4 hct4 p4 ⊢
    refine ⟨_, rfl, kTup_seq (bB.same sB4) fun tt H5 s5 htt => ?_⟩
    refine ⟨_, rfl, p, C, dx, _, rfl, s5 _ _ p4, L.cl, L.aT, Nat.lt_of_le_of_lt (pfl (Nat.le_refl 0)) (by decide), ?_⟩
    have tt5 := ne_ins (s5 _ _ p4) htt (fun _ _ _ z => nomatch z)
    have sB6 : Same B (upd H5 p (.ins C dx (putF (Str.ofString "_tables") (.ref tt) (putF (Str.ofString "_columns") (.ref ct) [])))) := same_mut (sB4.trans s5) bp
    have hct6 : (upd H5 p (.ins C dx (putF (Str.ofString "_tables") (.ref tt) (putF (Str.ofString "_columns") (.ref ct) [])))) ct = some (.tup (cs.map cv)) := by rw [upd_ne ct3]; exact s5 _ _ hct4
    have htt6 : (upd H5 p (.ins C dx (putF (Str.ofString "_tables") (.ref tt) (putF (Str.ofString "_columns") (.ref ct) [])))) tt = some (.tup (ts.map tv)) := by rw [upd_ne tt5]; exact htt
    have p6 : (upd H5 p (.ins C dx (putF (Str.ofString "_tables") (.ref tt) (putF (Str.ofString "_columns") (.ref ct) [])))) p = some (.ins C dx (putF (Str.ofString "_tables") (.ref tt) (putF (Str.ofString "_columns") (.ref ct) []))) := upd_same
    generalize (upd H5 p (.ins C dx (putF (Str.ofString "_tables") (.ref tt) (putF (Str.ofString "_columns") (.ref ct) [])))) = H6 at sB6 hct6 htt6 p6 ⊢
    have c6 := cB.same sB6
    have smallC : (cs.map cv).length < sizeLine := by rw [List.length_map]; exact Nat.lt_of_le_of_lt okc.len.2 (by decide)
    have smallT : (ts.map tv).length < sizeLine := by rw [List.length_map]; exact Nat.lt_of_le_of_lt okt.len.2 (by decide)
    have keyAt : ∀ r ∈ cs, rowFn cs (·.1) (fun r => (Sum.inr r.2.1 : Key)) (.inl 0) (cv r) = .inr r.2.1 := fun r hr => rowFn_at (fun r hr r' hr' e => by rw [okc.det r hr r' hr' e]) hr
    have valAt : ∀ r ∈ cs, rowFn cs (·.1) (fun r => V.int r.2.2) .non (cv r) = .int r.2.2 := fun r hr => rowFn_at (fun r hr r' hr' e => by rw [okc.det r hr r' hr' e]) hr
    have keyT : ∀ r ∈ ts, rowFn ts (·.1) (fun r => (Sum.inr r.2.1 : Key)) (.inl 0) (tv r) = .inr r.2.1 := fun r hr => rowFn_at (fun r hr r' hr' e => by rw [okt.det r hr r' hr' e]) hr
    have spanT : ∀ r ∈ ts, rowFn ts (·.1) (fun r => spanVs cs r) [] (tv r) = spanVs cs r := fun r hr => rowFn_at (fun r hr r' hr' e => by unfold spanVs; rw [okt.det r hr r' hr' e]) hr
    have ndC : ((cs.map cv).map (rowFn cs (·.1) (fun r => (Sum.inr r.2.1 : Key)) (.inl 0))).Nodup := by
      have e : (cs.map cv).map (rowFn cs (·.1) (fun r => (Sum.inr r.2.1 : Key)) (.inl 0)) = (cs.map (·.2.1)).map Sum.inr := by
        rw [List.map_map, List.map_map]; exact List.map_congr_left keyAt
      rw [e]; exact nodup_key okc.nd
    have ndT : ((ts.map tv).map (rowFn ts (·.1) (fun r => (Sum.inr r.2.1 : Key)) (.inl 0))).Nodup := by
      have e : (ts.map tv).map (rowFn ts (·.1) (fun r => (Sum.inr r.2.1 : Key)) (.inl 0)) = (ts.map (·.2.1)).map Sum.inr := by
        rw [List.map_map, List.map_map]; exact List.map_congr_left keyT
      rw [e]; exact nodup_key okt.nd
    have valT : ∀ r ∈ ts, rowFn ts (·.1) (fun r => V.ref r.2.2.1) .non (tv r) = .ref r.2.2.1 := fun r hr => rowFn_at (fun r hr r' hr' e => by rw [okt.det r hr r' hr' e]) hr
    -- self._sizes
    dsimp only [tSeq, sFld]
    refine dcE (K := K) (i := 1) (σ := L2.start nInit [.ref p, .ref a, .ref b]) (aB.same sB6) rfl smallC _ ndC (fun x v H => v = rowFn cs (·.1) (fun r => V.int r.2.2) .non x) (fun _ _ _ _ _ h => h) (fun x H7 Q1 Q2 hx s7 k => ?_) (fun sz H7 ks s7 hsz hks => ?_)
    · obtain ⟨r, hr, rfl⟩ := List.mem_map.mp hx
      refine ⟨r.1, _, rfl, tof (s7 _ _ (c6.row r hr)), rfl, _, _, rfl, _, _, rfl, rfl, rfl, ?_⟩
      refine iteT (B := Q2 H7) ⟨_, rfl, _, rfl, ?_⟩
      have key : kV (rowFn cs (·.1) (fun r => (Sum.inr r.2.1 : Key)) (.inl 0) (cv r)) = V.str r.2.1 := by rw [keyAt r hr]; rfl
      rw [← key]
      exact k _ _ (Same.refl _) (valAt r hr).symm
    rw [paired_cols (cs0 := cs) (f := fun x => x) (fun r hr => ⟨keyAt r hr, valAt r hr⟩) hks] at hsz
    refine ⟨_, rfl, p, C, dx, _, rfl, s7 _ _ p6, L.cl, L.aS, Nat.lt_of_le_of_lt (pfl (pfl (Nat.le_refl 0))) (by decide), ?_⟩
    have z7 := ne_ins (s7 _ _ p6) hsz (fun _ _ _ z => nomatch z)
    have sB8 : Same B (upd H7 p (.ins C dx (pf3 ct tt sz))) := same_mut (sB6.trans s7) bp
    have hct8 : (upd H7 p (.ins C dx (pf3 ct tt sz))) ct = some (.tup (cs.map cv)) := by rw [upd_ne ct3]; exact s7 _ _ hct6
    have htt8 : (upd H7 p (.ins C dx (pf3 ct tt sz))) tt = some (.tup (ts.map tv)) := by rw [upd_ne tt5]; exact s7 _ _ htt6
    have hsz8 : (upd H7 p (.ins C dx (pf3 ct tt sz))) sz = some (.dK (colsD cs)) := by rw [upd_ne z7]; exact hsz
    have p8 : (upd H7 p (.ins C dx (pf3 ct tt sz))) p = some (.ins C dx (pf3 ct tt sz)) := upd_same
    have e8 : upd H7 p (.ins C dx (putF (Str.ofString "_sizes") (.ref sz) (putF (Str.ofString "_tables") (.ref tt) (putF (Str.ofString "_columns") (.ref ct) [])))) = upd H7 p (.ins C dx (pf3 ct tt sz)) := rfl
    rw [e8]
    generalize (upd H7 p (.ins C dx (pf3 ct tt sz))) = H8 at sB8 hct8 htt8 hsz8 p8 ⊢
    -- self._shapes
    have t8 := tB.same sB8
    refine dcE (K := K) (i := 2) (σ := L2.start nInit [.ref p, .ref a, .ref b]) (bB.same sB8) rfl smallT _ ndT (fun x v H => v = rowFn ts (·.1) (fun r => V.ref r.2.2.1) .non x) (fun _ _ _ _ _ h => h) (fun x H9 Q1 Q2 hx s9 k => ?_) (fun sh H9 ks9 s9 hsh hks9 => ?_)
    · obtain ⟨r, hr, rfl⟩ := List.mem_map.mp hx
      refine ⟨r.1, _, rfl, tof (s9 _ _ (t8.row r hr)), rfl, _, _, rfl, _, _, rfl, rfl, rfl, ?_⟩
      refine iteT (B := Q2 H9) ⟨_, rfl, _, rfl, ?_⟩
      have key : kV (rowFn ts (·.1) (fun r => (Sum.inr r.2.1 : Key)) (.inl 0) (tv r)) = V.str r.2.1 := by rw [keyT r hr]; rfl
      rw [← key]
      exact k _ _ (Same.refl _) (valT r hr).symm
    rw [paired_shapes (fun r hr => ⟨keyT r hr, valT r hr⟩) hks9] at hsh
    refine ⟨_, rfl, p, C, dx, _, rfl, s9 _ _ p8, L.cl, L.aH, Nat.lt_of_le_of_lt (pfl (pfl (pfl (Nat.le_refl 0)))) (by decide), ?_⟩
    have z9 := ne_ins (s9 _ _ p8) hsh (fun _ _ _ z => nomatch z)
    have z8 := ne_ins p8 hsz8 (fun _ _ _ z => nomatch z)
    have sBA : Same B (upd H9 p (.ins C dx (pf4 ct tt sz sh))) := same_mut (sB8.trans s9) bp
    have hctA : (upd H9 p (.ins C dx (pf4 ct tt sz sh))) ct = some (.tup (cs.map cv)) := by rw [upd_ne ct3]; exact s9 _ _ hct8
    have httA : (upd H9 p (.ins C dx (pf4 ct tt sz sh))) tt = some (.tup (ts.map tv)) := by rw [upd_ne tt5]; exact s9 _ _ htt8
    have hszA : (upd H9 p (.ins C dx (pf4 ct tt sz sh))) sz = some (.dK (colsD cs)) := by rw [upd_ne z8]; exact s9 _ _ hsz8
    have hshA : (upd H9 p (.ins C dx (pf4 ct tt sz sh))) sh = some (.dK (shapesD ts)) := by rw [upd_ne z9]; exact hsh
    have pA : (upd H9 p (.ins C dx (pf4 ct tt sz sh))) p = some (.ins C dx (pf4 ct tt sz sh)) := upd_same
    have eA : upd H9 p (.ins C dx (putF (Str.ofString "_shapes") (.ref sh) (pf3 ct tt sz))) = upd H9 p (.ins C dx (pf4 ct tt sz sh)) := rfl
    rw [eA]
    generalize (upd H9 p (.ins C dx (pf4 ct tt sz sh))) = HA at sBA hctA httA hszA hshA pA ⊢
    -- self._spans
    have tA := tB.same sBA
    refine dcE (K := K) (i := 2) (σ := L2.start nInit [.ref p, .ref a, .ref b]) (bB.same sBA) rfl smallT _ ndT (fun x v H => ∃ q, v = V.ref q ∧ H q = some (.tup (rowFn ts (·.1) (fun r => spanVs cs r) [] x))) (fun x v H H' e ⟨q, h1, h2⟩ => ⟨q, h1, e _ _ h2⟩) (fun x H9 Q1 Q2 hx s9 k => ?_) (fun sp H9 ks s9 hsp hks => ?_)
    · obtain ⟨r, hr, rfl⟩ := List.mem_map.mp hx
      have t9 := tA.same s9
      refine ⟨r.1, _, rfl, tof (t9.row r hr), rfl, _, _, rfl, _, _, rfl, rfl, rfl, ?_⟩
      refine iteT (B := Q2 H9) ⟨_, rfl, ?_⟩
      have hq := t9.prt r hr
      have key : kV (rowFn ts (·.1) (fun r => (Sum.inr r.2.1 : Key)) (.inl 0) (tv r)) = V.str r.2.1 := by rw [keyT r hr]; rfl
      refine ⟨_, rfl, r.2.2.1, rfl, ⟨_, tof hq⟩, fun D hD => lc_same (B := H9) walk_tup rfl (Same.refl H9) hD (fun H e => tof (e _ _ hq)) (by rw [List.length_map]; exact Nat.lt_of_le_of_lt (okt.two r hr).2 (by decide))
        (fun y => match y with | .str c => some (sizeV cs c) | _ => none) (fun y H10 Q3 Q4 hy s10 k1 k2 => ?_) (fun H10 s10 hD10 => ?_)⟩
      · obtain ⟨c, hc, rfl⟩ := List.mem_map.mp hy
        refine ⟨rfl, ?_⟩
        refine iteT (B := Q4 H10) ?_
        obtain ⟨v, hv⟩ := valV_cols (okt.own r hr c hc)
        have sv : sizeV cs c = v := by unfold sizeV; rw [hv]; rfl
        refine ⟨_, rfl, p, C, dx, _, _, rfl, s10 _ _ (s9 _ _ pA), L.cl, L.aS, pf4_S, _, rfl, sz, v, rfl, ?_, k1 v _ (by show some (sizeV cs c) = _; rw [sv]) (Same.refl _)⟩
        have g := DGet.k (k := Sum.inr c) (s10 _ _ (s9 _ _ hszA))
        rw [hv] at g
        exact g
      · refine kTup_seq (.inl hD10) fun q H11 s11 hq11 => ?_
        rw [← key]
        refine k _ _ (s10.trans s11) ⟨q, rfl, ?_⟩
        rw [hq11, spanT r hr]
        congr 2
        rw [List.filterMap_map]
        unfold spanVs
        rw [← filterMap_some]; rfl
    refine ⟨_, rfl, p, C, dx, _, rfl, s9 _ _ pA, L.cl, L.aP, Nat.lt_of_le_of_lt (pfl (pfl (pfl (pfl (Nat.le_refl 0))))) (by decide), q _ (fun c o hc e => ?_) ?_⟩
    · rw [upd_ne hc]
      exact (sBA.trans s9) _ _ (by rw [← hBe, rem_ne hc]; exact e)
    · have p9 := s9 _ _ pA
      have up : ∀ {c : Addr} {o : HO}, H9 c = some o → (∀ C dx fs, o ≠ .ins C dx fs) → (upd H9 p (.ins C dx (pf ct tt sz sp sh))) c = some o := fun {c o} h n => by rw [upd_ne (ne_ins p9 h n)]; exact h
      refine ⟨dx, ct, tt, sz, sp, sh, ks, upd_same, up (s9 _ _ hctA) (fun _ _ _ z => nomatch z), up (s9 _ _ httA) (fun _ _ _ z => nomatch z), up (s9 _ _ hszA) (fun _ _ _ z => nomatch z), up hsp (fun _ _ _ z => nomatch z), up (s9 _ _ hshA) (fun _ _ _ z => nomatch z), ?_⟩
      refine paired_rows (R := fun x v => ∃ q, v = .ref q ∧ H9 q = some (.tup (rowFn ts (·.1) (fun r => spanVs cs r) [] x))) (S := fun r v => ∃ q, v = .ref q ∧ (upd H9 p (.ins C dx (pf ct tt sz sp sh))) q = some (.tup (spanVs cs r))) (fun r hr => ⟨keyT r hr, fun v hv => ?_⟩) hks
      obtain ⟨q, e, hq⟩ := hv
      rw [spanT r hr] at hq
      exact ⟨q, e, up hq (fun _ _ _ z => nomatch z)⟩
end
end As

/-! ## B6 -/
namespace As
open PySem PySem.Spec PyProof.Rows L2
theorem dk_get {H : Hp} {d : Addr} {kvs : List (Key × V)} {z : Str} (h : H d = some (.dK kvs)) : DGet H d (.str z) (valV kvs (.inr z)) := DGet.k (k := Sum.inr z) h
section
variable {P : Program} {w : World} {K : PySem.W.Frag} {mg : Str → Option Value} {base : Heap}
/-- a value of another type than str -/
def NoStr (K : PySem.W.Frag) (H : Hp) (x : V) : Prop := ∃ t, TyX K H x t ∧ PySem.W.kitOne K t (.type "str") = some false
def spSizeOf (K : PySem.W.Frag) (C : Addr) : Sp := fun vs H Q _ => ∃ (p : Addr) (x : V) (cs : List CRow) (ts : List TRow), vs = [.ref p, x] ∧ PlanAt H C p cs ts ∧ ((∃ z, x = .str z ∧ Q (sizeV cs z) H) ∨ (NoStr K H x ∧ Q .non H))
/-- the row of a table -/
def tabOf (ts : List TRow) (z : Str) : Option TRow := ts.find? fun r => decide (r.2.1 = z)
theorem paired_find {ts : List TRow} {S : TRow → V → Prop} {z : Str} : ∀ {kvs : List (Key × V)}, Paired (fun (r : TRow) (kv : Key × V) => kv.1 = .inr r.2.1 ∧ S r kv.2) ts kvs →
    (tabOf ts z = none ∧ valV kvs (.inr z) = none) ∨ ∃ r v, tabOf ts z = some r ∧ valV kvs (.inr z) = some v ∧ S r v := by
  induction ts with
  | nil => intro kvs h; cases h; exact .inl ⟨rfl, rfl⟩
  | cons r t ih =>
    intro kvs h
    cases h with
    | @cons a kv l1 l2 h1 h2 =>
      obtain ⟨k, v⟩ := kv
      obtain ⟨rfl, hv⟩ := h1
      by_cases e : r.2.1 = z
      · refine .inr ⟨r, v, ?_, ?_, hv⟩
        · unfold tabOf; rw [List.find?_cons]; simp [e]
        · unfold valV; rw [List.find?_cons]; simp [e]
      · have e1 : tabOf (r :: t) z = tabOf t z := by unfold tabOf; rw [List.find?_cons]; simp [e]
        have e2 : valV ((.inr r.2.1, v) :: l2) (.inr z : Key) = valV l2 (.inr z) := by
          unfold valV; rw [List.find?_cons]
          have : ¬ ((.inr r.2.1 : Key) = .inr z) := fun q => e (by injection q)
          simp [this]
        rw [e1, e2]
        exact ih h2
def spSpans (K : PySem.W.Frag) (C : Addr) : Sp := fun vs H Q _ => ∃ (p : Addr) (x : V) (cs : List CRow) (ts : List TRow), vs = [.ref p, x] ∧ PlanAt H C p cs ts ∧
  ((∃ z, x = .str z ∧ (tabOf ts z = none → Q .non H) ∧ ∀ r q, tabOf ts z = some r → H q = some (.tup (spanVs cs r)) → Q (.ref q) H) ∨ (NoStr K H x ∧ Q .non H))
theorem sc_spans : FnScope ["self", "table"] ["self", "table"] (defScope s_spans) := ⟨rfl, rfl, rfl, by decide +kernel, rfl, by decide +kernel, by decide +kernel⟩
theorem ok_spans {f C : Addr} {fd : FuncData} (F : Fun K "spans" "Plan.spans" s_spans f fd) (T : Bi mg) (L : PlF K C) : FnOk P w K mg base CX0 1 f fd ["self", "table"] (spSpans K C) := by
  refine F.ok sc_spans (fun vs H Q E h => ?_) (fun cdv A outer s H vs Q E hr h => ?_)
  · obtain ⟨p, x, cs, ts, rfl, _⟩ := h; rfl
  · obtain ⟨p, x, cs, ts, rfl, ⟨dx, ct, tt, sz, sp, sh, ks, h1, h2, h3, h4, h5, hs, h6⟩, q⟩ := h
    refine ⟨_, pss_cons (ps_if (pt_not (pt_val (pe_callB call_isi (by rfl) T.isinst (by decide +kernel) (pa_cons (pv 1) (pa_cons (pe_bltn (v := .ty "str") (by rfl) T.str (by decide +kernel) rfl) pa_nil))))) (pss_one (ps_ret pe_non)) pss_nil)
      (pss_one (ps_ret (pe_dget1 (hu_of hr) (pe_fld (pv 0) rfl) (pv 1) ⟨rfl, rfl, rfl, rfl⟩))), ?_⟩
    rcases q with ⟨z, rfl, q0, q1⟩ | ⟨⟨t, ty, k⟩, q⟩
    · refine ⟨_, rfl, _, _, _, _, true, rfl, .ty "str", .base (.str z), kstr_str, true, rfl, iteF ?_⟩
      refine ⟨_, rfl, p, C, dx, _, _, rfl, h1, L.cl, L.aP, pf_P, sp, rfl, .inl ⟨_, .inl h5⟩, _, rfl, _, dk_get h5, ?_⟩
      rcases paired_find (z := z) (S := fun r v => ∃ q, v = .ref q ∧ H q = some (.tup (spanVs cs r))) h6 with ⟨e1, e2⟩ | ⟨r, v, e1, e2, q, rfl, hq⟩
      · rw [e2]; exact q0 e1
      · rw [e2]; exact q1 r q e1 hq
    · exact ⟨_, rfl, _, _, t, _, false, rfl, .ty "str", ty, k, false, rfl, iteT q⟩

/-- the number of sides of a table, or None -/
def sidesV (ts : List TRow) (z : Str) : V := match tabOf ts z with | some r => .int (r.2.2.2.length : Nat) | none => .non
def spSides (K : PySem.W.Frag) (C : Addr) : Sp := fun vs H Q _ => ∃ (p : Addr) (x : V) (cs : List CRow) (ts : List TRow), vs = [.ref p, x] ∧ PlanAt H C p cs ts ∧ ((∃ z, x = .str z ∧ Q (sidesV ts z) H) ∨ (NoStr K H x ∧ Q .non H))
end
end As

/-! ## A6 -/
namespace As
open PySem PySem.Spec PyProof.Rows L2
theorem name_ok {z : Str} (h : nameB z = true) : PyData.strOk z = true := by
  unfold nameB at h
  rw [Bool.and_eq_true] at h
  have h2 := h.2
  rw [List.all_eq_true] at h2
  unfold PyData.strOk
  rw [Array.all_eq_true_iff_forall_mem]
  intro c hc
  have h3 := h2 c (Array.mem_toList_iff.mpr hc)
  unfold letter at h3
  rw [Bool.and_eq_true] at h3
  have h4 := of_decide_eq_true h3.2
  exact decide_eq_true (by omega)
def colD (c : Str × Int) : PyData := .tuple [.str c.1, .int c.2]
def tabD (c : Str × List Str) : PyData := .tuple [.str c.1, .tuple (c.2.map .str)]
section
open PyData
theorem strs_lay : ∀ {xs : List Str}, (∀ x ∈ xs, strOk x = true) → canLayAll0 (xs.map .str) = true
  | [], _ => by simp [canLayAll0]
  | x :: xs, h => by
    have h1 := strs_lay fun y hy => h y (List.mem_cons_of_mem _ hy)
    have h2 := h x List.mem_cons_self
    simp [canLayAll0, canLay0, h1, h2]
theorem strs_depth : ∀ {xs : List Str}, depthAll (xs.map .str) = 0
  | [] => by simp [depthAll]
  | x :: xs => by simp [depthAll, depth, strs_depth (xs := xs)]
theorem cols_lay : ∀ {xs : List (Str × Int)}, (∀ x ∈ xs, strOk x.1 = true) → canLayAll0 (xs.map colD) = true
  | [], _ => by simp [canLayAll0]
  | x :: xs, h => by
    have h1 := cols_lay fun y hy => h y (List.mem_cons_of_mem _ hy)
    have h2 := h x List.mem_cons_self
    simp [canLayAll0, canLay0, colD, h2] at h1 ⊢
    exact h1
theorem cols_depth : ∀ {xs : List (Str × Int)}, depthAll (xs.map colD) ≤ 1
  | [] => by simp [depthAll]
  | x :: xs => by
    have h1 := cols_depth (xs := xs)
    have h2 : depth (colD x) = 1 := by simp [depth, depthAll, colD]
    simp only [List.map_cons, depthAll]
    omega
theorem tabs_lay : ∀ {xs : List (Str × List Str)}, (∀ x ∈ xs, strOk x.1 = true ∧ ∀ y ∈ x.2, strOk y = true) → canLayAll0 (xs.map tabD) = true
  | [], _ => by simp [canLayAll0]
  | x :: xs, h => by
    have h1 := tabs_lay fun y hy => h y (List.mem_cons_of_mem _ hy)
    have h2 := h x List.mem_cons_self
    have h3 := strs_lay h2.2
    have e : canLay0 (tabD x) = true := by
      show canLay0 (.tuple [.str x.1, .tuple (x.2.map .str)]) = true
      simp only [canLay0, canLayAll0, h2.1, h3, Bool.and_true]
    simp only [List.map_cons, canLayAll0, e, h1, Bool.and_true]
theorem tabs_depth : ∀ {xs : List (Str × List Str)}, depthAll (xs.map tabD) ≤ 2
  | [] => by simp [depthAll]
  | x :: xs => by
    have h1 := tabs_depth (xs := xs)
    have h2 : depth (tabD x) ≤ 2 := by
      have h3 := strs_depth (xs := x.2)
      show depth (.tuple [.str x.1, .tuple (x.2.map .str)]) ≤ 2
      simp only [depth, depthAll, h3]
      omega
    simp only [List.map_cons, depthAll]
    omega
theorem shaped_tup {ds : List PyData} (h1 : canLayAll0 ds = true) (h2 : depthAll ds ≤ 2) : SeqAt.shaped (.tuple ds) = true := by
  show (canLay0 (.tuple ds) && decide (depth (.tuple ds) ≤ 64)) = true
  rw [Bool.and_eq_true]
  exact ⟨by simp only [canLay0]; exact h1, decide_eq_true (by simp only [depth]; omega)⟩
theorem shaped_lst {ds : List PyData} (h1 : canLayAll0 ds = true) (h2 : depthAll ds ≤ 2) : SeqAt.shaped (.list ds) = true := by
  show (canLay0 (.list ds) && decide (depth (.list ds) ≤ 64)) = true
  rw [Bool.and_eq_true]
  exact ⟨by simp only [canLay0]; exact h1, decide_eq_true (by simp only [depth]; omega)⟩
theorem eqvAll_dec {α : Type} [DecidableEq α] {f : α → PyData} (h : ∀ a b, eqv (f a) (f b) = decide (a = b)) : ∀ {xs ys : List α}, eqvAll (xs.map f) (ys.map f) = decide (xs = ys)
  | [], [] => by simp [eqvAll]
  | [], _ :: _ => by simp [eqvAll]
  | _ :: _, [] => by simp [eqvAll]
  | x :: xs, y :: ys => by
    simp only [List.map_cons, eqvAll, h, eqvAll_dec h]
    by_cases e : x = y
    · subst e; simp
    · simp [e]
theorem eqv_str (a b : Str) : eqv (.str a) (.str b) = decide (a = b) := by
  simp only [eqv]
  by_cases h : a = b
  · subst h; simp
  · rw [decide_eq_false h]; exact beq_eq_false_iff_ne.mpr h
theorem eqv_col (a b : Str × Int) : eqv (colD a) (colD b) = decide (a = b) := by
  obtain ⟨x, i⟩ := a
  obtain ⟨y, j⟩ := b
  have e : eqv (colD (x, i)) (colD (y, j)) = (eqv (.str x) (.str y) && ((i == j) && true)) := by simp only [colD, eqv, eqvAll]
  rw [e, eqv_str]
  by_cases h : x = y
  · subst h
    by_cases h2 : i = j
    · subst h2; simp
    · simp [h2]
  · simp [h]
theorem eqv_tab (a b : Str × List Str) : eqv (tabD a) (tabD b) = decide (a = b) := by
  obtain ⟨x, xs⟩ := a
  obtain ⟨y, ys⟩ := b
  have e : eqv (tabD (x, xs)) (tabD (y, ys)) = (eqv (.str x) (.str y) && (eqvAll (xs.map .str) (ys.map .str) && true)) := by simp only [tabD, eqv, eqvAll]
  rw [e, eqv_str, eqvAll_dec eqv_str]
  by_cases h : x = y
  · subst h
    by_cases h2 : xs = ys
    · subst h2; simp
    · simp [h2]
  · simp [h]
theorem eqv_tup {α : Type} [DecidableEq α] {f : α → PyData} (h : ∀ a b, eqv (f a) (f b) = decide (a = b)) {xs ys : List α} : eqv (.tuple (xs.map f)) (.tuple (ys.map f)) = decide (xs = ys) := by
  simp only [eqv]; exact eqvAll_dec h
theorem eqv_lst {α : Type} [DecidableEq α] {f : α → PyData} (h : ∀ a b, eqv (f a) (f b) = decide (a = b)) {xs ys : List α} : eqv (.list (xs.map f)) (.list (ys.map f)) = decide (xs = ys) := by
  simp only [eqv]; exact eqvAll_dec h
end
section
variable {K : PySem.W.Frag} {H : Hp}
theorem dp_strs : ∀ {xs : List Str}, DpAll K H (xs.map V.str) (xs.map .str)
  | [] => .nil
  | x :: _ => .cons (.str x) dp_strs
theorem dp_cols : ∀ {cs : List CRow}, (∀ r ∈ cs, H r.1 = some (.tup [.str r.2.1, .int r.2.2])) → DpAll K H (cs.map cv) ((cs.map (·.2)).map colD)
  | [], _ => .nil
  | r :: _, h => .cons (.tup (tof (h r List.mem_cons_self)) (.cons (.str _) (.cons (.int _) .nil))) (dp_cols fun x hx => h x (List.mem_cons_of_mem _ hx))
def tkey (r : TRow) : Str × List Str := (r.2.1, r.2.2.2)
theorem dp_tabs : ∀ {ts : List TRow}, (∀ r ∈ ts, H r.1 = some (.tup [.str r.2.1, .ref r.2.2.1])) → (∀ r ∈ ts, H r.2.2.1 = some (.tup (r.2.2.2.map V.str))) → DpAll K H (ts.map tv) ((ts.map tkey).map tabD)
  | [], _, _ => .nil
  | r :: _, h, h2 => .cons (.tup (tof (h r List.mem_cons_self)) (.cons (.str _) (.cons (.tup (tof (h2 r List.mem_cons_self)) dp_strs) .nil))) (dp_tabs (fun x hx => h x (List.mem_cons_of_mem _ hx)) fun x hx => h2 x (List.mem_cons_of_mem _ hx))
theorem cols_ok {cs : List CRow} (ok : ColsOk H cs) : PyData.canLayAll0 ((cs.map (·.2)).map colD) = true := cols_lay fun x hx => by
  obtain ⟨r, hr, rfl⟩ := List.mem_map.mp hx
  exact name_ok (ok.nm r hr)
theorem tabs_ok {cs : List CRow} {ts : List TRow} (okc : ColsOk H cs) (ok : TabsOk H (cs.map (·.2.1)) ts) : PyData.canLayAll0 ((ts.map tkey).map tabD) = true := tabs_lay fun x hx => by
  obtain ⟨r, hr, rfl⟩ := List.mem_map.mp hx
  refine ⟨name_ok (ok.nm r hr), fun y hy => ?_⟩
  obtain ⟨c, hc, rfl⟩ := List.mem_map.mp (ok.own r hr y hy)
  exact name_ok (okc.nm c hc)
/-- two tuples of columns, two lists of columns, compared -/
theorem cmp_colsT {cs cs' : List CRow} {a b : Addr} {Q : VK} (h : H a = some (.tup (cs.map cv))) (h' : H b = some (.tup (cs'.map cv))) (ok : ColsOk H cs) (ok' : ColsOk H cs') (q : Q (.bl (decide (cs.map (·.2) = cs'.map (·.2)))) H) : rEqD K (.ref a) (.ref b) H Q :=
  ⟨_, _, .tup (tof h) (dp_cols ok.row), .tup (tof h') (dp_cols ok'.row), shaped_tup (cols_ok ok) (Nat.le_trans cols_depth (by decide)), shaped_tup (cols_ok ok') (Nat.le_trans cols_depth (by decide)), by rw [eqv_tup eqv_col]; exact q⟩
theorem cmp_tabsT {cs cs' : List CRow} {ts ts' : List TRow} {a b : Addr} {Q : VK} (h : H a = some (.tup (ts.map tv))) (h' : H b = some (.tup (ts'.map tv))) (okc : ColsOk H cs) (okc' : ColsOk H cs') (ok : TabsOk H (cs.map (·.2.1)) ts) (ok' : TabsOk H (cs'.map (·.2.1)) ts')
    (q : Q (.bl (decide (ts.map tkey = ts'.map tkey))) H) : rEqD K (.ref a) (.ref b) H Q :=
  ⟨_, _, .tup (tof h) (dp_tabs ok.row ok.prt), .tup (tof h') (dp_tabs ok'.row ok'.prt), shaped_tup (tabs_ok okc ok) tabs_depth, shaped_tup (tabs_ok okc' ok') tabs_depth, by rw [eqv_tup eqv_tab]; exact q⟩
end
end As

/-! ## B6s -/
namespace As
open PySem PySem.Spec PyProof.Rows L2
section
variable {P : Program} {w : World} {K : PySem.W.Frag} {mg : Str → Option Value} {base : Heap}
theorem sc_size_of : FnScope ["self", "column"] ["self", "column"] (defScope s_size_of) := ⟨rfl, rfl, rfl, by decide +kernel, rfl, by decide +kernel, by decide +kernel⟩
theorem ok_size_of {f C : Addr} {fd : FuncData} (F : Fun K "size_of" "Plan.size_of" s_size_of f fd) (T : Bi mg) (L : PlF K C) : FnOk P w K mg base CX0 1 f fd ["self", "column"] (spSizeOf K C) := by
  refine F.ok sc_size_of (fun vs H Q E h => ?_) (fun cdv A outer s H vs Q E hr h => ?_)
  · obtain ⟨p, x, cs, ts, rfl, _⟩ := h; rfl
  · obtain ⟨p, x, cs, ts, rfl, ⟨dx, ct, tt, sz, sp, sh, ks, h1, h2, h3, h4, h5, hs, h6⟩, q⟩ := h
    refine ⟨_, pss_cons (ps_if (pt_not (pt_val (pe_callB call_isi (by rfl) T.isinst (by decide +kernel) (pa_cons (pv 1) (pa_cons (pe_bltn (v := .ty "str") (by rfl) T.str (by decide +kernel) rfl) pa_nil))))) (pss_one (ps_ret pe_non)) pss_nil)
      (pss_one (ps_ret (pe_dget1 (hu_of hr) (pe_fld (pv 0) rfl) (pv 1) ⟨rfl, rfl, rfl, rfl⟩))), ?_⟩
    rcases q with ⟨z, rfl, q⟩ | ⟨⟨t, ty, k⟩, q⟩
    · refine ⟨_, rfl, _, _, _, _, true, rfl, .ty "str", .base (.str z), kstr_str, true, rfl, iteF ?_⟩
      exact ⟨_, rfl, p, C, dx, _, _, rfl, h1, L.cl, L.aS, pf_S, sz, rfl, .inl ⟨_, .inl h4⟩, _, rfl, _, dk_get h4, q⟩
    · exact ⟨_, rfl, _, _, t, _, false, rfl, .ty "str", ty, k, false, rfl, iteT q⟩

end
end As

/-! ## B7p -/
namespace As
open PySem PySem.Spec PyProof.Rows L2
section
variable {P : Program} {w : World} {K : PySem.W.Frag} {mg : Str → Option Value} {base : Heap}
/-- the two properties -/
theorem sc_pcols : FnScope ["self"] ["self"] (defScope s_columns) := ⟨rfl, rfl, rfl, by decide +kernel, rfl, by decide +kernel, by decide +kernel⟩
theorem sc_ptabs : FnScope ["self"] ["self"] (defScope s_tables) := ⟨rfl, rfl, rfl, by decide +kernel, rfl, by decide +kernel, by decide +kernel⟩
theorem ok_pcols {f C : Addr} {fd : FuncData} (F : Fun K "columns" "Plan.columns" s_columns f fd) (L : PlF K C) : FnOk P w K mg base CX0 1 f fd ["self"] (getSp C (Str.ofString "_columns")) := by
  refine F.ok sc_pcols (fun vs H Q E h => ?_) (fun cdv A outer s H vs Q E hr h => ?_)
  · obtain ⟨a, dx, fs, v, rfl, _⟩ := h; rfl
  · obtain ⟨a, dx, fs, v, rfl, ea, l, q⟩ := h
    exact ⟨_, pss_one (ps_ret (pe_fld (pv 0) rfl)), _, rfl, a, C, dx, fs, v, rfl, ea, L.cl, L.aC, l, q⟩
theorem ok_ptabs {f C : Addr} {fd : FuncData} (F : Fun K "tables" "Plan.tables" s_tables f fd) (L : PlF K C) : FnOk P w K mg base CX0 1 f fd ["self"] (getSp C (Str.ofString "_tables")) := by
  refine F.ok sc_ptabs (fun vs H Q E h => ?_) (fun cdv A outer s H vs Q E hr h => ?_)
  · obtain ⟨a, dx, fs, v, rfl, _⟩ := h; rfl
  · obtain ⟨a, dx, fs, v, rfl, ea, l, q⟩ := h
    exact ⟨_, pss_one (ps_ret (pe_fld (pv 0) rfl)), _, rfl, a, C, dx, fs, v, rfl, ea, L.cl, L.aT, l, q⟩
end
end As

/-! ## B6t -/
namespace As
open PySem PySem.Spec PyProof.Rows L2
section
variable {P : Program} {w : World} {K : PySem.W.Frag} {mg : Str → Option Value} {base : Heap}
theorem sc_sides : FnScope ["self", "table", "spans"] ["self", "table"] (defScope s_sides) := ⟨rfl, rfl, rfl, by decide +kernel, rfl, by decide +kernel, by decide +kernel⟩
theorem ok_sides {f fs C : Addr} {fd ds : FuncData} (F : Fun K "sides" "Plan.sides" s_sides f fd) (T : Bi mg) (L : PlF K C) (Fs : Fun K "spans" "Plan.spans" s_spans fs ds) (bs : Binds K ds ["self", "table"] []) (ms : Meth K C "spans" fs) :
    FnOk P w K mg base CX0 2 f fd ["self", "table"] (spSides K C) := by
  have Gs : FnOk P w K mg base CX0 1 fs ds ["self", "table"] (spSpans K C) := ok_spans Fs T L
  refine F.ok sc_sides (fun vs H Q E h => ?_) (fun cdv A outer s H vs Q E hr h => ?_)
  · obtain ⟨p, x, cs, ts, rfl, _⟩ := h; rfl
  · obtain ⟨p, x, cs, ts, rfl, pl, q⟩ := h
    obtain ⟨dx, ct, tt, sz, sp, sh, ks, h1, _⟩ := id pl
    refine ⟨_, pss_cons (ps_set (i := 2) sc_sides.nd rfl (Or.inl rfl) (pe_meth (pv 0) L.cl ms Gs hr bs .nil pass0 (pa_cons (pv 1) pa_nil)))
      (pss_cons (ps_if (pt_cmp (pc_isN (pv 2))) (pss_one (ps_ret pe_non)) pss_nil)
      (pss_one (ps_ret (pe_callB call_len_seq (by rfl) T.len PySem.boot_len (pa_cons (pv 2) pa_nil))))), ?_⟩
    have no : (pf ct tt sz sp sh).lookup (Str.ofString "spans") = none := pf_no (by decide +kernel) (by decide +kernel) (by decide +kernel) (by decide +kernel) (by decide +kernel)
    refine ⟨_, rfl, p, dx, _, rfl, h1, no, _, rfl, p, x, cs, ts, rfl, pl, ?_⟩
    rcases q with ⟨z, rfl, q⟩ | ⟨ns, q⟩
    · refine .inl ⟨z, rfl, fun e => ?_, fun r a e ha => ?_⟩
      · refine ⟨_, rfl, true, rfl, iteT ?_⟩
        have z' : sidesV ts z = .non := by unfold sidesV; rw [e]
        rw [z'] at q
        exact q
      · refine ⟨_, rfl, false, rfl, iteF ⟨_, rfl, a, _, rfl, .inr (tof ha), ?_⟩⟩
        have z' : sidesV ts z = .int ((spanVs cs r).length : Nat) := by unfold sidesV; rw [e]; unfold spanVs; rw [List.length_map]
        rw [z'] at q
        exact q
    · exact .inr ⟨ns, _, rfl, true, rfl, iteT q⟩
end
end As

/-! ## B7 -/
namespace As
open PySem PySem.Spec PyProof.Rows L2
/-- isinstance of the class -/
structure IsC (K : PySem.W.Frag) (C : Addr) : Prop where
  ha : PySem.W.findIn K (.ref C) "__class__" = some (some (.builtin "object.__class__"))
  hn : PySem.W.specialIn K (.builtin "object.__class__") "__get__" = some (some (.builtin "getset_descriptor.__get__"))
  htk : PySem.W.takesIn K (.builtin "object.__class__") = some true
  hm : PySem.W.mroIn K C (.type "object") = some true
  lst : PySem.W.kitOne K (.type "list") (.ref C) = some false
theorem kit_self {K : PySem.W.Frag} {C : Addr} : PySem.W.kitOne K (.ref C) (.ref C) = some true := by
  unfold PySem.W.kitOne
  rw [if_pos (by simp)]
section
variable {P : Program} {w : World} {K : PySem.W.Frag} {mg : Str → Option Value} {base : Heap}
/-- two plans compared, or a plan and a list -/
def spEqP (C : Addr) : Sp := fun vs H Q _ => ∃ (p b : Addr) (cs : List CRow) (ts : List TRow), vs = [.ref p, .ref b] ∧ PlanAt H C p cs ts ∧ ColsOk H cs ∧ TabsOk H (cs.map (·.2.1)) ts ∧
  ((∃ cs' ts', PlanAt H C b cs' ts' ∧ ColsOk H cs' ∧ TabsOk H (cs'.map (·.2.1)) ts' ∧ Q (.bl (decide (cs.map (·.2) = cs'.map (·.2)) && decide (ts.map tkey = ts'.map tkey))) H) ∨ ((∃ zs, H b = some (.lst zs)) ∧ Q (.bl false) H))
theorem sc_eq : FnScope ["self", "other"] ["self", "other"] (defScope s_eq) := ⟨rfl, rfl, rfl, by decide +kernel, rfl, by decide +kernel, by decide +kernel⟩
theorem ok_eq {f C : Addr} {fd : FuncData} (F : Fun K "__eq__" "Plan.__eq__" s_eq f fd) (T : Bi mg) (L : PlF K C) (G : IsC K C) (hC : mg "Plan" = some (.ref C)) : FnOk P w K mg base CX0 1 f fd ["self", "other"] (spEqP C) := by
  refine F.ok sc_eq (fun vs H Q E h => ?_) (fun cdv A outer s H vs Q E hr h => ?_)
  · obtain ⟨p, b, cs, ts, rfl, _⟩ := h; rfl
  · obtain ⟨p, b, cs, ts, rfl, ⟨dx, ct, tt, sz, sp, sh, ks, h1, h2, h3, h4, h5, hs, h6⟩, okc, okt, q⟩ := h
    refine ⟨_, pss_one (ps_ret (pe_and (pe_callB call_isi (by rfl) T.isinst (by decide +kernel) (pa_cons (pv 1) (pa_cons (pe_glob (v := .ref C) rfl hC rfl) pa_nil)))
      (pe_and (pe_cmpR (op_eqD (hu64 hr)) (pe_fld (pv 0) rfl) (pe_fld (pv 1) rfl) (nomark _)) (pe_one (pe_cmpR (op_eqD (hu64 hr)) (pe_fld (pv 0) rfl) (pe_fld (pv 1) rfl) (nomark _)))))), ?_⟩
    rcases q with ⟨cs', ts', ⟨dx', ct', tt', sz', sp', sh', ks', g1, g2, g3, g4, g5, gs, g6⟩, okc', okt', q⟩ | ⟨⟨zs, hb⟩, q⟩
    · refine ⟨_, rfl, _, _, .ref C, _, true, rfl, .own C, .base (.ins g1 L.cl G.ha G.hn G.htk G.hm), kit_self, true, rfl, iteT ?_⟩
      refine ⟨_, rfl, p, C, dx, _, _, rfl, h1, L.cl, L.aC, pf_C, _, rfl, b, C, dx', _, _, rfl, g1, L.cl, L.aC, pf_C, cmp_colsT h2 g2 okc okc' ⟨_, rfl, ?_⟩⟩
      cases hd : decide (cs.map (·.2) = cs'.map (·.2)) with
      | false =>
        rw [hd] at q
        exact iteF q
      | true =>
        rw [hd, Bool.true_and] at q
        exact iteT ⟨_, rfl, p, C, dx, _, _, rfl, h1, L.cl, L.aT, pf_T, _, rfl, b, C, dx', _, _, rfl, g1, L.cl, L.aT, pf_T, cmp_tabsT h3 g3 okc okc' okt okt' q⟩
    · exact ⟨_, rfl, _, _, .type "list", _, false, rfl, .own C, .base (.lst hb), G.lst, false, rfl, iteF q⟩
end
end As

/-! ## A7 -/
namespace As
open PySem PySem.Spec PyProof.Rows L2 TL
theorem tl_len {z : Str} : z.length = (tl z).length := by show z.cps.size = z.cps.toList.length; rw [Array.length_toList]
theorem nameB_tl {z : Str} : nameB z = (decide (1 ≤ (tl z).length ∧ (tl z).length ≤ 8) && (tl z).all letter) := by
  unfold nameB; rw [tl_len]
theorem nameB_iff {z : Str} : nameB z = true ↔ (1 ≤ (tl z).length ∧ (tl z).length ≤ 8) ∧ ∀ c ∈ tl z, letter c = true := by
  rw [nameB_tl, Bool.and_eq_true, decide_eq_true_iff, List.all_eq_true]
def sg (c : Nat) : Str := ⟨#[c]⟩
theorem join_signs : ∀ cs : List Nat, tl (Txt.join (Str.ofString "") (cs.map sg)) = cs := fun cs => by
  rw [join_eq, tl_join]
  have e : tl (Str.ofString "") = [] := by decide +kernel
  rw [e]
  induction cs with
  | nil => rfl
  | cons c r ih =>
    cases r with
    | nil => rfl
    | cons d r =>
      show [c] ++ ([] ++ joinL [] ((List.map sg (d :: r)).map tl)) = c :: d :: r
      rw [ih]; rfl
theorem cut7 {z : Str} : tl (cutS z none (some 7)) = (tl z).take 7 := by
  unfold cutS
  show (((z.cps.toList.drop (HT.sIx z.length 0 none)).take (HT.sIx z.length z.length (some 7) - HT.sIx z.length 0 none)).toArray).toList = _
  rw [List.toList_toArray, HT.sIx_none, show (7 : Int) = ((7 : Nat) : Int) from rfl, HT.sIx_nat, List.drop_zero, Nat.sub_zero]
  by_cases h : 7 ≤ z.length
  · rw [Nat.min_eq_left h]
  · rw [Nat.min_eq_right (by omega), tl_len, List.take_length, List.take_of_length_le (by have := @tl_len z; omega)]
/-- z[:7] and one more sign -/
def longer (z : Str) (c : Nat) : Str := cutS z none (some 7) ++ sg c
theorem tl_longer {z : Str} {c : Nat} : tl (longer z c) = (tl z).take 7 ++ [c] := by
  unfold longer; rw [tl_append, cut7]; rfl
theorem longer_name {z : Str} {c : Nat} (h : nameB z = true) (hc : letter c = true) : nameB (longer z c) = true := by
  rw [nameB_iff] at h ⊢
  rw [tl_longer]
  refine ⟨?_, fun x hx => ?_⟩
  · rw [List.length_append, List.length_take]
    simp
    omega
  · rcases List.mem_append.mp hx with hx | hx
    · exact h.2 x (List.mem_of_mem_take hx)
    · rw [List.mem_singleton] at hx; rw [hx]; exact hc
theorem longer_inj {z : Str} {c d : Nat} (h : longer z c = longer z d) : c = d := by
  have e := congrArg tl h
  rw [tl_longer, tl_longer] at e
  have e2 := List.append_cancel_left e
  injection e2
theorem longer_len {z : Str} {c : Nat} : (longer z c).length ≤ 8 := by
  rw [tl_len, tl_longer, List.length_append, List.length_take]; simp; omega
def abc : Str := Str.ofString "abcdefghijklmnopqrstuvwxyz"
theorem abc_tl : tl abc = (List.range 26).map (· + 97) := by decide +kernel
theorem abc_letter : ∀ c ∈ tl abc, letter c = true := by decide +kernel
theorem abc_nodup : (tl abc).Nodup := by decide +kernel
theorem nodup_sub {α : Type} [DecidableEq α] : ∀ {xs ys : List α}, xs.Nodup → (∀ x ∈ xs, x ∈ ys) → xs.length ≤ ys.length
  | [], _, _, _ => Nat.zero_le _
  | x :: xs, ys, nd, h => by
    have n2 := List.nodup_cons.mp nd
    have ih := nodup_sub (ys := ys.erase x) n2.2 fun y hy => by
      have hne : y ≠ x := fun e => n2.1 (e ▸ hy)
      exact (List.mem_erase_of_ne hne).mpr (h y (List.mem_cons_of_mem _ hy))
    have hx := h x List.mem_cons_self
    rw [List.length_erase_of_mem hx] at ih
    have := List.length_pos_of_mem hx
    rw [List.length_cons]; omega
/-- of 27 words one is new -/
theorem some_new {z : Str} {fs : List Str} (h : fs.length < 26) : ∃ x r, (z :: (tl abc).map (longer z)).filter (fun y => !decide (y ∈ fs)) = x :: r ∧ x ∉ fs := by
  cases e : (z :: (tl abc).map (longer z)).filter (fun y => !decide (y ∈ fs)) with
  | cons x r =>
    have hx : x ∈ (z :: (tl abc).map (longer z)).filter (fun y => !decide (y ∈ fs)) := by rw [e]; exact List.mem_cons_self
    exact ⟨x, r, rfl, by have := (List.mem_filter.mp hx).2; simpa using this⟩
  | nil =>
    have all : ∀ x ∈ (tl abc).map (longer z), x ∈ fs := fun x hx => by
      have := List.filter_eq_nil_iff.mp e x (List.mem_cons_of_mem _ hx)
      simpa using this
    have nd : ((tl abc).map (longer z)).Nodup := by
      rw [List.Nodup, List.pairwise_map]
      exact abc_nodup.imp fun ne e => ne (longer_inj e)
    have l := nodup_sub nd all
    rw [List.length_map, abc_tl, List.length_map, List.length_range] at l
    omega
theorem new_name {z x : Str} {r fs : List Str} (hz : nameB z = true) (h : (z :: (tl abc).map (longer z)).filter (fun y => !decide (y ∈ fs)) = x :: r) : nameB x = true := by
  have hx : x ∈ (z :: (tl abc).map (longer z)).filter (fun y => !decide (y ∈ fs)) := by rw [h]; exact List.mem_cons_self
  rcases List.mem_cons.mp (List.mem_filter.mp hx).1 with e | e
  · rw [e]; exact hz
  · obtain ⟨c, hc, rfl⟩ := List.mem_map.mp e
    exact longer_name hz (abc_letter c hc)
end As

/-! ## B8 -/
namespace As
open PySem PySem.Spec PyProof.Rows L2
theorem dp_ints {K : PySem.W.Frag} {H : Hp} : ∀ {ns : List Int}, DpAll K H (ns.map V.int) (ns.map .int)
  | [] => .nil
  | n :: _ => .cons (.int n) dp_ints
theorem ints_lay : ∀ {ns : List Int}, PyData.canLayAll0 (ns.map .int) = true ∧ PyData.depthAll (ns.map .int) = 0
  | [] => by simp [PyData.canLayAll0, PyData.depthAll]
  | n :: ns => by
    have h := ints_lay (ns := ns)
    simp [PyData.canLayAll0, PyData.canLay0, PyData.depthAll, PyData.depth, h.1, h.2]
theorem ints_nil {ns : List Int} : PyData.eqv (.list (ns.map .int)) (.list []) = decide (ns = []) := by
  cases ns with
  | nil => simp [PyData.eqv, PyData.eqvAll]
  | cons n ns => simp [PyData.eqv, PyData.eqvAll]
theorem ixN_lt {n : Nat} {i : Int} (h0 : 0 ≤ i) (h1 : i < n) : ixN n i = some i.toNat := by
  unfold ixN; rw [if_pos h0, if_pos h1]
theorem atI_lt {α : Type} {xs : List α} {i : Int} {v : α} (h0 : 0 ≤ i) (h1 : i < xs.length) (h : xs[i.toNat]? = some v) : atI xs i = some v := by
  unfold atI; rw [ixN_lt h0 h1]; exact h
section
variable {P : Program} {w : World} {K : PySem.W.Frag} {mg : Str → Option Value} {base : Heap}
def spState (K : PySem.W.Frag) : Sp := fun vs H Q _ => ∃ (s : Addr) (ns : List Int), vs = [.ref s] ∧ SqL K H s (ns.map V.int) ∧ ns.length ≤ 63 ∧ ∀ a c H', Gd a c H H' → Q (.ref a) H'
abbrev nState : List Str := ["script", "cells", "cell"]
theorem sc_state : FnScope nState ["script"] (defScope s_state) := ⟨rfl, rfl, rfl, by decide +kernel, rfl, by decide +kernel, by decide +kernel⟩
theorem ok_state {f : Addr} {fd : FuncData} (D : Df K mg "_law_state" s_state ["script"] f fd) (T : Bi mg) : FnOk P w K mg base CX0 1 f fd ["script"] (spState K) := by
  refine D.F.ok sc_state (fun vs H Q E h => ?_) (fun cdv A outer s H vs Q E hr h => ?_)
  · obtain ⟨s, ns, rfl, _⟩ := h; rfl
  · obtain ⟨sa, ns, rfl, hs, hl, q⟩ := h
    refine ⟨_, pss_cons (ps_setLc (i := 1) (own := [("cell", 2)]) (g := gName 2) (tt := tYes) rfl sc_state.nd rfl rfl (sw_true rfl rfl rfl (by decide +kernel)) (pi_list (pe_slice sl_list (pv 0) po_none (po_some pe_int)))
        (blkOk_by (N := nState) (sc := defScope s_state) (by decide +kernel)) (fun _ _ _ _ _ => pg_name (i := 2) sc_state.nd rfl (Or.inl rfl)) (fun _ _ _ _ _ => pts_nil)
        (fun _ _ _ _ _ => pe_callB call_abs (by rfl) T.abs boot_abs (pa_cons (pv 2) pa_nil)))
      (pss_cons (ps_if (pt_cmpR (op_eqD (hu64 hr)) (pv 1) (pe_lst pa_nil) (nomark _)) (pss_one (ps_set (i := 1) sc_state.nd rfl (Or.inl rfl) (pe_lst (pa_cons pe_int pa_nil)))) pss_nil)
      (pss_one (ps_ret (pe_lst (pa_cons (pv 1) (pa_cons pe_int (pa_cons pe_int pa_nil))))))), ?_⟩
    have fin : ∀ (c : Addr) (ms : List Int) (H1 : Hp), Same H H1 → H c = none → H1 c = some (.lst (ms.map V.int)) → 0 < ms.length → ms.length ≤ 63 → ∀ a, H1 a = none → Q (.ref a) (upd H1 a (.lst [.ref c, .int 0, .int 1])) := by
      intro c ms H1 s1 nc hc h0 h1 a na
      have nac : a ≠ c := (ne_of_none hc na).symm
      refine q a c _ ⟨same_new' s1 na, s1.free na, nc, 0, 1, ms, nac, upd_same, by rw [upd_ne nac.symm]; exact hc, h0, h1, by decide, by decide⟩
    refine ⟨_, rfl, 63, rfl, sa, _, rfl, hs, fun p np => ⟨p, rfl, ⟨_, lof upd_same⟩, fun D hD => ?_⟩⟩
    have cut : cutV (ns.map V.int) none (some 63) = ns.map V.int := by
      unfold cutV
      rw [HT.sIx_none, show (63 : Int) = ((63 : Nat) : Int) from rfl, HT.sIx_nat, List.length_map]
      rw [List.drop_zero, Nat.min_eq_right hl, Nat.sub_zero, List.take_of_length_le (by rw [List.length_map]; exact Nat.le_refl _)]
    have s1 : Same H (upd H p (.lst (cutV (ns.map V.int) none (some 63)))) := same_new np
    rw [cut] at s1
    have hp : (upd H p (.lst (cutV (ns.map V.int) none (some 63)))) p = some (.lst (ns.map V.int)) := by rw [upd_same, cut]
    have nD := hD
    rw [cut] at hD ⊢
    rw [cut] at hp
    generalize upd H p (.lst (ns.map V.int)) = H1 at s1 hp hD ⊢
    refine lc_same (B := H1) walk_list rfl (Same.refl H1) hD (fun H e => lof (e _ _ hp)) (by rw [List.length_map]; exact Nat.lt_of_le_of_lt hl (by decide)) (fun x => match x with | .int i => some (.int (if i < 0 then -i else i)) | _ => none) (fun x H2 Q1 Q2 hx s2 k1 k2 => ?_) (fun H2 s2 hD2 => ?_)
    · obtain ⟨n, hn, rfl⟩ := List.mem_map.mp hx
      refine ⟨rfl, ?_⟩
      refine iteT (B := Q2 H2) ?_
      exact ⟨_, rfl, n, rfl, k1 _ _ rfl (Same.refl _)⟩
    · have e2 : H2 D = some (.lst ((ns.map fun i => if i < 0 then -i else i).map V.int)) := by
        rw [hD2]; congr 2
        rw [List.filterMap_map, List.map_map, ← filterMap_some]; rfl
      have nDH : H D = none := s1.free hD
      refine ⟨_, rfl, by decide, fun z nz => ?_⟩
      have s3 := same_new (o := .lst ([] : List V)) nz
      refine ⟨_, _, .lst (lof (s3 _ _ e2)) dp_ints, .lst (lof upd_same) .nil, shaped_lst ints_lay.1 (by rw [ints_lay.2]; decide), shaped_lst (by simp [PyData.canLayAll0]) (by simp [PyData.depthAll]), ?_⟩
      rw [ints_nil]
      refine ⟨_, rfl, ?_⟩
      have s4 := (s1.trans s2).trans s3
      refine ite2 (fun h => ?_) (fun h => ?_)
      · refine ⟨by decide, fun c nc => ?_⟩
        refine ⟨_, rfl, by show 3 ≤ sizeLine; decide, fun a na => ?_⟩
        exact fin c [1] _ (same_new' s4 nc) (s4.free nc) upd_same (by decide) (by decide) a na
      · refine ⟨_, rfl, by show 3 ≤ sizeLine; decide, fun a na => ?_⟩
        refine fin D _ _ s4 nDH (s3 _ _ e2) ?_ (by rw [List.length_map]; exact hl) a na
        have hne : ¬ (ns.map fun i => if i < 0 then -i else i) = [] := fun e => h (decide_eq_true e)
        exact List.length_pos_iff.mpr hne

/-- a draw below n -/
def spDraw : Sp := fun vs H Q _ => ∃ (a c : Addr) (n : Int), vs = [.ref a, .int n] ∧ StAt H a c ∧ 0 < n ∧ n < 1073741824 ∧ ∀ r H', 0 ≤ r → r < n → StAt H' a c → Fr a c H H' → Q (.int r) H'
abbrev nDraw : List Str := ["state", "size_most", "at", "cells", "cell"]
theorem sc_draw : FnScope nDraw ["state", "size_most"] (defScope s_draw) := ⟨rfl, rfl, rfl, by decide +kernel, rfl, by decide +kernel, by decide +kernel⟩
theorem ok_draw {f : Addr} {fd : FuncData} (D : Df K mg "_law_draw" s_draw ["state", "size_most"] f fd) (T : Bi mg) : FnOk P w K mg base CX0 1 f fd ["state", "size_most"] spDraw := by
  refine D.F.ok sc_draw (fun vs H Q E h => ?_) (fun cdv A outer s H vs Q E hr h => ?_)
  · obtain ⟨a, c, n, rfl, _⟩ := h; rfl
  · obtain ⟨a, c, n, rfl, ⟨i, h, cs, nac, ha, hc, c0, c63, h0, hm⟩, n0, n30, q⟩ := h
    refine ⟨_, pss_cons (ps_set (i := 2) sc_draw.nd rfl (Or.inl rfl) (pe_op op_mod (pe_ix ix_list (pv 0) pe_int (fun _ _ => rfl)) (pe_callB call_len_seq (by rfl) T.len PySem.boot_len (pa_cons (pe_ix ix_list (pv 0) pe_int (fun _ _ => rfl)) pa_nil))))
      (pss_cons (ps_set (i := 3) sc_draw.nd rfl (Or.inl rfl) (pe_ix ix_list (pv 0) pe_int (fun _ _ => rfl)))
      (pss_cons (ps_set (i := 4) sc_draw.nd rfl (Or.inl rfl) (pe_ix ix_list (pv 3) (pv 2) (fun _ _ => rfl)))
      (pss_cons (ps_if (pt_cmpR op_ge (pv 4) (pe_op op_pow pe_int pe_int) (nomark _))
        (pss_cons (ps_asg (pe_op op_fdivW (pv 4) (pv 1)) (pg_sub (pv 3) (pv 2) set_list (fun _ => rfl))) (pss_one (ps_ret (pe_op op_mod (pv 4) (pv 1))))) pss_nil)
      (pss_cons (ps_asg (pe_op op_add (pe_ix ix_list (pv 0) pe_int (fun _ _ => rfl)) pe_int) (pg_sub (pv 0) pe_int set_list (fun _ => rfl)))
      (pss_cons (ps_asg (pe_op op_mod (pe_op op_add (pe_op op_add (pe_op op_mul (pe_ix ix_list (pv 0) pe_int (fun _ _ => rfl)) pe_int) (pv 4)) pe_int) pe_int) (pg_sub (pv 0) pe_int set_list (fun _ => rfl)))
      (pss_one (ps_ret (pe_op op_mod (pe_op op_fdiv (pe_op op_mod (pe_op op_mul (pe_ix ix_list (pv 0) pe_int (fun _ _ => rfl)) (pe_ix ix_list (pv 0) pe_int (fun _ _ => rfl))) pe_int) pe_int) (pv 1))))))))), ?_⟩
    have lpos : (0 : Int) < ((cs.map V.int).length : Nat) := by rw [List.length_map]; omega
    have m0 : 0 ≤ i % ((cs.map V.int).length : Nat) := Int.emod_nonneg _ (by omega)
    have m1 : i % ((cs.map V.int).length : Nat) < ((cs.map V.int).length : Nat) := Int.emod_lt_of_pos _ lpos
    refine ⟨_, rfl, a, _, 1, .int i, rfl, rfl, lof ha, rfl, _, rfl, a, _, 0, .ref c, rfl, rfl, lof ha, rfl, c, _, rfl, .inl (lof hc), i, _, rfl, rfl, lpos, ?_⟩
    refine ⟨_, rfl, a, _, 0, .ref c, rfl, rfl, lof ha, rfl, ?_⟩
    let j := i % ((cs.map V.int).length : Nat)
    have jl : j.toNat < cs.length := by have m2 : j < ((cs.map V.int).length : Nat) := m1; rw [List.length_map] at m2; have m3 : 0 ≤ j := m0; omega
    have hget : (cs.map V.int)[j.toNat]? = some (.int cs[j.toNat]) := by rw [List.getElem?_map, List.getElem?_eq_getElem jl]; rfl
    obtain ⟨z, hz⟩ : ∃ z, cs[j.toNat] = z := ⟨_, rfl⟩
    rw [hz] at hget
    refine ⟨_, rfl, _, rfl, c, _, j, .int z, rfl, rfl, lof hc, atI_lt m0 m1 hget, ?_⟩
    refine ⟨_, rfl, 10, 18, rfl, rfl, ⟨by decide, by decide, by decide⟩, z, _, rfl, rfl, _, rfl, ?_⟩
    refine ite2 (fun _ => ?_) (fun _ => ?_)
    · -- a large cell gives its last digit
      refine ⟨_, rfl, _, rfl, z, n, rfl, rfl, wide_div n0 (b := 30) (by omega) (by decide) (by decide), _, rfl, _, rfl, c, _, j, _, rfl, rfl, hc, ixN_lt m0 m1, ?_⟩
      refine ⟨_, rfl, _, rfl, z, n, rfl, rfl, n0, q _ _ (Int.emod_nonneg _ (by omega)) (Int.emod_lt_of_pos _ n0) ⟨i, h, cs.set j.toNat (z / n), nac, by rw [upd_ne nac]; exact ha, ?_, by rw [List.length_set]; exact c0, by rw [List.length_set]; exact c63, h0, hm⟩ fun b o _ nb e => by rw [upd_ne nb]; exact e⟩
      rw [upd_same, List.map_set]
    · refine ⟨_, rfl, a, _, 1, .int i, rfl, rfl, lof ha, rfl, i, 1, rfl, rfl, _, rfl, a, _, 1, 1, rfl, rfl, ha, rfl, ?_⟩
      refine ⟨_, rfl, a, _, 2, .int h, rfl, rfl, lof upd_same, rfl, h, 48271, rfl, rfl, .inr ⟨by decide, by decide⟩, _, rfl, _, z, rfl, rfl, _, 12345, rfl, rfl, _, 2147483647, rfl, rfl, (show (0 : Int) < 2147483647 by decide), ?_⟩
      have g0 : 0 ≤ (h * 48271 + z + 12345) % 2147483647 := Int.emod_nonneg _ (by decide)
      have g1 : (h * 48271 + z + 12345) % 2147483647 < 2147483647 := Int.emod_lt_of_pos _ (by decide)
      let g := (h * 48271 + z + 12345) % 2147483647
      refine ⟨_, rfl, a, _, 2, 2, rfl, rfl, upd_same, rfl, ?_⟩
      refine ⟨_, rfl, a, _, 2, .int g, rfl, rfl, lof upd_same, rfl, _, rfl, a, _, 2, .int g, rfl, rfl, lof upd_same, rfl, g, g, rfl, rfl, .inl ⟨Int.lt_of_lt_of_le (by decide) g0, Int.lt_trans g1 (by decide)⟩, _, 2147483629, rfl, rfl, (show (0 : Int) < 2147483629 by decide), _, 16, rfl, rfl, ⟨by decide, by decide⟩, _, rfl, _, n, rfl, rfl, n0, ?_⟩
      refine q _ _ (Int.emod_nonneg _ (by omega)) (Int.emod_lt_of_pos _ n0) ⟨i + 1, g, cs, nac, upd_same, by rw [upd_ne nac.symm, upd_ne nac.symm]; exact hc, c0, c63, g0, g1⟩ fun b o na _ e => by rw [upd_ne na, upd_ne na]; exact e
end
end As

/-! ## B9 -/
namespace As
open PySem PySem.Spec PyProof.Rows L2
section
variable {P : Program} {w : World} {K : PySem.W.Frag} {mg : Str → Option Value} {base : Heap}
def spPick : Sp := fun vs H Q _ => ∃ (a c : Addr) (x : V), vs = [.ref a, x] ∧ StAt H a c ∧
  ((∃ (s : Addr) (xs : List V), x = .ref s ∧ s ≠ a ∧ s ≠ c ∧ H s = some (.lst xs) ∧ 0 < xs.length ∧ xs.length < 1000000 ∧ ∀ v H', v ∈ xs → StAt H' a c → Fr a c H H' → Q v H') ∨
   ∃ z : Str, x = .str z ∧ 0 < z.length ∧ z.length < 1000000 ∧ ∀ (k : Nat) H', k ∈ z.cps.toList → StAt H' a c → Fr a c H H' → Q (.str ⟨#[k]⟩) H')
theorem sc_pick : FnScope ["state", "some"] ["state", "some"] (defScope s_pick) := ⟨rfl, rfl, rfl, by decide +kernel, rfl, by decide +kernel, by decide +kernel⟩
theorem ok_pick {f fd' : Addr} {fd dd : FuncData} (D : Df K mg "_law_pick" s_pick ["state", "some"] f fd) (T : Bi mg) (Dd : Df K mg "_law_draw" s_draw ["state", "size_most"] fd' dd) (Gd' : FnOk P w K mg base CX0 1 fd' dd ["state", "size_most"] spDraw) :
    FnOk P w K mg base CX0 2 f fd ["state", "some"] spPick := by
  refine D.F.ok sc_pick (fun vs H Q E h => ?_) (fun cdv A outer s H vs Q E hr h => ?_)
  · obtain ⟨a, c, x, rfl, _⟩ := h; rfl
  · obtain ⟨a, c, x, rfl, st, q⟩ := h
    refine ⟨_, pss_one (ps_ret (pe_ix ix_seq (pv 1) (pcall Dd Gd' hr (pa_cons (pv 0) (pa_cons (pe_callB call_len (by rfl) T.len PySem.boot_len (pa_cons (pv 1) pa_nil)) pa_nil))) (fun _ _ => rfl))), ?_⟩
    rcases q with ⟨s, xs, rfl, na, nc, hs, l0, l1, q⟩ | ⟨z, rfl, l0, l1, q⟩
    · refine ⟨_, rfl, _, rfl, _, rfl, _, _, rfl, .inl ⟨xs, lof hs, rfl⟩, a, c, (xs.length : Nat), rfl, st, by omega, by omega, fun r H' r0 r1 st' fr => ?_⟩
      have hi : r.toNat < xs.length := by omega
      exact .inl ⟨s, xs, r, xs[r.toNat], rfl, rfl, lof (fr _ _ na nc hs), atI_lt r0 r1 (List.getElem?_eq_getElem hi), q _ _ (List.getElem_mem hi) st' fr⟩
    · refine ⟨_, rfl, _, rfl, _, rfl, .str z, _, rfl, ⟨Nat.le_of_lt (Nat.lt_trans l1 (by decide)), rfl⟩, a, c, (z.length : Nat), rfl, st, by omega, by omega, fun r H' r0 r1 st' fr => ?_⟩
      have hi : r.toNat < z.cps.toList.length := by rw [Array.length_toList]; have := @str_len z; omega
      exact .inr (.inr ⟨z, r, z.cps.toList[r.toNat], rfl, rfl, Nat.le_of_lt (Nat.lt_trans l1 (by decide)), atI_lt r0 (by rw [Array.length_toList]; exact r1) (List.getElem?_eq_getElem hi), q _ _ (List.getElem_mem hi) st' fr⟩)

/-- plain data, not deep -/
def Plain (K : PySem.W.Frag) (B : Hp) (x : V) : Prop := ∃ d, Dp K B x d ∧ PyData.canLay0 d = true ∧ PyData.depth d ≤ 2
mutual
theorem dp_same {K : PySem.W.Frag} {H H' : Hp} (e : Same H H') : ∀ {v : V} {d : PyData}, Dp K H v d → Dp K H' v d
  | _, _, .non => .non
  | _, _, .bl b => .bl b
  | _, _, .int i => .int i
  | _, _, .str x => .str x
  | _, _, .lst h a => .lst (e.seq h) (dpAll_same e a)
  | _, _, .tup h a => .tup (same_t e h) (dpAll_same e a)
theorem dpAll_same {K : PySem.W.Frag} {H H' : Hp} (e : Same H H') : ∀ {vs : List V} {ds : List PyData}, DpAll K H vs ds → DpAll K H' vs ds
  | _, _, .nil => .nil
  | _, _, .cons h a => .cons (dp_same e h) (dpAll_same e a)
end
theorem plain_all {B : Hp} : ∀ {xs : List V}, (∀ x ∈ xs, Plain K B x) → ∃ ds, DpAll K B xs ds ∧ PyData.canLayAll0 ds = true ∧ PyData.depthAll ds ≤ 2
  | [], _ => ⟨[], .nil, by simp [PyData.canLayAll0], by simp [PyData.depthAll]⟩
  | x :: xs, h => by
    obtain ⟨ds, h1, h2, h3⟩ := plain_all fun y hy => h y (List.mem_cons_of_mem _ hy)
    obtain ⟨d, g1, g2, g3⟩ := h x List.mem_cons_self
    refine ⟨d :: ds, .cons g1 h1, ?_, ?_⟩
    · simp only [PyData.canLayAll0, g2, h2, Bool.and_self]
    · simp only [PyData.depthAll]; omega
theorem dpAll_len {B : Hp} : ∀ {xs : List V} {ds : List PyData}, DpAll K B xs ds → xs.length = ds.length
  | _, _, .nil => rfl
  | _, _, .cons _ a => by rw [List.length_cons, List.length_cons, dpAll_len a]
/-- xs != [] -/
theorem ne_nil {B H : Hp} {l e : Addr} {xs : List V} {Q : VK} (pl : ∀ x ∈ xs, Plain K B x) (s : Same B H) (h : H l = some (.lst xs)) (he : H e = some (.lst [])) (q : Q (.bl (!decide (xs = []))) H) : rNeD K (.ref l) (.ref e) H Q := by
  obtain ⟨ds, h1, h2, h3⟩ := plain_all pl
  refine ⟨_, _, .lst (lof h) (dpAll_same s h1), .lst (lof he) .nil, shaped_lst h2 h3, shaped_lst (by simp [PyData.canLayAll0]) (by simp [PyData.depthAll]), ?_⟩
  have hl := dpAll_len h1
  have e : PyData.eqv (.list ds) (.list []) = decide (xs = []) := by
    cases ds with
    | nil => cases xs with
      | nil => simp [PyData.eqv, PyData.eqvAll]
      | cons => simp at hl
    | cons => cases xs with
      | nil => simp at hl
      | cons => simp [PyData.eqv, PyData.eqvAll]
  rw [e]; exact q
theorem eq_nil {B H : Hp} {l e : Addr} {xs : List V} {Q : VK} (pl : ∀ x ∈ xs, Plain K B x) (s : Same B H) (h : H l = some (.lst xs)) (he : H e = some (.lst [])) (q : Q (.bl (decide (xs = []))) H) : rEqD K (.ref l) (.ref e) H Q := by
  obtain ⟨ds, h1, h2, h3⟩ := plain_all pl
  refine ⟨_, _, .lst (lof h) (dpAll_same s h1), .lst (lof he) .nil, shaped_lst h2 h3, shaped_lst (by simp [PyData.canLayAll0]) (by simp [PyData.depthAll]), ?_⟩
  have hl := dpAll_len h1
  have e : PyData.eqv (.list ds) (.list []) = decide (xs = []) := by
    cases ds with
    | nil => cases xs with
      | nil => simp [PyData.eqv, PyData.eqvAll]
      | cons => simp at hl
    | cons => cases xs with
      | nil => simp at hl
      | cons => simp [PyData.eqv, PyData.eqvAll]
  rw [e]; exact q
theorem seq_at {r : Int} {n : Nat} (h0 : 0 ≤ r) (h1 : r < n) : seqIndex? r n = some r.toNat := (ixN_seq (ixN_lt h0 h1)).1

theorem erase_perm {α : Type} : ∀ (xs : List α) (i : Nat) (h : i < xs.length), ([xs[i]] ++ xs.eraseIdx i).Perm xs
  | x :: xs, 0, _ => .refl _
  | x :: xs, i + 1, h => by
    have hi : i < xs.length := by simpa using h
    have ih := erase_perm xs i hi
    show (xs[i] :: x :: xs.eraseIdx i).Perm (x :: xs)
    exact (List.Perm.swap x xs[i] _).trans (ih.cons x)
def spMixed (K : PySem.W.Frag) : Sp := fun vs H Q _ => ∃ (a c s : Addr) (xs : List V) (B : Hp), vs = [.ref a, .ref s] ∧ Gd a c B H ∧ H s = some (.lst xs) ∧ xs.length ≤ 1000 ∧ (∀ x ∈ xs, Plain K B x) ∧
  ∀ p ys B' H', ys.Perm xs → Same B B' → Gd a c B' H' → H p = none → B' p = some (.lst ys) → Q (.ref p) H'
abbrev nMixed : List Str := ["state", "some", "left", "found"]
theorem sc_mixed : FnScope nMixed ["state", "some"] (defScope s_mixed) := ⟨rfl, rfl, rfl, by decide +kernel, rfl, by decide +kernel, by decide +kernel⟩
theorem ok_mixed {f fd' : Addr} {fd dd : FuncData} (D : Df K mg "_law_mixed" s_mixed ["state", "some"] f fd) (T : Bi mg) (Dd : Df K mg "_law_draw" s_draw ["state", "size_most"] fd' dd) (Gd' : FnOk P w K mg base CX0 1 fd' dd ["state", "size_most"] spDraw) :
    FnOk P w K mg base CX0 2 f fd ["state", "some"] (spMixed K) := by
  refine D.F.ok sc_mixed (fun vs H Q E h => ?_) (fun cdv A outer s H vs Q E hr h => ?_)
  · obtain ⟨a, c, s, xs, B, rfl, _⟩ := h; rfl
  · obtain ⟨a, c, s, xs, B, rfl, g, hs, hl, pl, q⟩ := h
    refine ⟨_, pss_cons (ps_par (i := 2) (j := 3) rfl sc_mixed.nd rfl rfl (by decide) rfl rfl (pa_cons (pe_callTy call_list_of (by rfl) T.list boot_list (pa_cons (pv 1) pa_nil)) (pa_cons (pe_lst pa_nil) pa_nil)) (by rfl))
      (pss_cons (ps_while PassesOwn.never (pt_cmpR (op_neD (hu64 hr)) (pv 2) (pe_lst pa_nil) (nomark _))
        (pss_one (ps_expr (pe_bm PySem.F.plainAttrs_list PySem.F.slot_list_append PySem.F.type_list_append mt_append (pv 3)
          (pa_cons (pe_bm PySem.F.plainAttrs_list PySem.F.slot_list_pop PySem.F.type_list_pop mt_popAt (pv 2) (pa_cons (pcall Dd Gd' hr (pa_cons (pv 0) (pa_cons (pe_callB call_len_seq (by rfl) T.len PySem.boot_len (pa_cons (pv 2) pa_nil)) pa_nil))) pa_nil)) pa_nil)))))
      (pss_one (ps_ret (pv 3)))), ?_⟩
    refine ⟨_, rfl, s, xs, rfl, .inl (lof hs), fun l nl => ⟨Nat.zero_le _, fun f nf => ⟨_, _, rfl, ?_⟩⟩⟩
    have g1 := g.new (o := .lst xs) nl
    have g2 := g1.new (o := .lst []) nf
    have nlf : l ≠ f := ne_of_none upd_same nf
    have nHf : H f = none := by rw [upd_ne nlf.symm] at nf; exact nf
    refine while_by (fun σ H' => ∃ ls fs, σ = [some (.ref a), some (.ref s), some (.ref l), some (.ref f)] ∧ Gd a c B H' ∧ H' l = some (.lst ls) ∧ H' f = some (.lst fs) ∧ (fs ++ ls).Perm xs)
      (fun σ H' => match H' l with | some (.lst ls) => ls.length | _ => 0) ⟨xs, [], rfl, g2, by rw [upd_ne nlf, upd_same], upd_same, .refl _⟩ ?_ ?_
    · rintro σ H' ⟨ls, fs, rfl, g', h1, h2, pm⟩
      have sub : ∀ x ∈ ls, x ∈ xs := fun x hx => pm.mem_iff.mp (List.mem_append_right _ hx)
      have len : fs.length + ls.length = xs.length := by rw [← List.length_append]; exact pm.length_eq
      refine ⟨_, rfl, Nat.zero_le _, fun e ne => ?_⟩
      have s3 : Same H' (upd H' e (.lst [])) := same_new ne
      refine ne_nil (fun x hx => pl x (sub x hx)) (g'.ex.trans s3) (s3 _ _ h1) upd_same ⟨_, rfl, ?_⟩
      have g3 := g'.same s3
      have k1 := s3 _ _ h1
      have k2 := s3 _ _ h2
      generalize upd H' e (.lst []) = H3 at g3 k1 k2 ⊢
      refine ite2 (fun hne => ?_) (fun hn => ?_)
      · have lne : ls ≠ [] := fun z => by rw [z] at hne; simp at hne
        have lpos : 0 < ls.length := List.length_pos_iff.mpr lne
        refine ⟨_, rfl, .inl ⟨rfl, _, lof k2⟩, _, rfl, .inl ⟨rfl, _, lof k1⟩, _, rfl, _, rfl, l, ls, rfl, .inl (lof k1), a, c, (ls.length : Nat), rfl, g3.st, by omega, by omega, fun r H4 r0 r1 st4 fr4 => ?_⟩
        have la := g.ne_a nl
        have lc := g.ne_c nl
        have fa := g.ne_a nHf
        have fc := g.ne_c nHf
        have k4 := fr4 _ _ la lc k1
        have k5 := fr4 _ _ fa fc k2
        have g4 := g3.fr fr4 st4
        have hi : r.toNat < ls.length := by omega
        refine ⟨l, ls, r, r.toNat, ls[r.toNat], rfl, rfl, k4, by omega, by omega, seq_at r0 r1, List.getElem?_eq_getElem hi, ?_⟩
        refine ⟨f, fs, _, rfl, rfl, by rw [upd_ne nlf.symm]; exact k5, Nat.lt_of_le_of_lt (show fs.length ≤ 1000 by omega) (by decide), ?_⟩
        have g5 := (g4.chg (o := .lst (ls.eraseIdx r.toNat)) (g.free nl) la lc).chg (o := .lst (fs ++ [ls[r.toNat]])) (g.free nHf) fa fc
        have e1 : (upd (upd H4 l (.lst (ls.eraseIdx r.toNat))) f (.lst (fs ++ [ls[r.toNat]]))) l = some (.lst (ls.eraseIdx r.toNat)) := by rw [upd_ne nlf, upd_same]
        refine ⟨⟨ls.eraseIdx r.toNat, fs ++ [ls[r.toNat]], rfl, g5, e1, upd_same, ?_⟩, ?_⟩
        · refine List.Perm.trans ?_ pm
          rw [List.append_assoc]
          refine List.Perm.append_left fs ?_
          exact erase_perm _ _ hi
        · show (match (upd (upd H4 l (.lst (ls.eraseIdx r.toNat))) f (.lst (fs ++ [ls[r.toNat]]))) l with | some (.lst ls) => ls.length | _ => 0) < (match H' l with | some (.lst ls) => ls.length | _ => 0)
          rw [e1, h1]
          show (ls.eraseIdx r.toNat).length < ls.length
          rw [List.length_eraseIdx, if_pos hi]; omega
      · have l0 : ls = [] := by
          cases ls with
          | nil => rfl
          | cons x t => exact absurd (by simp) hn
        subst l0
        rw [List.append_nil] at pm
        have fa := g.ne_a nHf
        have fc := g.ne_c nHf
        exact ⟨_, rfl, q f fs (upd B f (.lst fs)) H3 pm (same_new (g.free nHf)) (g3.know k2 fa fc) nHf upd_same⟩
    · rintro σ H' Q1 Q2 imp ⟨v, hv, sz, k⟩
      refine ⟨v, hv, sz, fun p np => ?_⟩
      obtain ⟨d, e, h1, h2, h3, h4, b, hb, q⟩ := k p np
      exact ⟨d, e, h1, h2, h3, h4, b, hb, imp _ _ q⟩
end
end As

/-! ## B10 -/
namespace As
open PySem PySem.Spec PyProof.Rows L2 TL
section
variable {P : Program} {w : World} {K : PySem.W.Frag} {mg : Str → Option Value} {base : Heap}
/-- distinct names -/
structure Names (ws : List Str) : Prop where
  nd : ws.Nodup
  nm : ∀ x ∈ ws, nameB x = true
def spNames : Sp := fun vs H Q _ => ∃ (a c : Addr) (n : Int) (B : Hp), vs = [.ref a, .int n] ∧ Gd a c B H ∧ 1 ≤ n ∧ n ≤ 8 ∧ ∀ p ws B' H', Same B B' → Gd a c B' H' → H p = none → B' p = some (.lst (ws.map V.str)) → ws.length = n.toNat → Names ws → Q (.ref p) H'
abbrev nNames : List Str := ["state", "size", "found", "letters", "k", "word", "some", "sign", "one"]
theorem sc_names : FnScope nNames ["state", "size"] (defScope s_names) := ⟨rfl, rfl, rfl, by decide +kernel, rfl, by decide +kernel, by decide +kernel⟩
theorem signs_sum : ∀ cs : List Nat, ((cs.map sg).map (·.length)).sum = cs.length
  | [] => rfl
  | c :: r => by rw [List.map_cons, List.map_cons, List.sum_cons, signs_sum r, List.length_cons]; show 1 + r.length = r.length + 1; omega
theorem menu_name {w1 : Str} (h : nameB w1 = true) {v : V} (hv : v ∈ [V.str w1, V.str w1, V.str w1, V.str (Str.ofString "column"), V.str (Str.ofString "table"), V.str (Str.ofString "fact"), V.str (Str.ofString "price"), V.str (Str.ofString "plan"), V.str (Str.ofString "a")]) : ∃ z, v = .str z ∧ nameB z = true := by
  simp only [List.mem_cons, List.not_mem_nil, or_false] at hv
  rcases hv with rfl | rfl | rfl | rfl | rfl | rfl | rfl | rfl | rfl
  · exact ⟨_, rfl, h⟩
  · exact ⟨_, rfl, h⟩
  · exact ⟨_, rfl, h⟩
  · exact ⟨_, rfl, by decide +kernel⟩
  · exact ⟨_, rfl, by decide +kernel⟩
  · exact ⟨_, rfl, by decide +kernel⟩
  · exact ⟨_, rfl, by decide +kernel⟩
  · exact ⟨_, rfl, by decide +kernel⟩
  · exact ⟨_, rfl, by decide +kernel⟩
theorem abc_len : 0 < abc.length ∧ abc.length < 1000000 := by decide +kernel
theorem ok_names {f fp fd' : Addr} {fd dp dd : FuncData} (D : Df K mg "_law_names" s_names ["state", "size"] f fd) (T : Bi mg) (Dd : Df K mg "_law_draw" s_draw ["state", "size_most"] fd' dd) (Gd' : FnOk P w K mg base CX0 1 fd' dd ["state", "size_most"] spDraw)
    (Dp : Df K mg "_law_pick" s_pick ["state", "some"] fp dp) (Gp : FnOk P w K mg base CX0 2 fp dp ["state", "some"] spPick) : FnOk P w K mg base CX0 3 f fd ["state", "size"] spNames := by
  refine D.F.ok sc_names (fun vs H Q E h => ?_) (fun cdv A outer s H vs Q E hr h => ?_)
  · obtain ⟨a, c, n, B, rfl, _⟩ := h; rfl
  · obtain ⟨a, c, n, B, rfl, g, n1, n8, q⟩ := h
    have hr1 : Room 1 _ := hr.mono (by decide)
    refine ⟨_, pss_cons (ps_asg (pe_tup (pa_cons (pe_lst pa_nil) (pa_cons pe_str pa_nil))) (pg_tup rfl (pgs_cons (pg_name (i := 2) sc_names.nd rfl (Or.inr rfl)) (pgs_cons (pg_name (i := 3) sc_names.nd rfl (Or.inr rfl)) pgs_nil))))
      (pss_cons (ps_for PassesOwn.never rfl (pi_range1 rfl T.range (pa_cons (pv 1) pa_nil)) (pg_name (i := 4) sc_names.nd rfl (Or.inl rfl))
        (pss_cons (ps_set (i := 5) sc_names.nd rfl (Or.inr rfl) (pe_join pe_str (pe_lc (own := [("sign", 7)]) (g := gName 7) (tt := tYes) rfl sc_names.nd (pi_range1 rfl T.range (pa_cons (pe_op op_add pe_int (pcall Dd Gd' hr1 (pa_cons (pv 0) (pa_cons pe_int pa_nil)))) pa_nil))
            (blkOk_by (N := nNames) (sc := defScope s_names) (by decide +kernel)) (fun _ _ _ _ _ => pg_name (i := 7) sc_names.nd rfl (Or.inl rfl)) (fun _ _ _ _ _ => pts_nil) (fun _ _ _ _ _ => pcall Dp Gp hr (pa_cons (pv 0) (pa_cons (pv 3) pa_nil))))))
        (pss_cons (ps_set (i := 5) sc_names.nd rfl (Or.inr rfl) (pcall Dp Gp hr (pa_cons (pv 0) (pa_cons (pe_lst (pa_cons (pv 5) (pa_cons (pv 5) (pa_cons (pv 5) (pa_cons pe_str (pa_cons pe_str (pa_cons pe_str (pa_cons pe_str (pa_cons pe_str (pa_cons pe_str pa_nil)))))))))) pa_nil))))
        (pss_cons (ps_set (i := 6) sc_names.nd rfl (Or.inl rfl) (pe_op op_cat (pe_lst (pa_cons (pv 5) pa_nil)) (pe_lc (own := [("sign", 7)]) (g := gName 7) (tt := tYes) rfl sc_names.nd (pi_str (pv 3))
            (blkOk_by (N := nNames) (sc := defScope s_names) (by decide +kernel)) (fun _ _ _ _ _ => pg_name (i := 7) sc_names.nd rfl (Or.inl rfl)) (fun _ _ _ _ _ => pts_nil) (fun _ _ _ _ _ => pe_op op_add_str (pe_slice sl_str (pv 5) po_none (po_some pe_int)) (pv 7)))))
        (pss_one (ps_expr (pe_bm PySem.F.plainAttrs_list PySem.F.slot_list_append PySem.F.type_list_append mt_append (pv 2) (pa_cons (pe_ix ix_list (pe_lc (own := [("one", 8)]) (g := gName 8) (tt := tTest (tOp (rIn K true) (tVar 8) (tVar 2))) rfl sc_names.nd (pi_list (pv 6))
            (blkOk_by (N := nNames) (sc := defScope s_names) (by decide +kernel)) (fun _ _ _ _ _ => pg_name (i := 8) sc_names.nd rfl (Or.inl rfl)) (fun _ _ _ _ _ => pts_one (pt_cmpR (notInK K) (pv 8) (pv 2) rfl)) (fun _ _ _ _ _ => pv 8)) pe_int (fun _ _ => rfl)) pa_nil))))))))
      (pss_one (ps_ret (pv 2)))), ?_⟩
    refine ⟨Nat.zero_le _, fun f nf => ⟨by show 2 ≤ sizeLine; decide, fun t nt => ⟨t, _, rfl, tof upd_same, rfl, _, _, rfl, _, _, rfl, rfl, ?_⟩⟩⟩
    have ntf : t ≠ f := (ne_of_none upd_same nt).symm
    have ga := (g.new (o := .lst []) nf).new (o := .tup [V.ref f, V.str (Str.ofString "abcdefghijklmnopqrstuvwxyz")]) nt
    have fa := g.ne_a nf
    have fc := g.ne_c nf
    have fB : B f = none := g.free nf
    refine ⟨_, rfl, n, rfl, by omega, by omega, for_range (lo := 0) (n := n.toNat) (fun i σ H' => ∃ (B' : Hp) (fs : List Str) (x4 x5 x6 x7 x8 : Option V), σ = [some (.ref a), some (.int n), some (.ref f), some (.str abc), x4, x5, x6, x7, x8] ∧ Same B B' ∧ Gd a c B' H' ∧ B' f = none ∧
        H' f = some (.lst (fs.map V.str)) ∧ fs.length = i ∧ Names fs) ⟨B, [], none, none, none, none, none, rfl, Same.refl B, ga, fB, by rw [upd_ne ntf.symm, upd_same]; rfl, rfl, ⟨List.nodup_nil, fun _ z => nomatch z⟩⟩ ?_ ?_⟩
    · rintro i σ H0 hi ⟨B0, fs, x4, x5, x6, x7, x8, rfl, s0, g0, f0, hf0, len, nms⟩
      have gk := g0.know hf0 fa fc
      have sk : Same B (upd B0 f (.lst (fs.map V.str))) := same_new' s0 f0
      have kf : (upd B0 f (.lst (fs.map V.str))) f = some (.lst (fs.map V.str)) := upd_same
      generalize upd B0 f (.lst (fs.map V.str)) = B1 at gk sk kf
      -- the word of letters
      refine ⟨⟨_, rfl⟩, _, rfl, a, c, 8, rfl, gk.st, by decide, by decide, fun r H3 r0 r1 st3 fr3 => ⟨1, r, rfl, rfl, 1 + r, rfl, by omega, by omega, fun D hD => ?_⟩⟩
      have g3 := gk.fr fr3 st3
      refine lc_draw (B := B1) (H1 := H3) (a := a) (c := c) walk_range g3 hD (fun _ _ _ _ => trivial) (Nat.lt_of_le_of_lt (show (1 + r).toNat ≤ 8 by omega) (by decide)) (fun i acc _ => ∃ cs : List Nat, acc = (cs.map sg).map V.str ∧ cs.length = i ∧ ∀ k ∈ cs, letter k = true)
        ⟨[], rfl, rfl, fun _ z => nomatch z⟩ (fun _ _ _ _ h _ => h) (fun i acc _ ⟨cs, e, l, _⟩ => by rw [e, List.length_map, List.length_map, l]; exact Nat.le_refl _) (fun j H4 B4 acc Q1 Q2 hj s4 g4 p4 d4 k1 k2 => ?_) (fun H4 B4 acc s4 g4 d4 p4 => ?_)
      · obtain ⟨cs, rfl, lc, ls⟩ := p4
        refine ⟨rfl, ?_⟩
        refine iteT (B := Q2 H4) ?_
        refine ⟨_, rfl, _, rfl, a, c, .str abc, rfl, g4.st, .inr ⟨abc, rfl, abc_len.1, abc_len.2, fun k H5 hk st5 fr5 => k1 _ _ B4 (Same.refl _) (g4.fr fr5 st5) ⟨cs ++ [k], ?_, ?_, fun x hx => ?_⟩⟩⟩
        · rw [List.map_append, List.map_append]; rfl
        · rw [List.length_append, lc]; rfl
        · rcases List.mem_append.mp hx with hx | hx
          · exact ls x hx
          · rw [List.mem_singleton] at hx; rw [hx]; exact abc_letter k hk
      · obtain ⟨cs, rfl, lcs, ls⟩ := p4
        refine ⟨_, D, cs.map sg, rfl, rfl, .inl (lof (g4.ex _ _ d4)), ?_, ?_⟩
        · rw [signs_sum, List.length_map]
          have : (Str.ofString "").length = 0 := by decide +kernel
          rw [this, lcs]; omega
        have w1 : nameB (Txt.join (Str.ofString "") (cs.map sg)) = true := by
          rw [nameB_iff, join_signs]
          exact ⟨by omega, ls⟩
        generalize Txt.join (Str.ofString "") (cs.map sg) = wd at w1 ⊢
        have kf4 : B4 f = some (.lst (fs.map V.str)) := s4 _ _ kf
        -- or one of the words
        refine ⟨_, rfl, _, rfl, _, rfl, _, rfl, by show 9 ≤ sizeLine; decide, fun L nL => ⟨a, c, .ref L, rfl, (g4.new nL).st, .inl ⟨L, _, rfl, g4.ne_a nL, g4.ne_c nL, upd_same, by show 0 < 9; decide, by show 9 < 1000000; decide, fun v H6 hv st6 fr6 => ?_⟩⟩⟩
        obtain ⟨z, rfl, hz⟩ := menu_name w1 hv
        have g6 := (g4.new nL).fr fr6 st6
        -- the words that may stand in for it
        refine ⟨_, rfl, by show 1 ≤ sizeLine; decide, fun L1 n1 => ?_⟩
        have g7 := g6.new (o := .lst [V.str z]) n1
        have h7 : (upd H6 L1 (.lst [V.str z])) L1 = some (.lst [V.str z]) := upd_same
        generalize upd H6 L1 (.lst [V.str z]) = H7 at g7 h7 ⊢
        refine ⟨_, rfl, abc, rfl, fun D2 nD2 => lc_same (B := H7) walk_sign signs_length.symm (Same.refl H7) nD2 (fun _ _ => trivial) (by rw [signs_length]; exact Nat.lt_trans abc_len.2 (by decide))
          (fun x => match x with | .str y => some (.str (cutS z none (some 7) ++ y)) | _ => none) (fun x H8 Q1 Q2 hx s8 k1 k2 => ?_) (fun H8 s8 hD8 => ?_)⟩
        · obtain ⟨k, hk, rfl⟩ := List.mem_map.mp hx
          refine ⟨rfl, ?_⟩
          refine iteT (B := Q2 H8) ?_
          refine ⟨_, rfl, 7, rfl, z, rfl, name_line hz, _, rfl, _, _, rfl, rfl, ?_, k1 _ _ rfl (Same.refl _)⟩
          have e1 := cutS_length z none (some 7)
          have e2 := (name_len hz).2
          refine Nat.le_trans (m := 9) ?_ (by decide)
          show (cutS z none (some 7)).length + 1 ≤ 9
          omega
        · have e8 : H8 D2 = some (.lst (((tl abc).map (longer z)).map V.str)) := by
            rw [hD8]
            unfold signs
            rw [List.filterMap_map, List.map_map, ← filterMap_some]
            rfl
          have l8 := s8 _ _ h7
          refine ⟨L1, D2, _, _, rfl, rfl, l8, e8, by rw [List.length_map, List.length_map, abc_tl, List.length_map, List.length_range]; show 27 ≤ sizeLine; decide, fun S nS => ?_⟩
          have g8 := (g7.same s8).new (o := .lst ([V.str z] ++ ((tl abc).map (longer z)).map V.str)) nS
          have hS : (upd H8 S (.lst ([V.str z] ++ ((tl abc).map (longer z)).map V.str))) S = some (.lst ((z :: (tl abc).map (longer z)).map V.str)) := upd_same
          generalize upd H8 S (.lst ([V.str z] ++ ((tl abc).map (longer z)).map V.str)) = H9 at g8 hS ⊢
          have hf9 := g8.ex _ _ kf4
          refine ⟨_, rfl, .inl ⟨rfl, _, lof hf9⟩, _, rfl, S, rfl, ⟨_, lof hS⟩, fun D3 nD3 => lc_same (B := H9) walk_list rfl (Same.refl H9) nD3 (fun H e => lof (e _ _ hS)) (by rw [List.length_map, List.length_cons, List.length_map, abc_tl, List.length_map, List.length_range]; decide)
            (fun x => match x with | .str y => if y ∈ fs then none else some (.str y) | _ => none) (fun x H10 Q1 Q2 hx s10 k1 k2 => ?_) (fun H10 s10 hD10 => ?_)⟩
          · obtain ⟨y, hy, rfl⟩ := List.mem_map.mp hx
            refine ⟨rfl, _, rfl, _, rfl, f, _, rfl, .inl (lof (s10 _ _ hf9)), rfl, flat_strs, _, rfl, ?_⟩
            rw [inV_str]
            by_cases hm : y ∈ fs
            · rw [decide_eq_true hm]
              exact iteF (k2 _ (by show (if y ∈ fs then none else some (V.str y)) = none; rw [if_pos hm]) (Same.refl _))
            · rw [decide_eq_false hm]
              exact iteT ⟨_, rfl, k1 _ _ (by show (if y ∈ fs then none else some (V.str y)) = _; rw [if_neg hm]) (Same.refl _)⟩
          · have e10 : H10 D3 = some (.lst (((z :: (tl abc).map (longer z)).filter (fun y => !decide (y ∈ fs))).map V.str)) := by
              rw [hD10]; congr 2
              generalize (z :: (tl abc).map (longer z)) = ws
              induction ws with
              | nil => rfl
              | cons y r ih =>
                rw [List.map_cons, List.filterMap_cons, List.filter_cons, ih]
                by_cases hm : y ∈ fs
                · simp [hm]
                · simp [hm]
            obtain ⟨x, r', ex, nx⟩ := some_new (z := z) (fs := fs) (by omega)
            rw [ex] at e10
            have nmx := new_name hz ex
            have hf10 := s10 _ _ hf9
            refine ⟨D3, _, 0, .str x, rfl, rfl, lof e10, atI_lt (by decide) (by rw [List.length_map, List.length_cons]; omega) rfl, f, _, .str x, rfl, rfl, hf10, ?_, ?_⟩
            · rw [List.length_map]; exact Nat.lt_of_le_of_lt (show fs.length ≤ 8 by omega) (by decide)
            have g10 := g8.same s10
            refine ⟨rem B4 f, fs ++ [x], _, _, _, _, _, rfl, same_into_rem (sk.trans s4) fB, (g10.less same_rem).chg rem_self fa fc, rem_self, ?_, ?_, ?_⟩
            · rw [upd_same, List.map_append]; rfl
            · rw [List.length_append, len]; rfl
            · refine ⟨?_, fun y hy => ?_⟩
              · rw [List.nodup_append]
                refine ⟨nms.nd, by simp, fun u hu v hv e => ?_⟩
                rw [List.mem_singleton] at hv
                exact nx (by rw [← hv, ← e]; exact hu)
              · rcases List.mem_append.mp hy with hy | hy
                · exact nms.nm y hy
                · rw [List.mem_singleton] at hy; rw [hy]; exact nmx
    · rintro σ H' ⟨B', fs, x4, x5, x6, x7, x8, rfl, s', g', f', hf', len, nms⟩
      exact ⟨_, rfl, q f fs (upd B' f (.lst (fs.map V.str))) H' (same_new' s' f') (g'.know hf' fa fc) nf upd_same len nms⟩
end
end As

/-! ## B11 -/
namespace As
open PySem PySem.Spec PyProof.Rows L2 TL
theorem ne_lst {B : Hp} {D b : Addr} {acc : List V} {o : HO} (hD : B D = some (.lst acc)) (h : B b = some o) (n : ∀ xs, o ≠ .lst xs) : b ≠ D := fun e => by
  subst e; rw [hD] at h; injection h with h; exact n _ h.symm
theorem rem_tup {B : Hp} {D b : Addr} {acc xs : List V} (hD : B D = some (.lst acc)) (h : B b = some (.tup xs)) : rem B D b = some (.tup xs) := by
  rw [rem_ne (ne_lst hD h (fun _ z => nomatch z))]; exact h
theorem getD_str {ws : List Str} {i : Nat} (h : i < ws.length) : (ws.map V.str).getD i .non = .str ws[i] := by
  rw [List.getD_eq_getElem?_getD, List.getElem?_map, List.getElem?_eq_getElem h]; rfl
section
variable {P : Program} {w : World} {K : PySem.W.Frag} {mg : Str → Option Value} {base : Heap}
def spLCols : Sp := fun vs H Q _ => ∃ (a c : Addr) (m sm : Int) (B : Hp), vs = [.ref a, .int m, .int sm] ∧ Gd a c B H ∧ (1 ≤ m ∧ m ≤ 6) ∧ (1 ≤ sm ∧ sm ≤ 6) ∧
  ∀ p rs B' H', Same B B' → Gd a c B' H' → B p = none → B' p = some (.lst (rs.map cv)) → ColsOk B' rs → Q (.ref p) H'
abbrev nLCols : List Str := ["state", "most", "size_most", "names", "name"]
theorem sc_lcols : FnScope nLCols ["state", "most", "size_most"] (defScope s_lcolumns) := ⟨rfl, rfl, rfl, by decide +kernel, rfl, by decide +kernel, by decide +kernel⟩
theorem ok_lcols {f fn fd' : Addr} {fd dn dd : FuncData} (D : Df K mg "_law_columns" s_lcolumns ["state", "most", "size_most"] f fd) (T : Bi mg) (Dd : Df K mg "_law_draw" s_draw ["state", "size_most"] fd' dd) (Gd' : FnOk P w K mg base CX0 1 fd' dd ["state", "size_most"] spDraw)
    (Dn : Df K mg "_law_names" s_names ["state", "size"] fn dn) (Gn : FnOk P w K mg base CX0 3 fn dn ["state", "size"] spNames) : FnOk P w K mg base CX0 4 f fd ["state", "most", "size_most"] spLCols := by
  refine D.F.ok sc_lcols (fun vs H Q E h => ?_) (fun cdv A outer s H vs Q E hr h => ?_)
  · obtain ⟨a, c, m, sm, B, rfl, _⟩ := h; rfl
  · obtain ⟨a, c, m, sm, B, rfl, g, hm, hsm, q⟩ := h
    have hr1 : Room 1 _ := hr.mono (by decide)
    refine ⟨_, pss_cons (ps_set (i := 3) sc_lcols.nd rfl (Or.inl rfl) (pcall Dn Gn hr (pa_cons (pv 0) (pa_cons (pe_op op_add pe_int (pcall Dd Gd' hr1 (pa_cons (pv 0) (pa_cons (pv 1) pa_nil)))) pa_nil))))
      (pss_one (ps_ret (pe_lc (own := [("name", 4)]) (g := gName 4) (tt := tYes) rfl sc_lcols.nd (pi_list (pv 3)) (blkOk_by (N := nLCols) (sc := defScope s_lcolumns) (by decide +kernel)) (fun _ _ _ _ _ => pg_name (i := 4) sc_lcols.nd rfl (Or.inl rfl)) (fun _ _ _ _ _ => pts_nil)
        (fun _ _ _ _ _ => pe_tup (pa_cons (pv 4) (pa_cons (pe_op op_add pe_int (pcall Dd Gd' hr1 (pa_cons (pv 0) (pa_cons (pv 2) pa_nil)))) pa_nil)))))), ?_⟩
    refine ⟨_, rfl, _, rfl, _, rfl, a, c, m, rfl, g.st, by omega, by omega, fun r H1 r0 r1 st1 fr1 => ⟨1, r, rfl, rfl, ?_⟩⟩
    have g1 := g.fr fr1 st1
    refine ⟨a, c, 1 + r, B, rfl, g1, by omega, by omega, fun N ws B2 H2 s2 g2 nN hN lw nw => ?_⟩
    refine ⟨_, rfl, N, rfl, ⟨_, lof (g2.ex _ _ hN)⟩, fun D hD => ?_⟩
    have lwm : (ws.map V.str).length = ws.length := List.length_map _
    refine lc_draw (B := B2) (H1 := H2) (a := a) (c := c) (n := (ws.map V.str).length) (walk_at (K := K) (a := N) (xs := ws.map V.str) .non) g2 hD (fun B' H s gd => lof (gd.ex _ _ (s _ _ hN))) (Nat.lt_of_le_of_lt (show (ws.map V.str).length ≤ 8 by omega) (by decide))
      (fun i acc B => ∃ rs : List CRow, acc = rs.map cv ∧ rs.length = i ∧ (∀ r ∈ rs, B r.1 = some (.tup [.str r.2.1, .int r.2.2])) ∧ rs.map (·.2.1) = ws.take i ∧ ∀ r ∈ rs, 1 ≤ r.2.2 ∧ r.2.2 ≤ 6)
      ⟨[], rfl, rfl, (fun _ z => nomatch z), rfl, fun _ z => nomatch z⟩ (fun i acc acc0 B' ⟨rs, e, l, h, t, z⟩ hd => ⟨rs, e, l, fun r hr => rem_tup hd (h r hr), t, z⟩) (fun i acc _ ⟨rs, e, l, _⟩ => by rw [e, List.length_map, l]; exact Nat.le_refl _)
      (fun j H4 B4 acc Q1 Q2 hj s4 g4 p4 d4 k1 k2 => ?_) (fun H4 B4 acc s4 g4 d4 p4 => ?_)
    · obtain ⟨rs, rfl, lr, ht, tk, sz⟩ := p4
      have hj' : j < ws.length := by omega
      refine ⟨rfl, ?_⟩
      refine iteT (B := Q2 H4) ?_
      rw [getD_str hj']
      refine ⟨_, rfl, _, rfl, _, rfl, a, c, sm, rfl, g4.st, by omega, by omega, fun r H5 r0 r1 st5 fr5 => ⟨1, r, rfl, rfl, by show 2 ≤ sizeLine; decide, fun t nt => ?_⟩⟩
      have g5 := g4.fr fr5 st5
      have ht' : ∀ r ∈ rs, B4 r.1 = some (.tup [.str r.2.1, .int r.2.2]) := fun r hr => same_rem _ _ (ht r hr)
      refine k1 _ _ (upd B4 t (.tup [.str ws[j], .int (1 + r)])) (same_new (g5.free nt)) (g5.add nt) ⟨rs ++ [(t, ws[j], 1 + r)], ?_, ?_, fun x hx => ?_, ?_, fun x hx => ?_⟩
      · rw [List.map_append]; rfl
      · rw [List.length_append, lr]; rfl
      · rcases List.mem_append.mp hx with hx | hx
        · exact same_new (g5.free nt) _ _ (ht' x hx)
        · rw [List.mem_singleton] at hx; subst hx; exact upd_same
      · rw [List.map_append, tk, List.take_succ, List.getElem?_eq_getElem hj']; rfl
      · rcases List.mem_append.mp hx with hx | hx
        · exact sz x hx
        · rw [List.mem_singleton] at hx; subst hx; exact ⟨show 1 ≤ 1 + r by omega, show 1 + r ≤ 6 by omega⟩
    · obtain ⟨rs, rfl, lr, ht, tk, sz⟩ := p4
      have tk' : rs.map (·.2.1) = ws := by rw [tk, lwm, List.take_length]
      refine q D rs B4 H4 (s2.trans s4) g4 (Same.free s2 (g2.free hD)) d4 ⟨fun r hr => same_rem _ _ (ht r hr), ⟨by omega, by omega⟩, fun r hr => nw.nm _ (by rw [← tk']; exact List.mem_map.mpr ⟨r, hr, rfl⟩), sz, by rw [tk']; exact nw.nd⟩

theorem cut2 {n1 n2 : Str} {r : Int} (h0 : 0 ≤ r) (h1 : r < 2) : cutV [V.str n1, V.str n2] none (some (1 + r)) = ([n1, n2].take (1 + r).toNat).map V.str := by
  rcases (show r = 0 ∨ r = 1 by omega) with rfl | rfl <;> rfl
def spLTabs : Sp := fun vs H Q _ => ∃ (a c cl : Addr) (m : Int) (cs : List CRow) (B : Hp), vs = [.ref a, .ref cl, .int m] ∧ Gd a c B H ∧ B cl = some (.lst (cs.map cv)) ∧ ColsOk B cs ∧ (1 ≤ m ∧ m ≤ 8) ∧
  ∀ p ts B' H', Same B B' → Gd a c B' H' → B p = none → B' p = some (.lst (ts.map tv)) → TabsOk B' (cs.map (·.2.1)) ts → Q (.ref p) H'
abbrev nLTabs : List Str := ["state", "columns", "most", "found", "name", "parts"]
theorem sc_ltabs : FnScope nLTabs ["state", "columns", "most"] (defScope s_ltables) := ⟨rfl, rfl, rfl, by decide +kernel, rfl, by decide +kernel, by decide +kernel⟩
theorem ok_ltabs {f fn fp fd' : Addr} {fd dn dp dd : FuncData} (D : Df K mg "_law_tables" s_ltables ["state", "columns", "most"] f fd) (T : Bi mg) (Dd : Df K mg "_law_draw" s_draw ["state", "size_most"] fd' dd) (Gd' : FnOk P w K mg base CX0 1 fd' dd ["state", "size_most"] spDraw)
    (Dp : Df K mg "_law_pick" s_pick ["state", "some"] fp dp) (Gp : FnOk P w K mg base CX0 2 fp dp ["state", "some"] spPick)
    (Dn : Df K mg "_law_names" s_names ["state", "size"] fn dn) (Gn : FnOk P w K mg base CX0 3 fn dn ["state", "size"] spNames) : FnOk P w K mg base CX0 4 f fd ["state", "columns", "most"] spLTabs := by
  refine D.F.ok sc_ltabs (fun vs H Q E h => ?_) (fun cdv A outer s H vs Q E hr h => ?_)
  · obtain ⟨a, c, cl, m, cs, B, rfl, _⟩ := h; rfl
  · obtain ⟨a, c, cl, m, cs, B, rfl, g, hcl, okc, hm, q⟩ := h
    have hr1 : Room 1 _ := hr.mono (by decide)
    have hr2 : Room 2 _ := hr.mono (by decide)
    refine ⟨_, pss_cons (ps_set (i := 3) sc_ltabs.nd rfl (Or.inl rfl) (pe_lst pa_nil))
      (pss_cons (ps_for PassesOwn.never rfl (pi_list (pcall Dn Gn hr (pa_cons (pv 0) (pa_cons (pe_op op_add pe_int (pcall Dd Gd' hr1 (pa_cons (pv 0) (pa_cons (pv 2) pa_nil)))) pa_nil)))) (pg_name (i := 4) sc_ltabs.nd rfl (Or.inl rfl))
        (pss_cons (ps_set (i := 5) sc_ltabs.nd rfl (Or.inl rfl) (pe_lst (pa_cons (pe_ix ix_tup (pcall Dp Gp hr2 (pa_cons (pv 0) (pa_cons (pv 1) pa_nil))) pe_int (fun _ _ => rfl)) (pa_cons (pe_ix ix_tup (pcall Dp Gp hr2 (pa_cons (pv 0) (pa_cons (pv 1) pa_nil))) pe_int (fun _ _ => rfl)) pa_nil))))
        (pss_one (ps_expr (pe_bm PySem.F.plainAttrs_list PySem.F.slot_list_append PySem.F.type_list_append mt_append (pv 3) (pa_cons (pe_tup (pa_cons (pv 4) (pa_cons (tupK K (hm := T.tuple) (pe_slice sl_list (pv 5) po_none (po_some (pe_op op_add pe_int (pcall Dd Gd' hr1 (pa_cons (pv 0) (pa_cons pe_int pa_nil))))))) pa_nil))) pa_nil))))))
      (pss_one (ps_ret (pv 3)))), ?_⟩
    refine ⟨Nat.zero_le _, fun f nf => ?_⟩
    have fa := g.ne_a nf
    have fc := g.ne_c nf
    have fB := g.free nf
    have gf := g.add (o := .lst []) nf
    have hff : (upd B f (.lst [])) f = some (.lst []) := upd_same
    have sB : Same B (upd B f (.lst [])) := same_new fB
    have hHf : (upd H f (.lst [])) f = some (.lst []) := upd_same
    generalize upd B f (.lst []) = B1 at gf hff sB
    generalize upd H f (.lst []) = H0 at gf hHf ⊢
    refine ⟨_, rfl, _, rfl, _, rfl, a, c, m, rfl, gf.st, by omega, by omega, fun r H1 r0 r1 st1 fr1 => ⟨1, r, rfl, rfl, a, c, 1 + r, B1, rfl, gf.fr fr1 st1, by omega, by omega, fun N ws B2 H2 s2 g2 nN hN lw nw => ?_⟩⟩
    have nNf : N ≠ f := fun e => by
      subst e; rw [fr1 _ _ fa fc hHf] at nN; cases nN
    have f2 : B2 f = some (.lst []) := s2 _ _ hff
    have sk : Same B (rem B2 f) := same_into_rem (sB.trans s2) fB
    have gk : Gd a c (rem B2 f) H2 := g2.less same_rem
    have kN : (rem B2 f) N = some (.lst (ws.map V.str)) := by rw [rem_ne nNf]; exact hN
    have kf : (rem B2 f) f = none := rem_self
    have hf2 : H2 f = some (.lst []) := g2.ex _ _ f2
    generalize rem B2 f = Bk at sk gk kN kf
    have cla : cl ≠ a := ne_of_none hcl g.na
    have clc : cl ≠ c := ne_of_none hcl g.nc
    refine ⟨N, rfl, ⟨_, lof (gk.ex _ _ kN)⟩, for_list (K := K) (a := N) (xs := ws.map V.str) (fun i σ H' => ∃ (B' : Hp) (ts : List TRow) (x4 x5 : Option V), σ = [some (.ref a), some (.ref cl), some (.int m), some (.ref f), x4, x5] ∧ Same Bk B' ∧ Gd a c B' H' ∧ B' f = none ∧ H' f = some (.lst (ts.map tv)) ∧
        ts.length = i ∧ (∀ r ∈ ts, B' r.1 = some (.tup [.str r.2.1, .ref r.2.2.1])) ∧ (∀ r ∈ ts, B' r.2.2.1 = some (.tup (r.2.2.2.map V.str))) ∧ ts.map (·.2.1) = ws.take i ∧ ∀ r ∈ ts, (1 ≤ r.2.2.2.length ∧ r.2.2.2.length ≤ 2) ∧ ∀ x ∈ r.2.2.2, x ∈ cs.map (·.2.1))
      ⟨Bk, [], none, none, rfl, Same.refl Bk, gk, kf, hf2, rfl, (fun _ z => nomatch z), (fun _ z => nomatch z), rfl, fun _ z => nomatch z⟩ (fun i σ H' _ ⟨B', ts, _, _, _, s', g', _⟩ => lof (g'.ex _ _ (s' _ _ kN))) ?_ ?_⟩
    · rintro i x σ H3 hx ⟨B3, ts, x4, x5, rfl, s3, g3, f3, hf3, lt, h1, h2, tk, h4⟩
      have hi : i < ws.length := by have := (List.getElem?_eq_some_iff.mp hx).1; rw [List.length_map] at this; exact this
      have ex : x = .str ws[i] := by
        rw [List.getElem?_map, List.getElem?_eq_getElem hi] at hx; exact (Option.some.inj hx).symm
      subst ex
      have g4 := g3.know hf3 fa fc
      have s4 : Same B3 (upd B3 f (.lst (ts.map tv))) := same_new f3
      have k4 : (upd B3 f (.lst (ts.map tv))) f = some (.lst (ts.map tv)) := upd_same
      generalize upd B3 f (.lst (ts.map tv)) = B4 at g4 s4 k4
      have okc4 := okc.same (sk.trans (s3.trans s4))
      have hcl4 := s4 _ _ (s3 _ _ (sk _ _ hcl))
      have pos : 0 < (cs.map cv).length ∧ (cs.map cv).length < 1000000 := by rw [List.length_map]; have := okc.len; omega
      refine ⟨_, rfl, _, rfl, a, c, .ref cl, rfl, g4.st, .inl ⟨cl, _, rfl, cla, clc, g4.ex _ _ hcl4, pos.1, pos.2, fun v H5 hv st5 fr5 => ?_⟩⟩
      obtain ⟨r1, hr1', rfl⟩ := List.mem_map.mp hv
      have g5 := g4.fr fr5 st5
      refine ⟨r1.1, _, 0, .str r1.2.1, rfl, rfl, tof (g5.ex _ _ (okc4.row r1 hr1')), rfl, ?_⟩
      refine ⟨_, rfl, _, rfl, a, c, .ref cl, rfl, g5.st, .inl ⟨cl, _, rfl, cla, clc, g5.ex _ _ hcl4, pos.1, pos.2, fun v H6 hv st6 fr6 => ?_⟩⟩
      obtain ⟨r2, hr2', rfl⟩ := List.mem_map.mp hv
      have g6 := g5.fr fr6 st6
      refine ⟨r2.1, _, 0, .str r2.2.1, rfl, rfl, tof (g6.ex _ _ (okc4.row r2 hr2')), rfl, by show 2 ≤ sizeLine; decide, fun L nL => ?_⟩
      have g7 := g6.add (o := .lst [.str r1.2.1, .str r2.2.1]) nL
      have kL : (upd B4 L (.lst [.str r1.2.1, .str r2.2.1])) L = some (.lst [.str r1.2.1, .str r2.2.1]) := upd_same
      have s7 : Same B4 (upd B4 L (.lst [.str r1.2.1, .str r2.2.1])) := same_new (g6.free nL)
      generalize upd B4 L (.lst [.str r1.2.1, .str r2.2.1]) = B7 at g7 kL s7
      generalize upd H6 L (.lst [.str r1.2.1, .str r2.2.1]) = H7 at g7 ⊢
      refine ⟨_, rfl, .inl ⟨rfl, _, lof (g7.ex _ _ (s7 _ _ k4))⟩, _, rfl, _, rfl, _, rfl, a, c, 2, rfl, g7.st, by decide, by decide, fun r H8 r0 r1' st8 fr8 => ⟨1, r, rfl, rfl, 1 + r, rfl, L, _, rfl, lof ((g7.fr fr8 st8).ex _ _ kL), fun S nS => ?_⟩⟩
      have g8 := (g7.fr fr8 st8).new (o := .lst (cutV [.str r1.2.1, .str r2.2.1] none (some (1 + r)))) nS
      rw [cut2 r0 r1'] at g8 ⊢
      have kS : (upd H8 S (.lst (([r1.2.1, r2.2.1].take (1 + r).toNat).map V.str))) S = some (.lst (([r1.2.1, r2.2.1].take (1 + r).toNat).map V.str)) := upd_same
      generalize upd H8 S (.lst (([r1.2.1, r2.2.1].take (1 + r).toNat).map V.str)) = H9 at g8 kS ⊢
      refine .inl ⟨S, _, rfl, lof kS, fun q1 nq => ⟨by show 2 ≤ sizeLine; decide, fun t nt => ?_⟩⟩
      have g9 := g8.add (o := .tup (([r1.2.1, r2.2.1].take (1 + r).toNat).map V.str)) nq
      have s9 : Same B7 (upd B7 q1 (.tup (([r1.2.1, r2.2.1].take (1 + r).toNat).map V.str))) := same_new (g8.free nq)
      have kq : (upd B7 q1 (.tup (([r1.2.1, r2.2.1].take (1 + r).toNat).map V.str))) q1 = some (.tup (([r1.2.1, r2.2.1].take (1 + r).toNat).map V.str)) := upd_same
      generalize upd B7 q1 (.tup (([r1.2.1, r2.2.1].take (1 + r).toNat).map V.str)) = B9 at g9 s9 kq
      generalize upd H9 q1 (.tup (([r1.2.1, r2.2.1].take (1 + r).toNat).map V.str)) = H10 at g9 nt ⊢
      have g10 := g9.add (o := .tup [.str ws[i], .ref q1]) nt
      have s10 : Same B9 (upd B9 t (.tup [.str ws[i], .ref q1])) := same_new (g9.free nt)
      have kt : (upd B9 t (.tup [.str ws[i], .ref q1])) t = some (.tup [.str ws[i], .ref q1]) := upd_same
      generalize upd B9 t (.tup [.str ws[i], .ref q1]) = B10 at g10 s10 kt
      generalize upd H10 t (.tup [.str ws[i], .ref q1]) = H11 at g10 ⊢
      have kf10 := s10 _ _ (s9 _ _ (s7 _ _ k4))
      have s310 : Same B3 B10 := s4.trans (s7.trans (s9.trans s10))
      refine ⟨f, _, .ref t, rfl, rfl, g10.ex _ _ kf10, ?_, rem B10 f, ts ++ [(t, ws[i], q1, [r1.2.1, r2.2.1].take (1 + r).toNat)], _, _, rfl, same_into_rem (s3.trans s310) kf, (g10.less same_rem).chg rem_self fa fc, rem_self, ?_, ?_, fun x hx => ?_, fun x hx => ?_, ?_, fun x hx => ?_⟩
      · rw [List.length_map]; exact Nat.lt_of_le_of_lt (show ts.length ≤ 8 by omega) (by decide)
      · rw [upd_same, List.map_append]; rfl
      · rw [List.length_append, lt]; rfl
      · rcases List.mem_append.mp hx with hx | hx
        · exact rem_tup kf10 (s310 _ _ (h1 x hx))
        · rw [List.mem_singleton] at hx; subst hx; exact rem_tup kf10 kt
      · rcases List.mem_append.mp hx with hx | hx
        · exact rem_tup kf10 (s310 _ _ (h2 x hx))
        · rw [List.mem_singleton] at hx; subst hx; exact rem_tup kf10 (s10 _ _ kq)
      · rw [List.map_append, tk, List.take_succ, List.getElem?_eq_getElem hi]; rfl
      · rcases List.mem_append.mp hx with hx | hx
        · exact h4 x hx
        · rw [List.mem_singleton] at hx; subst hx
          refine ⟨?_, fun y hy => ?_⟩
          · show 1 ≤ ([r1.2.1, r2.2.1].take (1 + r).toNat).length ∧ ([r1.2.1, r2.2.1].take (1 + r).toNat).length ≤ 2
            rw [List.length_take]
            show 1 ≤ min (1 + r).toNat 2 ∧ min (1 + r).toNat 2 ≤ 2
            omega
          · have hy' := List.mem_of_mem_take (show y ∈ [r1.2.1, r2.2.1].take (1 + r).toNat from hy)
            simp only [List.mem_cons, List.not_mem_nil, or_false] at hy'
            rcases hy' with rfl | rfl
            · exact List.mem_map.mpr ⟨r1, hr1', rfl⟩
            · exact List.mem_map.mpr ⟨r2, hr2', rfl⟩
    · rintro σ H' ⟨B', ts, x4, x5, rfl, s', g', f', hf', lt, h1, h2, tk, h4⟩
      rw [List.length_map] at lt tk
      rw [List.take_length] at tk
      have sf : Same B' (upd B' f (.lst (ts.map tv))) := same_new f'
      exact ⟨_, rfl, q f ts (upd B' f (.lst (ts.map tv))) H' (sk.trans (s'.trans sf)) (g'.know hf' fa fc) fB upd_same ⟨fun r hr => sf _ _ (h1 r hr), fun r hr => sf _ _ (h2 r hr), by omega, fun r hr => nw.nm _ (by rw [← tk]; exact List.mem_map.mpr ⟨r, hr, rfl⟩), fun r hr => (h4 r hr).1, fun r hr => (h4 r hr).2, by rw [tk]; exact nw.nd⟩⟩
end
end As

/-! ## B12 -/
namespace As
open PySem PySem.Spec PyProof.Rows L2 TL
theorem find_key {α : Type} {rows : List α} {key : α → Str} (nd : (rows.map key).Nodup) {r : α} (hr : r ∈ rows) : rows.find? (fun x => decide (key x = key r)) = some r := by
  induction rows with
  | nil => cases hr
  | cons x t ih =>
    rw [List.map_cons, List.nodup_cons] at nd
    rw [List.find?_cons]
    rcases List.mem_cons.mp hr with e | e
    · subst e; simp
    · have ne : ¬ key x = key r := fun q => nd.1 (q ▸ List.mem_map.mpr ⟨r, e, rfl⟩)
      rw [decide_eq_false ne]
      exact ih nd.2 e
theorem sizeV_at {cs : List CRow} (nd : (cs.map (·.2.1)).Nodup) {r : CRow} (hr : r ∈ cs) : sizeV cs r.2.1 = .int r.2.2 := by
  have e : valV (colsD cs) (.inr r.2.1) = some (.int r.2.2) := by
    unfold valV colsD
    rw [List.find?_map]
    have h := find_key (key := fun x : CRow => x.2.1) nd hr
    have e2 : ((fun kv : Key × V => decide (kv.1 = .inr r.2.1)) ∘ fun x : CRow => ((.inr x.2.1 : Key), V.int x.2.2)) = fun x : CRow => decide (x.2.1 = r.2.1) := by
      funext x
      show decide ((.inr x.2.1 : Key) = .inr r.2.1) = _
      by_cases q : x.2.1 = r.2.1
      · rw [q]; simp
      · rw [decide_eq_false q, decide_eq_false]; intro z; injection z with z; exact q z
    rw [e2, h]; rfl
  unfold sizeV; rw [e]; rfl
theorem sidesV_at {ts : List TRow} (nd : (ts.map (·.2.1)).Nodup) {r : TRow} (hr : r ∈ ts) : sidesV ts r.2.1 = .int (r.2.2.2.length : Nat) := by
  unfold sidesV tabOf
  rw [find_key (key := fun x : TRow => x.2.1) nd hr]
/-- two lists of columns compared -/
theorem ne_colsL {K : PySem.W.Frag} {H : Hp} {cs cs' : List CRow} {a b : Addr} {Q : VK} (h : H a = some (.lst (cs.map cv))) (h' : H b = some (.lst (cs'.map cv))) (ok : ColsOk H cs) (ok' : ColsOk H cs') (q : Q (.bl (!decide (cs.map (·.2) = cs'.map (·.2)))) H) : rNeD K (.ref a) (.ref b) H Q :=
  ⟨_, _, .lst (lof h) (dp_cols ok.row), .lst (lof h') (dp_cols ok'.row), shaped_lst (cols_ok ok) (Nat.le_trans cols_depth (by decide)), shaped_lst (cols_ok ok') (Nat.le_trans cols_depth (by decide)), by rw [eqv_lst eqv_col]; exact q⟩
theorem eq_colsL {K : PySem.W.Frag} {H : Hp} {cs cs' : List CRow} {a b : Addr} {Q : VK} (h : H a = some (.lst (cs.map cv))) (h' : H b = some (.lst (cs'.map cv))) (ok : ColsOk H cs) (ok' : ColsOk H cs') (q : Q (.bl (decide (cs.map (·.2) = cs'.map (·.2)))) H) : rEqD K (.ref a) (.ref b) H Q :=
  ⟨_, _, .lst (lof h) (dp_cols ok.row), .lst (lof h') (dp_cols ok'.row), shaped_lst (cols_ok ok) (Nat.le_trans cols_depth (by decide)), shaped_lst (cols_ok ok') (Nat.le_trans cols_depth (by decide)), by rw [eqv_lst eqv_col]; exact q⟩
theorem ne_tabsL {K : PySem.W.Frag} {H : Hp} {cs cs' : List CRow} {ts ts' : List TRow} {a b : Addr} {Q : VK} (h : H a = some (.lst (ts.map tv))) (h' : H b = some (.lst (ts'.map tv))) (okc : ColsOk H cs) (okc' : ColsOk H cs') (ok : TabsOk H (cs.map (·.2.1)) ts) (ok' : TabsOk H (cs'.map (·.2.1)) ts')
    (q : Q (.bl (!decide (ts.map tkey = ts'.map tkey))) H) : rNeD K (.ref a) (.ref b) H Q :=
  ⟨_, _, .lst (lof h) (dp_tabs ok.row ok.prt), .lst (lof h') (dp_tabs ok'.row ok'.prt), shaped_lst (tabs_ok okc ok) tabs_depth, shaped_lst (tabs_ok okc' ok') tabs_depth, by rw [eqv_lst eqv_tab]; exact q⟩
theorem eq_tabsL {K : PySem.W.Frag} {H : Hp} {cs cs' : List CRow} {ts ts' : List TRow} {a b : Addr} {Q : VK} (h : H a = some (.lst (ts.map tv))) (h' : H b = some (.lst (ts'.map tv))) (okc : ColsOk H cs) (okc' : ColsOk H cs') (ok : TabsOk H (cs.map (·.2.1)) ts) (ok' : TabsOk H (cs'.map (·.2.1)) ts')
    (q : Q (.bl (decide (ts.map tkey = ts'.map tkey))) H) : rEqD K (.ref a) (.ref b) H Q :=
  ⟨_, _, .lst (lof h) (dp_tabs ok.row ok.prt), .lst (lof h') (dp_tabs ok'.row ok'.prt), shaped_lst (tabs_ok okc ok) tabs_depth, shaped_lst (tabs_ok okc' ok') tabs_depth, by rw [eqv_lst eqv_tab]; exact q⟩
/-- the properties, the methods: how the class has them -/
structure PlM (P : Program) (w : World) (K : PySem.W.Frag) (mg : Str → Option Value) (base : Heap) (C : Addr) : Prop where
  F : PlF K C
  cols : ∃ p g fd, PropOf K C "columns" p g ∧ FnOk P w K mg base CX0 1 g fd ["self"] (getSp C (Str.ofString "_columns")) ∧ Binds K fd ["self"] []
  tabs : ∃ p g fd, PropOf K C "tables" p g ∧ FnOk P w K mg base CX0 1 g fd ["self"] (getSp C (Str.ofString "_tables")) ∧ Binds K fd ["self"] []
  size : ∃ f fd, Meth K C "size_of" f ∧ FnOk P w K mg base CX0 1 f fd ["self", "column"] (spSizeOf K C) ∧ Binds K fd ["self", "column"] [] ∧ KBn K fd ["self", "column"] 1 ["column"] (fun us ws => us ++ ws) (fun vs zs => vs ++ zs)
  sides : ∃ f fd, Meth K C "sides" f ∧ FnOk P w K mg base CX0 2 f fd ["self", "table"] (spSides K C) ∧ Binds K fd ["self", "table"] [] ∧ KBn K fd ["self", "table"] 1 ["table"] (fun us ws => us ++ ws) (fun vs zs => vs ++ zs)
theorem no_size {ct tt sz sp sh : Addr} : (pf ct tt sz sp sh).lookup (Str.ofString "size_of") = none := pf_no (by decide +kernel) (by decide +kernel) (by decide +kernel) (by decide +kernel) (by decide +kernel)
theorem no_sides {ct tt sz sp sh : Addr} : (pf ct tt sz sp sh).lookup (Str.ofString "sides") = none := pf_no (by decide +kernel) (by decide +kernel) (by decide +kernel) (by decide +kernel) (by decide +kernel)
section
variable {P : Program} {w : World} {K : PySem.W.Frag} {mg : Str → Option Value} {base : Heap}
def spKept (C : Addr) : Sp := fun vs H Q _ => ∃ (p cl tb : Addr) (cs : List CRow) (ts : List TRow), vs = [.ref p, .ref cl, .ref tb] ∧ PlanAt H C p cs ts ∧ H cl = some (.lst (cs.map cv)) ∧ H tb = some (.lst (ts.map tv)) ∧ ColsOk H cs ∧ TabsOk H (cs.map (·.2.1)) ts ∧ ∀ H', Same H H' → Q (.bl true) H'
abbrev nKept : List Str := ["plan", "columns", "tables", "name", "many", "parts"]
theorem sc_kept : FnScope nKept ["plan", "columns", "tables"] (defScope s_kept) := ⟨rfl, rfl, rfl, by decide +kernel, rfl, by decide +kernel, by decide +kernel⟩
theorem ok_kept {f C : Addr} {fd : FuncData} (D : Df K mg "_law_kept" s_kept ["plan", "columns", "tables"] f fd) (T : Bi mg) (M : PlM P w K mg base C) : FnOk P w K mg base CX0 3 f fd ["plan", "columns", "tables"] (spKept C) := by
  refine D.F.ok sc_kept (fun vs H Q E h => ?_) (fun cdv A outer s H vs Q E hr h => ?_)
  · obtain ⟨p, cl, tb, cs, ts, rfl, _⟩ := h; rfl
  · obtain ⟨p, cl, tb, cs, ts, rfl, pl, hcl, htb, okc, okt, q⟩ := h
    obtain ⟨pC, gC, fdC, hpC, FC, bC⟩ := M.cols
    obtain ⟨pT, gT, fdT, hpT, FT, bT⟩ := M.tabs
    obtain ⟨fs, fds, mS, FS, bS, _⟩ := M.size
    obtain ⟨fz, fdz, mZ, FZ, bZ, _⟩ := M.sides
    have hr1 : Room 1 _ := hr.mono (by decide)
    have cl_ := M.F.cl
    refine ⟨_, pss_cons (ps_if (PW.pt (pw_or (pt_not (pt_val (pe_callB call_isi (by rfl) T.isinst (by decide +kernel) (pa_cons (pe_prop (pv 0) cl_ hpC FC hr bC .nil pass0 rfl) (pa_cons (pe_bltn (v := .ty "tuple") (by rfl) T.tuple (by decide +kernel) rfl) pa_nil)))))
          (pw_or1 (pt_not (pt_val (pe_callB call_isi (by rfl) T.isinst (by decide +kernel) (pa_cons (pe_prop (pv 0) cl_ hpT FT hr bT .nil pass0 rfl) (pa_cons (pe_bltn (v := .ty "tuple") (by rfl) T.tuple (by decide +kernel) rfl) pa_nil)))))))) (pss_one (ps_ret pe_bl)) pss_nil)
      (pss_cons (ps_if (PW.pt (pw_or (pt_cmpR (op_neD (hu64 hr)) (pe_callTy call_list_of (by rfl) T.list boot_list (pa_cons (pe_prop (pv 0) cl_ hpC FC hr bC .nil pass0 rfl) pa_nil)) (pv 1) (nomark _))
          (pw_or1 (pt_cmpR (op_neD (hu64 hr)) (pe_callTy call_list_of (by rfl) T.list boot_list (pa_cons (pe_prop (pv 0) cl_ hpT FT hr bT .nil pass0 rfl) pa_nil)) (pv 2) (nomark _))))) (pss_one (ps_ret pe_bl)) pss_nil)
      (pss_cons (ps_if (pt_cmpR (op_neD (hu64 hr)) (pe_lc (own := [("name", 3), ("many", 4)]) (g := gTup K 2 (gCons (gName 3) (gCons (gName 4) gNil))) (tt := tTest (tOp rNe (tMeth C (Str.ofString "size_of") (spSizeOf K C) [] E0 (tVar 0) (tCons (tVar 3) tNil)) (tVar 4))) rfl sc_kept.nd (pi_list (pv 1))
          (blkOk_by (N := nKept) (sc := defScope s_kept) (by decide +kernel)) (fun _ _ _ _ _ => pgT K (pg_tup rfl (pgs_cons (pg_name (i := 3) sc_kept.nd rfl (Or.inl rfl)) (pgs_cons (pg_name (i := 4) sc_kept.nd rfl (Or.inl rfl)) pgs_nil))))
          (fun _ _ _ _ _ => pts_one (pt_cmpR op_ne (pe_meth (pv 0) cl_ mS FS hr1 bS .nil pass0 (pa_cons (pv 3) pa_nil)) (pv 4) (nomark _))) (fun _ _ _ _ _ => pv 3)) (pe_lst pa_nil) (nomark _)) (pss_one (ps_ret pe_bl)) pss_nil)
      (pss_one (ps_ret (pe_cmpR (op_eqD (hu64 hr)) (pe_lc (own := [("name", 3), ("parts", 5)]) (g := gTup K 2 (gCons (gName 3) (gCons (gName 5) gNil)))
          (tt := tTest (tOp rNe (tMeth C (Str.ofString "sides") (spSides K C) [] E0 (tVar 0) (tCons (tVar 3) tNil)) (tCB (fun xs H Q => ∃ p ys, xs = [V.ref p] ∧ (SqL K H p ys ∨ SqT K H p ys) ∧ Q (.int ys.length) H) (tCons (tVar 5) tNil)))) rfl sc_kept.nd (pi_list (pv 2))
          (blkOk_by (N := nKept) (sc := defScope s_kept) (by decide +kernel)) (fun _ _ _ _ _ => pgT K (pg_tup rfl (pgs_cons (pg_name (i := 3) sc_kept.nd rfl (Or.inl rfl)) (pgs_cons (pg_name (i := 5) sc_kept.nd rfl (Or.inl rfl)) pgs_nil))))
          (fun _ _ _ _ _ => pts_one (pt_cmpR op_ne (pe_meth (pv 0) cl_ mZ FZ hr bZ .nil pass0 (pa_cons (pv 3) pa_nil)) (pe_callB (lenK K) (by rfl) T.len PySem.boot_len (pa_cons (pv 5) pa_nil)) (nomark _))) (fun _ _ _ _ _ => pv 3)) (pe_lst pa_nil) (nomark _)))))), ?_⟩
    obtain ⟨dx, ct, tt, sz, sp, sh, ks, h1, h2, h3, h4, h5, hs, h6⟩ := id pl
    have small : (cs.map cv).length < sizeLine := by rw [List.length_map]; exact Nat.lt_of_le_of_lt okc.len.2 (by decide)
    have smallT : (ts.map tv).length < sizeLine := by rw [List.length_map]; exact Nat.lt_of_le_of_lt okt.len.2 (by decide)
    refine ⟨_, rfl, p, dx, _, rfl, h1, p, dx, _, .ref ct, rfl, h1, pf_C, _, _, .type "tuple", _, true, rfl, .ty "tuple", .base (.tup h2), ktup_tup, true, rfl, iteF ?_⟩
    refine ⟨_, rfl, p, dx, _, rfl, h1, p, dx, _, .ref tt, rfl, h1, pf_T, _, _, .type "tuple", _, true, rfl, .ty "tuple", .base (.tup h3), ktup_tup, true, rfl, iteF ?_⟩
    refine ⟨_, rfl, p, dx, _, rfl, h1, p, dx, _, .ref ct, rfl, h1, pf_C, ct, _, rfl, .inr (tof h2), fun L nL => ⟨_, rfl, ?_⟩⟩
    have s1 : Same H (upd H L (.lst (cs.map cv))) := same_new nL
    refine ne_colsL upd_same (s1 _ _ hcl) (okc.same s1) (okc.same s1) ⟨_, rfl, ?_⟩
    rw [decide_eq_true rfl]
    refine iteF ?_
    generalize upd H L (.lst (cs.map cv)) = H1 at s1 ⊢
    have g1 := s1 _ _ h1
    refine ⟨_, rfl, p, dx, _, rfl, g1, p, dx, _, .ref tt, rfl, g1, pf_T, tt, _, rfl, .inr (tof (s1 _ _ h3)), fun L2 nL2 => ⟨_, rfl, ?_⟩⟩
    have s2 : Same H (upd H1 L2 (.lst (ts.map tv))) := same_new' s1 nL2
    refine ne_tabsL upd_same (s2 _ _ htb) (okc.same s2) (okc.same s2) (okt.same s2) (okt.same s2) ⟨_, rfl, ?_⟩
    rw [decide_eq_true rfl]
    refine iteF ?_
    generalize upd H1 L2 (.lst (ts.map tv)) = H2 at s2 ⊢
    -- the sizes
    refine ⟨_, rfl, cl, rfl, ⟨_, lof (s2 _ _ hcl)⟩, fun D nD => lc_same (B := H2) walk_list rfl (Same.refl H2) nD (fun H e => lof (e _ _ (s2 _ _ hcl))) small (fun _ => none) (fun x H3 Q1 Q2 hx s3 k1 k2 => ?_) (fun H3 s3 hD3 => ?_)⟩
    · obtain ⟨r, hr', rfl⟩ := List.mem_map.mp hx
      have s03 := s2.trans s3
      refine ⟨r.1, _, rfl, tof (s03 _ _ (okc.row r hr')), rfl, _, _, rfl, _, _, rfl, rfl, rfl, ?_⟩
      refine ⟨_, rfl, p, dx, _, rfl, s03 _ _ h1, no_size, _, rfl, p, .str r.2.1, cs, ts, rfl, pl.same s03, .inl ⟨r.2.1, rfl, ?_⟩⟩
      rw [sizeV_at okc.nd hr']
      refine ⟨_, rfl, rfl, _, rfl, ?_⟩
      rw [decide_eq_true rfl]
      exact iteF (k2 _ rfl (Same.refl _))
    · have e3 : H3 D = some (.lst []) := by rw [hD3]; congr 2; exact List.filterMap_eq_nil_iff.mpr fun _ _ => rfl
      refine ⟨Nat.zero_le _, fun e ne => ?_⟩
      have s4 : Same H3 (upd H3 e (.lst [])) := same_new ne
      refine ne_nil (B := H3) (xs := []) (fun _ z => nomatch z) s4 (s4 _ _ e3) upd_same ⟨_, rfl, ?_⟩
      rw [decide_eq_true rfl]
      refine iteF ?_
      have s5 := s2.trans (s3.trans s4)
      generalize upd H3 e (.lst []) = H5 at s5 ⊢
      -- the sides
      refine ⟨_, rfl, tb, rfl, ⟨_, lof (s5 _ _ htb)⟩, fun D nD => lc_same (B := H5) walk_list rfl (Same.refl H5) nD (fun H e => lof (e _ _ (s5 _ _ htb))) smallT (fun _ => none) (fun x H6 Q1 Q2 hx s6 k1 k2 => ?_) (fun H6 s6 hD6 => ?_)⟩
      · obtain ⟨r, hr', rfl⟩ := List.mem_map.mp hx
        have s06 := s5.trans s6
        refine ⟨r.1, _, rfl, tof (s06 _ _ (okt.row r hr')), rfl, _, _, rfl, _, _, rfl, rfl, rfl, ?_⟩
        refine ⟨_, rfl, p, dx, _, rfl, s06 _ _ h1, no_sides, _, rfl, p, .str r.2.1, cs, ts, rfl, pl.same s06, .inl ⟨r.2.1, rfl, ?_⟩⟩
        rw [sidesV_at okt.nd hr']
        refine ⟨_, rfl, r.2.2.1, _, rfl, .inr (tof (s06 _ _ (okt.prt r hr'))), rfl, _, rfl, ?_⟩
        rw [List.length_map, decide_eq_true rfl]
        exact iteF (k2 _ rfl (Same.refl _))
      · have e6 : H6 D = some (.lst []) := by rw [hD6]; congr 2; exact List.filterMap_eq_nil_iff.mpr fun _ _ => rfl
        refine ⟨Nat.zero_le _, fun e ne => ?_⟩
        have s7 : Same H6 (upd H6 e (.lst [])) := same_new ne
        refine eq_nil (B := H6) (xs := []) (fun _ z => nomatch z) s7 (s7 _ _ e6) upd_same ?_
        rw [decide_eq_true rfl]
        exact q _ (s5.trans (s6.trans s7))
end
end As

/-! ## B13 -/
namespace As
open PySem PySem.Spec PyProof.Rows L2 TL
/-- no name of a column, and of a table -/
def Absent (K : PySem.W.Frag) (H : Hp) (cs : List CRow) (ts : List TRow) (x : V) : Prop := NoStr K H x ∨ ∃ z, x = .str z ∧ z ∉ cs.map (·.2.1) ∧ z ∉ ts.map (·.2.1)
theorem sizeV_no {cs : List CRow} {z : Str} (h : z ∉ cs.map (·.2.1)) : sizeV cs z = .non := by
  have e : valV (colsD cs) (.inr z) = none := by
    unfold valV colsD
    rw [Option.map_eq_none_iff, List.find?_eq_none]
    intro kv hkv
    obtain ⟨r, hr, rfl⟩ := List.mem_map.mp hkv
    intro q
    have q2 : (Sum.inr r.2.1 : Key) = .inr z := of_decide_eq_true q
    injection q2 with q3
    exact h (q3 ▸ List.mem_map.mpr ⟨r, hr, rfl⟩)
  unfold sizeV; rw [e]; rfl
theorem sidesV_no {ts : List TRow} {z : Str} (h : z ∉ ts.map (·.2.1)) : sidesV ts z = .non := by
  have e : tabOf ts z = none := by
    unfold tabOf
    rw [List.find?_eq_none]
    intro r hr q
    exact h (of_decide_eq_true q ▸ List.mem_map.mpr ⟨r, hr, rfl⟩)
  unfold sidesV; rw [e]
theorem kit_nos : ∀ {K : PySem.W.Frag}, PySem.W.kitOne K (.type "NoneType") (.type "str") = some false ∧ PySem.W.kitOne K (.type "int") (.type "str") = some false ∧ PySem.W.kitOne K (.type "bool") (.type "str") = some false ∧
  PySem.W.kitOne K (.type "tuple") (.type "str") = some false ∧ PySem.W.kitOne K (.type "list") (.type "str") = some false ∧ PySem.W.kitOne K (.type "dict") (.type "str") = some false :=
  ⟨kit_ty (by decide +kernel), kit_ty (by decide +kernel), kit_ty (by decide +kernel), kit_ty (by decide +kernel), kit_ty (by decide +kernel), kit_ty (by decide +kernel)⟩
def qw (c : Nat) : Str := Str.ofString "q" ++ sg c
theorem qw_inj {c d : Nat} (h : qw c = qw d) : c = d := by
  have e := congrArg tl h
  unfold qw at e
  rw [tl_append, tl_append] at e
  have e2 := List.append_cancel_left e
  injection e2
theorem some_new2 {us : List Str} (h : us.length < 26) : ∃ x r, ((tl abc).map qw).filter (fun y => !decide (y ∈ us)) = x :: r ∧ x ∉ us := by
  cases e : ((tl abc).map qw).filter (fun y => !decide (y ∈ us)) with
  | cons x r =>
    have hx : x ∈ ((tl abc).map qw).filter (fun y => !decide (y ∈ us)) := by rw [e]; exact List.mem_cons_self
    exact ⟨x, r, rfl, by have := (List.mem_filter.mp hx).2; simpa using this⟩
  | nil =>
    have all : ∀ x ∈ (tl abc).map qw, x ∈ us := fun x hx => by
      have := List.filter_eq_nil_iff.mp e x hx
      simpa using this
    have nd : ((tl abc).map qw).Nodup := by
      rw [List.Nodup, List.pairwise_map]
      exact abc_nodup.imp fun ne e => ne (qw_inj e)
    have l := nodup_sub nd all
    rw [List.length_map, abc_tl, List.length_map, List.length_range] at l
    omega
/-- a value that names nothing -/
def Odd (cs : List CRow) (ts : List TRow) (B : Hp) (v : V) : Prop := v = .non ∨ (∃ i, v = .int i) ∨ (∃ b, v = .bl b) ∨ (∃ z, v = .str z ∧ z ∉ cs.map (·.2.1) ∧ z ∉ ts.map (·.2.1)) ∨ (∃ t xs, v = .ref t ∧ B t = some (.tup xs)) ∨ (∃ t xs, v = .ref t ∧ B t = some (.lst xs)) ∨ ∃ t kvs, v = .ref t ∧ B t = some (.dK kvs)
theorem Odd.same {cs : List CRow} {ts : List TRow} {B B' : Hp} {v : V} (h : Odd cs ts B v) (e : Same B B') : Odd cs ts B' v := by
  rcases h with h | h | h | h | ⟨t, xs, h1, h2⟩ | ⟨t, xs, h1, h2⟩ | ⟨t, xs, h1, h2⟩
  · exact .inl h
  · exact .inr (.inl h)
  · exact .inr (.inr (.inl h))
  · exact .inr (.inr (.inr (.inl h)))
  · exact .inr (.inr (.inr (.inr (.inl ⟨t, xs, h1, e _ _ h2⟩))))
  · exact .inr (.inr (.inr (.inr (.inr (.inl ⟨t, xs, h1, e _ _ h2⟩)))))
  · exact .inr (.inr (.inr (.inr (.inr (.inr ⟨t, xs, h1, e _ _ h2⟩)))))
theorem Odd.abs {K : PySem.W.Frag} {cs : List CRow} {ts : List TRow} {B : Hp} {v : V} (h : Odd cs ts B v) : Absent K B cs ts v := by
  obtain ⟨k1, k2, k3, k4, k5, k6⟩ := @kit_nos K
  rcases h with rfl | ⟨i, rfl⟩ | ⟨b, rfl⟩ | h | ⟨t, xs, rfl, h2⟩ | ⟨t, xs, rfl, h2⟩ | ⟨t, xs, rfl, h2⟩
  · exact .inl ⟨_, .base .non, k1⟩
  · exact .inl ⟨_, .base (.int i), k2⟩
  · exact .inl ⟨_, .base (.bl b), k3⟩
  · exact .inr h
  · exact .inl ⟨_, .base (.tup h2), k4⟩
  · exact .inl ⟨_, .base (.lst h2), k5⟩
  · exact .inl ⟨_, .base (.dK h2), k6⟩
theorem no_name {cs : List CRow} {ts : List TRow} {B : Hp} {z : Str} (okc : ColsOk B cs) (okt : TabsOk B (cs.map (·.2.1)) ts) (h : nameB z = false) : z ∉ cs.map (·.2.1) ∧ z ∉ ts.map (·.2.1) := by
  refine ⟨fun hm => ?_, fun hm => ?_⟩
  · obtain ⟨r, hr, e⟩ := List.mem_map.mp hm
    have := okc.nm r hr
    rw [e, h] at this; cases this
  · obtain ⟨r, hr, e⟩ := List.mem_map.mp hm
    have := okt.nm r hr
    rw [e, h] at this; cases this
theorem colNames {H : Hp} {cs : List CRow} (ok : ColsOk H cs) : (cs.map cv).filterMap (rowFn cs (·.1) (fun r => some (V.str r.2.1)) none) = (cs.map (·.2.1)).map V.str := by
  rw [List.filterMap_map, List.map_map, ← filterMap_some]
  exact filterMap_same fun r hr => rowFn_at (fun r hr r' hr' e => by rw [ok.det r hr r' hr' e]) hr
theorem tabNames {H : Hp} {cs : List Str} {ts : List TRow} (ok : TabsOk H cs ts) : (ts.map tv).filterMap (rowFn ts (·.1) (fun r => some (V.str r.2.1)) none) = (ts.map (·.2.1)).map V.str := by
  rw [List.filterMap_map, List.map_map, ← filterMap_some]
  exact filterMap_same fun r hr => rowFn_at (fun r hr r' hr' e => by rw [ok.det r hr r' hr' e]) hr
theorem filterMap_if {α : Type} {f : α → Str} {us : List Str} : ∀ {l : List α}, l.filterMap (fun r => if f r ∈ us then none else some (V.str (f r))) = ((l.map f).filter (fun z => !decide (z ∈ us))).map V.str
  | [] => rfl
  | r :: l => by
    rw [List.filterMap_cons, List.map_cons, List.filter_cons, filterMap_if (l := l)]
    by_cases h : f r ∈ us
    · simp [h]
    · simp [h]
theorem colsOut {H : Hp} {cs : List CRow} (ok : ColsOk H cs) (us : List Str) : (cs.map cv).filterMap (rowFn cs (·.1) (fun r => if r.2.1 ∈ us then none else some (V.str r.2.1)) none) = ((cs.map (·.2.1)).filter (fun z => !decide (z ∈ us))).map V.str := by
  rw [List.filterMap_map, ← filterMap_if]
  exact filterMap_same fun r hr => rowFn_at (fun r hr r' hr' e => by rw [ok.det r hr r' hr' e]) hr
theorem tabsOut {H : Hp} {cs : List Str} {ts : List TRow} (ok : TabsOk H cs ts) (us : List Str) : (ts.map tv).filterMap (rowFn ts (·.1) (fun r => if r.2.1 ∈ us then none else some (V.str r.2.1)) none) = ((ts.map (·.2.1)).filter (fun z => !decide (z ∈ us))).map V.str := by
  rw [List.filterMap_map, ← filterMap_if]
  exact filterMap_same fun r hr => rowFn_at (fun r hr r' hr' e => by rw [ok.det r hr r' hr' e]) hr
theorem colOut_at {H : Hp} {cs : List CRow} (ok : ColsOk H cs) {r : CRow} (hr : r ∈ cs) (us : List Str) : rowFn cs (·.1) (fun r => if r.2.1 ∈ us then none else some (V.str r.2.1)) none (cv r) = if r.2.1 ∈ us then none else some (V.str r.2.1) := rowFn_at (fun r hr r' hr' e => by rw [ok.det r hr r' hr' e]) hr
theorem tabOut_at {H : Hp} {cs : List Str} {ts : List TRow} (ok : TabsOk H cs ts) {r : TRow} (hr : r ∈ ts) (us : List Str) : rowFn ts (·.1) (fun r => if r.2.1 ∈ us then none else some (V.str r.2.1)) none (tv r) = if r.2.1 ∈ us then none else some (V.str r.2.1) := rowFn_at (fun r hr r' hr' e => by rw [ok.det r hr r' hr' e]) hr
theorem colName_at {H : Hp} {cs : List CRow} (ok : ColsOk H cs) {r : CRow} (hr : r ∈ cs) : rowFn cs (·.1) (fun r => some (V.str r.2.1)) none (cv r) = some (V.str r.2.1) := rowFn_at (fun r hr r' hr' e => by rw [ok.det r hr r' hr' e]) hr
theorem tabName_at {H : Hp} {cs : List Str} {ts : List TRow} (ok : TabsOk H cs ts) {r : TRow} (hr : r ∈ ts) : rowFn ts (·.1) (fun r => some (V.str r.2.1)) none (tv r) = some (V.str r.2.1) := rowFn_at (fun r hr r' hr' e => by rw [ok.det r hr r' hr' e]) hr
theorem not_new {us ws : List Str} {z : Str} (h : V.str z ∈ (ws.filter (fun z => !decide (z ∈ us))).map V.str) : z ∉ us := by
  obtain ⟨y, hy, e⟩ := List.mem_map.mp h
  injection e with e
  subst e
  have := (List.mem_filter.mp hy).2
  simpa using this
section
variable {P : Program} {w : World} {K : PySem.W.Frag} {mg : Str → Option Value} {base : Heap}
def spNone (K : PySem.W.Frag) (C : Addr) : Sp := fun vs H Q _ => ∃ (a c p cl tb : Addr) (cs : List CRow) (ts : List TRow) (B : Hp), vs = [.ref a, .ref p, .ref cl, .ref tb] ∧ Gd a c B H ∧ PlanAt B C p cs ts ∧ B cl = some (.lst (cs.map cv)) ∧ B tb = some (.lst (ts.map tv)) ∧ ColsOk B cs ∧ TabsOk B (cs.map (·.2.1)) ts ∧
  ∀ H', Gd a c B H' → Q (.bl true) H'
abbrev nNone : List Str := ["state", "plan", "columns", "tables", "odd", "letters", "used", "word", "thing", "own", "name", "many", "parts", "one", "sign"]
abbrev scOwn1 : Scope := { kind := .function, names := [(".0", .local), ("name", .local), ("parts", .local), ("columns", .free)], isGenerator := false, isCoroutine := false }
abbrev scOwn2 : Scope := { kind := .function, names := [(".0", .local), ("name", .local), ("many", .local), ("tables", .free)], isGenerator := false, isCoroutine := false }
theorem sc_none : FnScope nNone ["state", "plan", "columns", "tables"] (defScope s_none_right) := ⟨rfl, rfl, rfl, by decide +kernel, rfl, by decide +kernel, by decide +kernel⟩
theorem ok_none {f fp C : Addr} {fd dp : FuncData} (D : Df K mg "_law_none_right" s_none_right ["state", "plan", "columns", "tables"] f fd) (T : Bi mg) (M : PlM P w K mg base C)
    (Dp : Df K mg "_law_pick" s_pick ["state", "some"] fp dp) (Gp : FnOk P w K mg base CX0 2 fp dp ["state", "some"] spPick) : FnOk P w K mg base CX0 3 f fd ["state", "plan", "columns", "tables"] (spNone K C) := by
  refine D.F.ok sc_none (fun vs H Q E h => ?_) (fun cdv A outer s H vs Q E hr h => ?_)
  · obtain ⟨a, c, p, cl, tb, cs, ts, B, rfl, _⟩ := h; rfl
  · obtain ⟨a, c, p, cl, tb, cs, ts, B, rfl, g, pl, hcl, htb, okc, okt, q⟩ := h
    obtain ⟨fs, fds, mS, FS, bS, nS⟩ := M.size
    obtain ⟨fz, fdz, mZ, FZ, bZ, nZ⟩ := M.sides
    have hr1 : Room 1 _ := hr.mono (by decide)
    have cl_ := M.F.cl
    refine ⟨_, pss_cons (ps_set (i := 4) sc_none.nd rfl (Or.inl rfl) (pcall Dp Gp hr (pa_cons (pv 0) (pa_cons (pe_lst (pa_cons pe_non (pa_cons pe_int (pa_cons pe_bl (pa_cons pe_str (pa_cons pe_str (pa_cons (pe_tup pa_nil) (pa_cons (pe_lst pa_nil) (pa_cons pe_dnewK (pa_cons (pe_tup (pa_cons pe_str pa_nil)) (pa_cons (pe_lst (pa_cons pe_str pa_nil)) pa_nil))))))))))) pa_nil))))
      (pss_cons (ps_set (i := 5) sc_none.nd rfl (Or.inl rfl) pe_str)
      (pss_cons (ps_set (i := 6) sc_none.nd rfl (Or.inr rfl) (pe_op op_cat
        (pe_lc (own := [("name", 10), ("many", 11)]) (g := gTup K 2 (gCons (gName 10) (gCons (gName 11) gNil))) (tt := tYes) rfl sc_none.nd (pi_list (pv 2)) (blkOk_by (N := nNone) (sc := defScope s_none_right) (by decide +kernel))
          (fun _ _ _ _ _ => pgT K (pg_tup rfl (pgs_cons (pg_name (i := 10) sc_none.nd rfl (Or.inl rfl)) (pgs_cons (pg_name (i := 11) sc_none.nd rfl (Or.inl rfl)) pgs_nil)))) (fun _ _ _ _ _ => pts_nil) (fun _ _ _ _ _ => pv 10))
        (pe_lc (own := [("name", 10), ("parts", 12)]) (g := gTup K 2 (gCons (gName 10) (gCons (gName 12) gNil))) (tt := tYes) rfl sc_none.nd (pi_list (pv 3)) (blkOk_by (N := nNone) (sc := defScope s_none_right) (by decide +kernel))
          (fun _ _ _ _ _ => pgT K (pg_tup rfl (pgs_cons (pg_name (i := 10) sc_none.nd rfl (Or.inl rfl)) (pgs_cons (pg_name (i := 12) sc_none.nd rfl (Or.inl rfl)) pgs_nil)))) (fun _ _ _ _ _ => pts_nil) (fun _ _ _ _ _ => pv 10))))
      (pss_cons (ps_set (i := 7) sc_none.nd rfl (Or.inl rfl) (pe_ix ix_list (pe_lc (own := [("one", 13)]) (g := gName 13) (tt := tTest (tOp (rIn K true) (tVar 13) (tVar 6))) rfl sc_none.nd
          (pi_list (pe_lc (own := [("sign", 14)]) (g := gName 14) (tt := tYes) rfl sc_none.nd (pi_str (pv 5)) (blkOk_by (N := nNone) (sc := defScope s_none_right) (by decide +kernel)) (fun _ _ _ _ _ => pg_name (i := 14) sc_none.nd rfl (Or.inl rfl)) (fun _ _ _ _ _ => pts_nil) (fun _ _ _ _ _ => pe_op op_add_str pe_str (pv 14))))
          (blkOk_by (N := nNone) (sc := defScope s_none_right) (by decide +kernel)) (fun _ _ _ _ _ => pg_name (i := 13) sc_none.nd rfl (Or.inl rfl)) (fun _ _ _ _ _ => pts_one (pt_cmpR (notInK K) (pv 13) (pv 6) rfl)) (fun _ _ _ _ _ => pv 13)) pe_int (fun _ _ => rfl)))
      (pss_cons (ps_for PassesOwn.never rfl (pi_tup (pe_tup (pa_cons (pv 4) (pa_cons (pv 7) (pa_cons (pe_ix ix_list (pv 2) pe_int (fun _ _ => rfl)) (pa_cons (pe_ix ix_list (pv 3) (pe_un un_neg pe_int) (fun _ _ => rfl)) pa_nil)))))) (pg_name (i := 8) sc_none.nd rfl (Or.inl rfl))
        (pss_one (ps_if (PW.pt (pw_or (pt_cmp (pc_notN (pe_methN (pv 1) cl_ mS FS hr1 nS (pk_cons (pv 8) pk_nil)))) (pw_or1 (pt_cmp (pc_notN (pe_methN (pv 1) cl_ mZ FZ hr nZ (pk_cons (pv 8) pk_nil))))))) (pss_one (ps_ret pe_bl)) pss_nil)))
      (pss_cons (ps_setLc (i := 9) (own := [("name", 10), ("parts", 12)]) (g := gTup K 2 (gCons (gName 10) (gCons (gName 12) gNil))) (tt := tTest (tOp (rIn K true) (tVar 10) (tLc (iList K (tVar 2)) (gName 13) tYes (tOp (rIxT K) (tVar 13) (tC (.int 0))) [13]))) rfl sc_none.nd rfl rfl (sw_true rfl rfl rfl (by decide +kernel)) (pi_list (pv 3))
          (blkOk_by (N := nNone) (sc := defScope s_none_right) (by decide +kernel)) (fun _ _ _ _ _ => pgT K (pg_tup rfl (pgs_cons (pg_name (i := 10) sc_none.nd rfl (Or.inl rfl)) (pgs_cons (pg_name (i := 12) sc_none.nd rfl (Or.inl rfl)) pgs_nil))))
          (fun _ _ _ _ _ => pts_one (pt_cmpR (notInK K) (pv 10) (pe_lc (own := [("one", 13)]) (g := gName 13) (tt := tYes) rfl sc_none.nd (piL K (pv 2)) (blkOk_by (N := nNone) (sc := relS scOwn1 (defScope s_none_right)) (by decide +kernel)) (fun _ _ _ _ _ => pg_name (i := 13) sc_none.nd rfl (Or.inl rfl)) (fun _ _ _ _ _ => pts_nil) (fun _ _ _ _ _ => pe_ix (ixT K) (pv 13) pe_int (fun _ _ => rfl))) rfl))
          (fun _ _ _ _ _ => pv 10))
      (pss_cons (ps_if (pt_cmpR (op_neD (hu64 hr)) (pe_lc (own := [("name", 10)]) (g := gName 10) (tt := tB (tNotN (tMeth C (Str.ofString "size_of") (spSizeOf K C) [] E0 (tVar 1) (tCons (tVar 10) tNil)))) rfl sc_none.nd (pi_list (pv 9)) (blkOk_by (N := nNone) (sc := defScope s_none_right) (by decide +kernel)) (fun _ _ _ _ _ => pg_name (i := 10) sc_none.nd rfl (Or.inl rfl))
          (fun _ _ _ _ _ => pts_one (pt_cmp (pc_notN (pe_meth (pv 1) cl_ mS FS hr1 bS .nil pass0 (pa_cons (pv 10) pa_nil))))) (fun _ _ _ _ _ => pv 10)) (pe_lst pa_nil) (nomark _)) (pss_one (ps_ret pe_bl)) pss_nil)
      (pss_cons (ps_setLc (i := 9) (own := [("name", 10), ("many", 11)]) (g := gTup K 2 (gCons (gName 10) (gCons (gName 11) gNil))) (tt := tTest (tOp (rIn K true) (tVar 10) (tLc (iList K (tVar 3)) (gName 13) tYes (tOp (rIxT K) (tVar 13) (tC (.int 0))) [13]))) rfl sc_none.nd rfl rfl (sw_true rfl rfl rfl (by decide +kernel)) (pi_list (pv 2))
          (blkOk_by (N := nNone) (sc := defScope s_none_right) (by decide +kernel)) (fun _ _ _ _ _ => pgT K (pg_tup rfl (pgs_cons (pg_name (i := 10) sc_none.nd rfl (Or.inl rfl)) (pgs_cons (pg_name (i := 11) sc_none.nd rfl (Or.inl rfl)) pgs_nil))))
          (fun _ _ _ _ _ => pts_one (pt_cmpR (notInK K) (pv 10) (pe_lc (own := [("one", 13)]) (g := gName 13) (tt := tYes) rfl sc_none.nd (piL K (pv 3)) (blkOk_by (N := nNone) (sc := relS scOwn2 (defScope s_none_right)) (by decide +kernel)) (fun _ _ _ _ _ => pg_name (i := 13) sc_none.nd rfl (Or.inl rfl)) (fun _ _ _ _ _ => pts_nil) (fun _ _ _ _ _ => pe_ix (ixT K) (pv 13) pe_int (fun _ _ => rfl))) rfl))
          (fun _ _ _ _ _ => pv 10))
      (pss_one (ps_ret (pe_cmpR (op_eqD (hu64 hr)) (pe_lc (own := [("name", 10)]) (g := gName 10) (tt := tB (tNotN (tMeth C (Str.ofString "sides") (spSides K C) [] E0 (tVar 1) (tCons (tVar 10) tNil)))) rfl sc_none.nd (pi_list (pv 9)) (blkOk_by (N := nNone) (sc := defScope s_none_right) (by decide +kernel)) (fun _ _ _ _ _ => pg_name (i := 10) sc_none.nd rfl (Or.inl rfl))
          (fun _ _ _ _ _ => pts_one (pt_cmp (pc_notN (pe_meth (pv 1) cl_ mZ FZ hr bZ .nil pass0 (pa_cons (pv 10) pa_nil))))) (fun _ _ _ _ _ => pv 10)) (pe_lst pa_nil) (nomark _))))))))))), ?_⟩
    have cl8 : (cs.map cv).length ≤ 8 := by rw [List.length_map]; have := okc.len; omega
    have tl8 : (ts.map tv).length ≤ 8 := by rw [List.length_map]; exact okt.len.2
    have smallC : (cs.map cv).length < sizeLine := Nat.lt_of_le_of_lt cl8 (by decide)
    have smallT : (ts.map tv).length < sizeLine := Nat.lt_of_le_of_lt tl8 (by decide)
    -- a value of another kind
    refine ⟨_, rfl, Nat.zero_le _, fun t0 nt0 => ⟨Nat.zero_le _, fun l0 nl0 => fun d0 nd0 => ⟨by show 1 ≤ sizeLine; decide, fun t1 nt1 => ⟨by show 1 ≤ sizeLine; decide, fun l1 nl1 => ⟨by show 10 ≤ sizeLine; decide, fun L nL => ?_⟩⟩⟩⟩⟩
    have g1 := g.add (o := .tup []) nt0
    have s1 : Same B (upd B t0 (.tup [])) := same_new (g.free nt0)
    have k1 : (upd B t0 (.tup [])) t0 = some (.tup []) := upd_same
    generalize upd B t0 (.tup []) = B1 at g1 s1 k1
    generalize upd H t0 (.tup []) = H1 at g1 nl0 nd0 nt1 nl1 nL ⊢
    have g2 := g1.add (o := .lst []) nl0
    have s2 : Same B1 (upd B1 l0 (.lst [])) := same_new (g1.free nl0)
    have k2 : (upd B1 l0 (.lst [])) l0 = some (.lst []) := upd_same
    generalize upd B1 l0 (.lst []) = B2 at g2 s2 k2
    generalize upd H1 l0 (.lst []) = H2 at g2 nd0 nt1 nl1 nL ⊢
    have g3 := g2.add (o := .dK []) nd0
    have s3 : Same B2 (upd B2 d0 (.dK [])) := same_new (g2.free nd0)
    have k3 : (upd B2 d0 (.dK [])) d0 = some (.dK []) := upd_same
    generalize upd B2 d0 (.dK []) = B3 at g3 s3 k3
    generalize upd H2 d0 (.dK []) = H3 at g3 nt1 nl1 nL ⊢
    have g4 := g3.add (o := .tup [V.str (Str.ofString "a")]) nt1
    have s4 : Same B3 (upd B3 t1 (.tup [V.str (Str.ofString "a")])) := same_new (g3.free nt1)
    have k4 : (upd B3 t1 (.tup [V.str (Str.ofString "a")])) t1 = some (.tup [V.str (Str.ofString "a")]) := upd_same
    generalize upd B3 t1 (.tup [V.str (Str.ofString "a")]) = B4 at g4 s4 k4
    generalize upd H3 t1 (.tup [V.str (Str.ofString "a")]) = H4 at g4 nl1 nL ⊢
    have g5 := g4.add (o := .lst [V.str (Str.ofString "a")]) nl1
    have s5 : Same B4 (upd B4 l1 (.lst [V.str (Str.ofString "a")])) := same_new (g4.free nl1)
    have k5 : (upd B4 l1 (.lst [V.str (Str.ofString "a")])) l1 = some (.lst [V.str (Str.ofString "a")]) := upd_same
    generalize upd B4 l1 (.lst [V.str (Str.ofString "a")]) = B5 at g5 s5 k5
    generalize upd H4 l1 (.lst [V.str (Str.ofString "a")]) = H5 at g5 nL ⊢
    have s05 : Same B B5 := s1.trans (s2.trans (s3.trans (s4.trans s5)))
    refine ⟨a, c, .ref L, rfl, (g5.new nL).st, .inl ⟨L, _, rfl, g5.ne_a nL, g5.ne_c nL, upd_same, by show 0 < 10; decide, by show 10 < 1000000; decide, fun v H6 hv st6 fr6 => ?_⟩⟩
    have g6 := (g5.new nL).fr fr6 st6
    have ov : Odd cs ts B5 v := by
      simp only [List.mem_cons, List.not_mem_nil, or_false] at hv
      rcases hv with rfl | rfl | rfl | rfl | rfl | rfl | rfl | rfl | rfl | rfl
      · exact .inl rfl
      · exact .inr (.inl ⟨_, rfl⟩)
      · exact .inr (.inr (.inl ⟨_, rfl⟩))
      · exact .inr (.inr (.inr (.inl ⟨_, rfl, no_name okc okt (by decide +kernel)⟩)))
      · exact .inr (.inr (.inr (.inl ⟨_, rfl, no_name okc okt (by decide +kernel)⟩)))
      · exact .inr (.inr (.inr (.inr (.inl ⟨t0, _, rfl, s5 _ _ (s4 _ _ (s3 _ _ (s2 _ _ k1)))⟩))))
      · exact .inr (.inr (.inr (.inr (.inr (.inl ⟨l0, _, rfl, s5 _ _ (s4 _ _ (s3 _ _ k2))⟩)))))
      · exact .inr (.inr (.inr (.inr (.inr (.inr ⟨d0, _, rfl, s5 _ _ (s4 _ _ k3)⟩)))))
      · exact .inr (.inr (.inr (.inr (.inl ⟨t1, _, rfl, s5 _ _ k4⟩))))
      · exact .inr (.inr (.inr (.inr (.inr (.inl ⟨l1, _, rfl, k5⟩)))))
    have c5 := okc.same s05
    have t5 := okt.same s05
    have hcl5 := s05 _ _ hcl
    have htb5 := s05 _ _ htb
    have p5 := pl.same s05
    clear hv fr6 st6
    -- the names that are used
    have c6 := c5.same g6.ex
    have t6 := t5.same g6.ex
    refine ⟨_, rfl, cl, rfl, ⟨_, lof (g6.ex _ _ hcl5)⟩, fun D1 nD1 => lc_same (B := H6) walk_list rfl (Same.refl H6) nD1 (fun H e => lof (e _ _ (g6.ex _ _ hcl5))) smallC (rowFn cs (·.1) (fun r => some (V.str r.2.1)) none) (fun x H7 Q1 Q2 hx s7 q1 q2 => ?_) (fun H7 s7 hD1 => ?_)⟩
    · obtain ⟨r, hr', rfl⟩ := List.mem_map.mp hx
      refine ⟨r.1, _, rfl, tof (s7 _ _ (c6.row r hr')), rfl, _, _, rfl, _, _, rfl, rfl, rfl, ?_⟩
      refine iteT (B := Q2 H7) ⟨_, rfl, q1 _ _ (colName_at okc hr') (Same.refl _)⟩
    rw [colNames okc] at hD1
    have g7 := g6.same s7
    refine ⟨_, rfl, tb, rfl, ⟨_, lof (g7.ex _ _ htb5)⟩, fun D2 nD2 => lc_same (B := H7) walk_list rfl (Same.refl H7) nD2 (fun H e => lof (e _ _ (g7.ex _ _ htb5))) smallT (rowFn ts (·.1) (fun r => some (V.str r.2.1)) none) (fun x H8 Q1 Q2 hx s8 q1 q2 => ?_) (fun H8 s8 hD2 => ?_)⟩
    · obtain ⟨r, hr', rfl⟩ := List.mem_map.mp hx
      refine ⟨r.1, _, rfl, tof (s8 _ _ (g7.ex _ _ (t5.row r hr'))), rfl, _, _, rfl, _, _, rfl, rfl, rfl, ?_⟩
      refine iteT (B := Q2 H8) ⟨_, rfl, q1 _ _ (tabName_at okt hr') (Same.refl _)⟩
    rw [tabNames okt] at hD2
    have g8 := g7.same s8
    refine ⟨D1, D2, _, _, rfl, rfl, s8 _ _ hD1, hD2, ?_, fun U nU => ?_⟩
    · rw [List.length_map, List.length_map, List.length_map, List.length_map]
      have := okc.len; have := okt.len
      exact Nat.le_trans (m := 14) (by omega) (by decide)
    have g9 := g8.add (o := .lst ((cs.map (·.2.1)).map V.str ++ (ts.map (·.2.1)).map V.str)) nU
    have s9 : Same B5 (upd B5 U (.lst ((cs.map (·.2.1)).map V.str ++ (ts.map (·.2.1)).map V.str))) := same_new (g8.free nU)
    have kU : (upd B5 U (.lst ((cs.map (·.2.1)).map V.str ++ (ts.map (·.2.1)).map V.str))) U = some (.lst ((cs.map (·.2.1) ++ ts.map (·.2.1)).map V.str)) := by rw [upd_same, List.map_append]
    generalize upd B5 U (.lst ((cs.map (·.2.1)).map V.str ++ (ts.map (·.2.1)).map V.str)) = B9 at g9 s9 kU
    generalize upd H8 U (.lst ((cs.map (·.2.1)).map V.str ++ (ts.map (·.2.1)).map V.str)) = H9 at g9 ⊢
    clear hD1 hD2 nD1 nD2 nU g8 g7 s7 s8
    -- a word that is not
    have ul : (cs.map (·.2.1) ++ ts.map (·.2.1)).length < 26 := by
      rw [List.length_append, List.length_map, List.length_map]; have := okc.len; have := okt.len; omega
    refine ⟨_, rfl, abc, rfl, fun D3 nD3 => lc_same (B := H9) walk_sign signs_length.symm (Same.refl H9) nD3 (fun _ _ => trivial) (by rw [signs_length]; exact Nat.lt_trans abc_len.2 (by decide))
      (fun x => match x with | .str y => some (.str (Str.ofString "q" ++ y)) | _ => none) (fun x H10 Q1 Q2 hx s10 q1 q2 => ?_) (fun H10 s10 hD3 => ?_)⟩
    · obtain ⟨k, hk, rfl⟩ := List.mem_map.mp hx
      refine ⟨rfl, ?_⟩
      refine iteT (B := Q2 H10) ?_
      refine ⟨_, rfl, _, _, rfl, rfl, ?_, q1 _ _ rfl (Same.refl _)⟩
      have e : (Str.ofString "q").length = 1 := by decide +kernel
      rw [e]; show 1 + 1 ≤ sizeLine; decide
    have e3 : H10 D3 = some (.lst (((tl abc).map qw).map V.str)) := by
      rw [hD3]
      unfold signs
      rw [List.filterMap_map, List.map_map, ← filterMap_some]
      rfl
    have g10 := g9.same s10
    refine ⟨D3, rfl, ⟨_, lof e3⟩, fun D4 nD4 => lc_same (B := H10) walk_list rfl (Same.refl H10) nD4 (fun H e => lof (e _ _ e3)) (by rw [List.length_map, List.length_map, abc_tl, List.length_map, List.length_range]; decide)
      (fun x => match x with | .str y => if y ∈ (cs.map (·.2.1) ++ ts.map (·.2.1)) then none else some (.str y) | _ => none) (fun x H11 Q1 Q2 hx s11 q1 q2 => ?_) (fun H11 s11 hD4 => ?_)⟩
    · obtain ⟨y, hy, rfl⟩ := List.mem_map.mp hx
      refine ⟨rfl, _, rfl, _, rfl, U, _, rfl, .inl (lof (s11 _ _ (g10.ex _ _ kU))), rfl, flat_strs, _, rfl, ?_⟩
      rw [inV_str]
      by_cases hm : y ∈ (cs.map (·.2.1) ++ ts.map (·.2.1))
      · rw [decide_eq_true hm]
        exact iteF (q2 _ (by show (if y ∈ _ then none else some (V.str y)) = none; rw [if_pos hm]) (Same.refl _))
      · rw [decide_eq_false hm]
        exact iteT ⟨_, rfl, q1 _ _ (by show (if y ∈ _ then none else some (V.str y)) = _; rw [if_neg hm]) (Same.refl _)⟩
    have e4 : H11 D4 = some (.lst ((((tl abc).map qw).filter (fun y => !decide (y ∈ (cs.map (·.2.1) ++ ts.map (·.2.1))))).map V.str)) := by
      rw [hD4, List.filterMap_map]
      congr 2
      rw [← List.map_id ((tl abc).map qw), ← filterMap_if (f := id), List.map_id]
      rfl
    obtain ⟨x, r', ex, nx⟩ := some_new2 ul
    rw [ex] at e4
    have g11 := g10.same s11
    refine ⟨D4, _, 0, .str x, rfl, rfl, lof e4, atI_lt (by decide) (by rw [List.length_map, List.length_cons]; omega) rfl, ?_⟩
    clear e3 e4 hD3 hD4 nD3 nD4 g10 s10 s11 ex
    have s59 : Same B B9 := s05.trans s9
    have hcl9 := s9 _ _ hcl5
    have htb9 := s9 _ _ htb5
    have c9 := c5.same s9
    have t9 := t5.same s9
    have p9 := p5.same s9
    -- the things asked
    obtain ⟨r0, cs', ecs⟩ : ∃ r0 cs', cs = r0 :: cs' := by
      cases cs with
      | nil => have := okc.len; simp at this
      | cons r0 cs' => exact ⟨r0, cs', rfl⟩
    have hr0 : r0 ∈ cs := by rw [ecs]; exact List.mem_cons_self
    have at0 : atI (cs.map cv) 0 = some (cv r0) := atI_lt (by decide) (by rw [List.length_map]; have := okc.len; omega) (by rw [ecs]; rfl)
    have tne : ts ≠ [] := fun e => by have := okt.len; rw [e] at this; simp at this
    have atl : atI (ts.map tv) (-1) = some (tv (ts.getLast tne)) := by
      conv => lhs; rw [← List.dropLast_concat_getLast tne, List.map_append]
      exact atI_last _ _
    have hrl : ts.getLast tne ∈ ts := List.getLast_mem tne
    refine ⟨_, rfl, _, rfl, _, rfl, cl, _, 0, _, rfl, rfl, lof (g11.ex _ _ hcl9), at0, _, rfl, 1, rfl, tb, _, -1, _, rfl, rfl, lof (g11.ex _ _ htb9), atl, by show 4 ≤ sizeLine; decide, fun TT nTT => ?_⟩
    have g12 := g11.add (o := .tup [v, V.str x, cv r0, tv (ts.getLast tne)]) nTT
    have s12 : Same B9 (upd B9 TT (.tup [v, V.str x, cv r0, tv (ts.getLast tne)])) := same_new (g11.free nTT)
    have kT : (upd B9 TT (.tup [v, V.str x, cv r0, tv (ts.getLast tne)])) TT = some (.tup [v, V.str x, cv r0, tv (ts.getLast tne)]) := upd_same
    generalize upd B9 TT (.tup [v, V.str x, cv r0, tv (ts.getLast tne)]) = B12 at g12 s12 kT
    generalize upd H11 TT (.tup [v, V.str x, cv r0, tv (ts.getLast tne)]) = H12 at g12 ⊢
    clear nTT g11
    have s012 : Same B B12 := s59.trans s12
    have items : ∀ y ∈ [v, V.str x, cv r0, tv (ts.getLast tne)], Odd cs ts B12 y := by
      intro y hy
      simp only [List.mem_cons, List.not_mem_nil, or_false] at hy
      rcases hy with rfl | rfl | rfl | rfl
      · exact ov.same (s9.trans s12)
      · exact .inr (.inr (.inr (.inl ⟨x, rfl, fun h => nx (List.mem_append_left _ h), fun h => nx (List.mem_append_right _ h)⟩)))
      · exact .inr (.inr (.inr (.inr (.inl ⟨r0.1, _, rfl, s012 _ _ (okc.row r0 hr0)⟩))))
      · exact .inr (.inr (.inr (.inr (.inl ⟨_, _, rfl, s012 _ _ (okt.row _ hrl)⟩))))
    have p12 := pl.same s012
    have c12 := okc.same s012
    have t12 := okt.same s012
    have hcl12 := s012 _ _ hcl
    have htb12 := s012 _ _ htb
    obtain ⟨dx, ct, tt, sz, sp, sh, ks, h1, _⟩ := id p12
    refine ⟨TT, rfl, ⟨_, tof (g12.ex _ _ kT)⟩, for_tup (K := K) (a := TT) (xs := [v, V.str x, cv r0, tv (ts.getLast tne)]) (fun i σ H' => ∃ x8, σ = [some (.ref a), some (.ref p), some (.ref cl), some (.ref tb), some v, some (.str abc), some (.ref U), some (.str x), x8, none, none, none, none, none, none] ∧ Gd a c B12 H')
      ⟨none, rfl, g12⟩ (fun i σ H' _ ⟨_, _, g'⟩ => tof (g'.ex _ _ kT)) ?_ ?_⟩
    · rintro i y σ H' hy ⟨x8, rfl, g'⟩
      have oy := items y (List.mem_of_getElem? hy)
      have pl' := p12.same g'.ex
      have h1' := g'.ex _ _ h1
      rcases (oy.same g'.ex).abs (K := K) with n | ⟨z, rfl, n1, n2⟩
      · refine ⟨_, rfl, p, dx, _, rfl, h1', no_size, _, rfl, rfl, p, y, cs, ts, rfl, pl', .inr ⟨n, ?_⟩⟩
        refine ⟨_, rfl, ?_⟩
        rw [decide_eq_true rfl]
        refine iteF ?_
        refine ⟨_, rfl, p, dx, _, rfl, h1', no_sides, _, rfl, rfl, p, y, cs, ts, rfl, pl', .inr ⟨n, ?_⟩⟩
        refine ⟨_, rfl, ?_⟩
        rw [decide_eq_true rfl]
        exact iteF ⟨_, rfl, g'⟩
      · refine ⟨_, rfl, p, dx, _, rfl, h1', no_size, _, rfl, rfl, p, _, cs, ts, rfl, pl', .inl ⟨z, rfl, ?_⟩⟩
        rw [sizeV_no n1]
        refine ⟨_, rfl, ?_⟩
        rw [decide_eq_true rfl]
        refine iteF ?_
        refine ⟨_, rfl, p, dx, _, rfl, h1', no_sides, _, rfl, rfl, p, _, cs, ts, rfl, pl', .inl ⟨z, rfl, ?_⟩⟩
        rw [sidesV_no n2]
        refine ⟨_, rfl, ?_⟩
        rw [decide_eq_true rfl]
        exact iteF ⟨_, rfl, g'⟩
    · rintro σ H13 ⟨x8, rfl, g13⟩
      have small2 : ∀ {ws us : List Str}, ws.length ≤ 8 → ((ws.filter (fun z => !decide (z ∈ us))).map V.str).length < sizeLine := fun {ws us} h => by
        rw [List.length_map]; exact Nat.lt_of_le_of_lt (Nat.le_trans (List.length_filter_le _ _) h) (by decide)
      -- the tables' names that are no columns'
      refine ⟨_, rfl, tb, rfl, ⟨_, lof (g13.ex _ _ htb12)⟩, fun O nO => lc_same (B := H13) walk_list rfl (Same.refl H13) nO (fun H e => lof (e _ _ (g13.ex _ _ htb12))) smallT (rowFn ts (·.1) (fun r => if r.2.1 ∈ cs.map (·.2.1) then none else some (V.str r.2.1)) none) (fun y H14 Q1 Q2 hy s14 q1 q2 => ?_) (fun H14 s14 hO => ?_)⟩
      · obtain ⟨r, hr', rfl⟩ := List.mem_map.mp hy
        have e14 := g13.ex.trans s14
        refine ⟨r.1, _, rfl, tof (e14 _ _ (t12.row r hr')), rfl, _, _, rfl, _, _, rfl, rfl, rfl, ?_⟩
        refine ⟨_, rfl, _, rfl, cl, rfl, ⟨_, lof (e14 _ _ hcl12)⟩, fun D nD => lc_same (B := H14) walk_list rfl (Same.refl H14) nD (fun H e => lof (e _ _ (e14 _ _ hcl12))) smallC (rowFn cs (·.1) (fun r => some (V.str r.2.1)) none) (fun y H15 Q3 Q4 hy s15 q3 q4 => ?_) (fun H15 s15 hD => ?_)⟩
        · obtain ⟨r2, hr2, rfl⟩ := List.mem_map.mp hy
          refine ⟨rfl, ?_⟩
          refine iteT (B := Q4 H15) ?_
          exact ⟨_, rfl, r2.1, _, 0, .str r2.2.1, rfl, rfl, tof (s15 _ _ (e14 _ _ (c12.row r2 hr2))), rfl, q3 _ _ (colName_at okc hr2) (Same.refl _)⟩
        · rw [colNames okc] at hD
          refine ⟨D, _, rfl, .inl (lof hD), rfl, flat_strs, _, rfl, ?_⟩
          rw [inV_str]
          by_cases hm : r.2.1 ∈ cs.map (·.2.1)
          · rw [decide_eq_true hm]
            exact iteF (q2 _ (by rw [tabOut_at okt hr', if_pos hm]) s15)
          · rw [decide_eq_false hm]
            exact iteT ⟨_, rfl, q1 _ _ (by rw [tabOut_at okt hr', if_neg hm]) s15⟩
      rw [tabsOut okt] at hO
      have g14 := g13.same s14
      refine ⟨_, rfl, O, rfl, ⟨_, lof hO⟩, fun D nD => lc_same (B := H14) walk_list rfl (Same.refl H14) nD (fun H e => lof (e _ _ hO)) (small2 (by rw [List.length_map]; exact okt.len.2)) (fun _ => none) (fun y H15 Q1 Q2 hy s15 q1 q2 => ?_) (fun H15 s15 hD => ?_)⟩
      · obtain ⟨z, hz, rfl⟩ := List.mem_map.mp hy
        have nz := not_new hy
        have e15 := g14.ex.trans s15
        refine ⟨rfl, _, rfl, p, dx, _, rfl, e15 _ _ h1, no_size, _, rfl, p, .str z, cs, ts, rfl, p12.same e15, .inl ⟨z, rfl, ?_⟩⟩
        rw [sizeV_no nz]
        refine ⟨_, rfl, ?_⟩
        rw [decide_eq_true rfl]
        exact iteF (q2 _ rfl (Same.refl _))
      have eD : H15 D = some (.lst []) := by rw [hD]; congr 2; exact List.filterMap_eq_nil_iff.mpr fun _ _ => rfl
      have g15 := g14.same s15
      refine ⟨Nat.zero_le _, fun e ne => ?_⟩
      have s16 : Same H15 (upd H15 e (.lst [])) := same_new ne
      refine ne_nil (B := H15) (xs := []) (fun _ z => nomatch z) s16 (s16 _ _ eD) upd_same ⟨_, rfl, ?_⟩
      rw [decide_eq_true rfl]
      refine iteF ?_
      have g16 := g15.same s16
      generalize upd H15 e (.lst []) = H16 at g16 ⊢
      clear g15 g14 g13 s14 s15 s16 hO eD hD nD nO ne
      -- the columns' names that are no tables'
      refine ⟨_, rfl, cl, rfl, ⟨_, lof (g16.ex _ _ hcl12)⟩, fun O2 nO => lc_same (B := H16) walk_list rfl (Same.refl H16) nO (fun H e => lof (e _ _ (g16.ex _ _ hcl12))) smallC (rowFn cs (·.1) (fun r => if r.2.1 ∈ ts.map (·.2.1) then none else some (V.str r.2.1)) none) (fun y H14 Q1 Q2 hy s14 q1 q2 => ?_) (fun H14 s14 hO => ?_)⟩
      · obtain ⟨r, hr', rfl⟩ := List.mem_map.mp hy
        have e14 := g16.ex.trans s14
        refine ⟨r.1, _, rfl, tof (e14 _ _ (c12.row r hr')), rfl, _, _, rfl, _, _, rfl, rfl, rfl, ?_⟩
        refine ⟨_, rfl, _, rfl, tb, rfl, ⟨_, lof (e14 _ _ htb12)⟩, fun D nD => lc_same (B := H14) walk_list rfl (Same.refl H14) nD (fun H e => lof (e _ _ (e14 _ _ htb12))) smallT (rowFn ts (·.1) (fun r => some (V.str r.2.1)) none) (fun y H15 Q3 Q4 hy s15 q3 q4 => ?_) (fun H15 s15 hD => ?_)⟩
        · obtain ⟨r2, hr2, rfl⟩ := List.mem_map.mp hy
          refine ⟨rfl, ?_⟩
          refine iteT (B := Q4 H15) ?_
          exact ⟨_, rfl, r2.1, _, 0, .str r2.2.1, rfl, rfl, tof (s15 _ _ (e14 _ _ (t12.row r2 hr2))), rfl, q3 _ _ (tabName_at okt hr2) (Same.refl _)⟩
        · rw [tabNames okt] at hD
          refine ⟨D, _, rfl, .inl (lof hD), rfl, flat_strs, _, rfl, ?_⟩
          rw [inV_str]
          by_cases hm : r.2.1 ∈ ts.map (·.2.1)
          · rw [decide_eq_true hm]
            exact iteF (q2 _ (by rw [colOut_at okc hr', if_pos hm]) s15)
          · rw [decide_eq_false hm]
            exact iteT ⟨_, rfl, q1 _ _ (by rw [colOut_at okc hr', if_neg hm]) s15⟩
      rw [colsOut okc] at hO
      have g14 := g16.same s14
      refine ⟨_, rfl, O2, rfl, ⟨_, lof hO⟩, fun D nD => lc_same (B := H14) walk_list rfl (Same.refl H14) nD (fun H e => lof (e _ _ hO)) (small2 (by rw [List.length_map]; have := okc.len; omega)) (fun _ => none) (fun y H15 Q1 Q2 hy s15 q1 q2 => ?_) (fun H15 s15 hD => ?_)⟩
      · obtain ⟨z, hz, rfl⟩ := List.mem_map.mp hy
        have nz := not_new hy
        have e15 := g14.ex.trans s15
        refine ⟨rfl, _, rfl, p, dx, _, rfl, e15 _ _ h1, no_sides, _, rfl, p, .str z, cs, ts, rfl, p12.same e15, .inl ⟨z, rfl, ?_⟩⟩
        rw [sidesV_no nz]
        refine ⟨_, rfl, ?_⟩
        rw [decide_eq_true rfl]
        exact iteF (q2 _ rfl (Same.refl _))
      have eD : H15 D = some (.lst []) := by rw [hD]; congr 2; exact List.filterMap_eq_nil_iff.mpr fun _ _ => rfl
      have g15 := g14.same s15
      refine ⟨Nat.zero_le _, fun e ne => ?_⟩
      have s16 : Same H15 (upd H15 e (.lst [])) := same_new ne
      refine eq_nil (B := H15) (xs := []) (fun _ z => nomatch z) s16 (s16 _ _ eD) upd_same ?_
      rw [decide_eq_true rfl]
      exact q _ ((g15.same s16).less s012)
end
end As

/-! ## B14 -/
namespace As
open PySem PySem.Spec PyProof.Rows L2 TL
theorem perm_rows {ρ : Type} {f : ρ → V} {ys zs : List V} (p : ys.Perm zs) : ∀ rs : List ρ, zs = rs.map f → ∃ rs' : List ρ, rs'.Perm rs ∧ ys = rs'.map f := by
  induction p with
  | nil =>
    intro rs e
    cases rs with
    | nil => exact ⟨[], .refl _, rfl⟩
    | cons => cases e
  | cons x _ ih =>
    intro rs e
    cases rs with
    | nil => cases e
    | cons r t =>
      injection e with e1 e2
      obtain ⟨rs', p', e'⟩ := ih t e2
      exact ⟨r :: rs', p'.cons r, by rw [e1, e']; rfl⟩
  | swap x y l =>
    intro rs e
    match rs, e with
    | r :: u :: t, e =>
      injection e with e1 e2
      injection e2 with e2 e3
      exact ⟨u :: r :: t, .swap r u t, by rw [e1, e2, e3]; rfl⟩
  | trans _ _ ih1 ih2 =>
    intro rs e
    obtain ⟨rs', p', e'⟩ := ih2 rs e
    obtain ⟨rs'', p'', e''⟩ := ih1 rs' e'
    exact ⟨rs'', p''.trans p', e''⟩
theorem ColsOk.perm {H : Hp} {cs cs' : List CRow} (ok : ColsOk H cs) (p : cs'.Perm cs) : ColsOk H cs' :=
  ⟨fun r hr => ok.row r (p.mem_iff.mp hr), by rw [p.length_eq]; exact ok.len, fun r hr => ok.nm r (p.mem_iff.mp hr), fun r hr => ok.sz r (p.mem_iff.mp hr), (p.map _).nodup_iff.mpr ok.nd⟩
theorem TabsOk.cols {H : Hp} {cs cs' : List CRow} {ts : List TRow} (ok : TabsOk H (cs.map (·.2.1)) ts) (p : cs'.Perm cs) : TabsOk H (cs'.map (·.2.1)) ts :=
  ⟨ok.row, ok.prt, ok.len, ok.nm, ok.two, fun r hr x hx => (p.map _).mem_iff.mpr (ok.own r hr x hx), ok.nd⟩
theorem TabsOk.perm {H : Hp} {cs : List Str} {ts ts' : List TRow} (ok : TabsOk H cs ts) (p : ts'.Perm ts) : TabsOk H cs ts' :=
  ⟨fun r hr => ok.row r (p.mem_iff.mp hr), fun r hr => ok.prt r (p.mem_iff.mp hr), by rw [p.length_eq]; exact ok.len, fun r hr => ok.nm r (p.mem_iff.mp hr), fun r hr => ok.two r (p.mem_iff.mp hr), fun r hr => ok.own r (p.mem_iff.mp hr), (p.map _).nodup_iff.mpr ok.nd⟩
theorem plain_col {K : PySem.W.Frag} {B : Hp} {cs : List CRow} (ok : ColsOk B cs) : ∀ x ∈ cs.map cv, Plain K B x := fun x hx => by
  obtain ⟨r, hr, rfl⟩ := List.mem_map.mp hx
  have h := name_ok (ok.nm r hr)
  exact ⟨colD r.2, .tup (tof (ok.row r hr)) (.cons (.str _) (.cons (.int _) .nil)), by simp [colD, PyData.canLay0, PyData.canLayAll0, h], by simp [colD, PyData.depth, PyData.depthAll]⟩
theorem plain_tab {K : PySem.W.Frag} {B : Hp} {cs : List CRow} {ts : List TRow} (okc : ColsOk B cs) (ok : TabsOk B (cs.map (·.2.1)) ts) : ∀ x ∈ ts.map tv, Plain K B x := fun x hx => by
  obtain ⟨r, hr, rfl⟩ := List.mem_map.mp hx
  have h := name_ok (ok.nm r hr)
  have h2 : PyData.canLayAll0 (r.2.2.2.map .str) = true := strs_lay fun y hy => by
    obtain ⟨c, hc, rfl⟩ := List.mem_map.mp (ok.own r hr y hy)
    exact name_ok (okc.nm c hc)
  have h3 := strs_depth (xs := r.2.2.2)
  refine ⟨tabD (tkey r), .tup (tof (ok.row r hr)) (.cons (.str _) (.cons (.tup (tof (ok.prt r hr)) dp_strs) .nil)), ?_, ?_⟩
  · show PyData.canLay0 (.tuple [.str r.2.1, .tuple (r.2.2.2.map .str)]) = true
    simp only [PyData.canLay0, PyData.canLayAll0, h, h2, Bool.and_true]
  · show PyData.depth (.tuple [.str r.2.1, .tuple (r.2.2.2.map .str)]) ≤ 2
    simp only [PyData.depth, PyData.depthAll, h3]
    omega
theorem cut_1 {xs : List V} (h : 1 ≤ xs.length) : cutV xs (some 1) none = xs.drop 1 := by
  unfold cutV
  rw [HT.sIx_none, show (1 : Int) = ((1 : Nat) : Int) from rfl, HT.sIx_nat, Nat.min_eq_left h, List.take_of_length_le (by rw [List.length_drop]; exact Nat.le_refl _)]
theorem cut1_ {xs : List V} (h : 1 ≤ xs.length) : cutV xs none (some 1) = xs.take 1 := by
  unfold cutV
  rw [HT.sIx_none, show (1 : Int) = ((1 : Nat) : Int) from rfl, HT.sIx_nat, Nat.min_eq_left h, List.drop_zero, Nat.sub_zero]
theorem rot_perm {α : Type} (xs : List α) : (xs.drop 1 ++ xs.take 1).Perm xs := by
  refine List.perm_append_comm.trans ?_
  rw [List.take_append_drop]
/-- a new plan -/
theorem make_plan {K : PySem.W.Frag} {H : Hp} {C x dx a b : Addr} {cs : List CRow} {ts : List TRow} {R : VK} {E : XK} (nx : H x = none) (nd : H dx = none) (ne : dx ≠ x) (ha : Sq H a (cs.map cv)) (hb : Sq H b (ts.map tv)) (okc : ColsOk H cs) (okt : TabsOk H (cs.map (·.2.1)) ts)
    (q : ∀ H', Same H H' → PlanAt H' C x cs ts → R .non H') : spInit K C (V.ref x :: ([V.ref a, V.ref b] ++ [])) (upd (upd H dx (.own x)) x (.ins C dx [])) R E := by
  have s1 : Same H (upd (upd H dx (.own x)) x (.ins C dx [])) := fun c o e => by rw [upd_ne (ne_of_none e nx), upd_ne (ne_of_none e nd)]; exact e
  exact ⟨x, dx, a, b, cs, ts, rfl, upd_same, ha.same s1, hb.same s1, okc.same s1, okt.same s1, fun H' but pl => q H' (fun c o e => but c o (ne_of_none e nx) (s1 _ _ e)) pl⟩
/-- all that stands but four lists -/
def but4 (H : Hp) (a c f g : Addr) : Hp := fun b => if b = a ∨ b = c ∨ b = f ∨ b = g then none else H b
theorem but4_at {H : Hp} {a c f g b : Addr} (h1 : b ≠ a) (h2 : b ≠ c) (h3 : b ≠ f) (h4 : b ≠ g) : but4 H a c f g b = H b := if_neg (by rintro (h | h | h | h) <;> contradiction)
theorem but4_same {H : Hp} {a c f g : Addr} : Same (but4 H a c f g) H := fun b o e => by
  unfold but4 at e
  split at e
  · cases e
  · exact e
theorem PlanAt.to {H B : Hp} {C p : Addr} {cs : List CRow} {ts : List TRow} (h : PlanAt H C p cs ts) (t : ∀ b o, H b = some o → (∀ xs, o ≠ .lst xs) → B b = some o) : PlanAt B C p cs ts := by
  obtain ⟨dx, ct, tt, sz, sp, sh, ks, h1, h2, h3, h4, h5, hs, h6⟩ := h
  exact ⟨dx, ct, tt, sz, sp, sh, ks, t _ _ h1 (fun _ z => nomatch z), t _ _ h2 (fun _ z => nomatch z), t _ _ h3 (fun _ z => nomatch z), t _ _ h4 (fun _ z => nomatch z), t _ _ h5 (fun _ z => nomatch z), t _ _ hs (fun _ z => nomatch z), paired_imp (fun _ _ r => ⟨r.1, r.2.elim fun q z => ⟨q, z.1, t _ _ z.2 (fun _ z => nomatch z)⟩⟩) h6⟩
/-- the plan made in one of two ways -/
theorem make_either {K : PySem.W.Frag} {H B : Hp} {C a c f g : Addr} {cs : List CRow} {ts : List TRow} {σ : L2.St} {Q : VK} (G : Gd a c B H) (hσ1 : σ[1]? = some (some (.ref a))) (hσ5 : σ[5]? = some (some (.ref f))) (hσ6 : σ[6]? = some (some (.ref g)))
    (hf : H f = some (.lst (cs.map cv))) (hg : H g = some (.lst (ts.map tv))) (fa : f ≠ a ∧ f ≠ c) (ga : g ≠ a ∧ g ≠ c) (okc : ColsOk B cs) (okt : TabsOk B (cs.map (·.2.1)) ts)
    (q : ∀ p H', Gd a c B H' → H' f = some (.lst (cs.map cv)) → H' g = some (.lst (ts.map tv)) → PlanAt H' C p cs ts → Q (.ref p) H') :
    tIf (tTest (tOp rEq (tCall spDraw [] E0 (tCons (tVar 1) (tCons (tC (.int 2)) tNil))) (tC (.int 0)))) (tMake C (spInit K C) [] E0 (tCons (tVar 5) (tCons (tVar 6) tNil))) (tMake C (spInit K C) [] E0 (tCons (tThen (tVar 5) (kTup K)) (tCons (tThen (tVar 6) (kTup K)) tNil))) σ H Q := by
  refine ⟨_, hσ1, a, c, 2, rfl, G.st, by decide, by decide, fun r H1 r0 r1 st1 fr1 => ⟨rfl, _, rfl, ?_⟩⟩
  have G1 := G.fr fr1 st1
  have hf1 := fr1 _ _ fa.1 fa.2 hf
  have hg1 := fr1 _ _ ga.1 ga.2 hg
  refine ite2 (fun _ => ?_) (fun _ => ?_)
  · refine ⟨_, hσ5, _, hσ6, fun x dx nx nd ne => make_plan nx nd ne (.inl hf1) (.inl hg1) (okc.same G1.ex) (okt.same G1.ex) fun H' s' pl => ⟨rfl, q x H' (G1.same s') (s' _ _ hf1) (s' _ _ hg1) pl⟩⟩
  · refine ⟨_, hσ5, kTup_seq (.inl hf1) fun t1 H2 s2 ht1 => ⟨_, hσ6, kTup_seq (.inl (s2 _ _ hg1)) fun t2 H3 s3 ht2 => ?_⟩⟩
    have s23 := s2.trans s3
    exact fun x dx nx nd ne => make_plan nx nd ne (.inr (s3 _ _ ht1)) (.inr ht2) (okc.same (G1.ex.trans s23)) (okt.same (G1.ex.trans s23)) fun H' s' pl => ⟨rfl, q x H' (G1.same (s23.trans s')) (s' _ _ (s23 _ _ hf1)) (s' _ _ (s23 _ _ hg1)) pl⟩
theorem dec_sym {α : Type} [DecidableEq α] {x y : α} : decide (x = y) = decide (y = x) := by
  by_cases h : x = y
  · subst h; rfl
  · rw [decide_eq_false h, decide_eq_false (fun e => h e.symm)]
theorem flip1 {α : Type} [DecidableEq α] {x y : α} {b : Bool} (hb : b = true) : V.bl (!decide (V.bl (id (decide (x = y) && b)) = V.bl (decide (y = x)))) = V.bl false := by
  subst hb
  rw [Bool.and_true, dec_sym (x := x)]
  simp
theorem flip2 {α : Type} [DecidableEq α] {x y : α} {b : Bool} (hb : b = true) : V.bl (!decide (V.bl (id (b && decide (x = y))) = V.bl (decide (y = x)))) = V.bl false := by
  subst hb
  rw [Bool.true_and, dec_sym (x := x)]
  simp
section
variable {P : Program} {w : World} {K : PySem.W.Frag} {mg : Str → Option Value} {base : Heap}
def spLaw (K : PySem.W.Frag) : Sp := fun vs H Q _ => ∃ (s : Addr) (ns : List Int), vs = [.ref s] ∧ SqL K H s (ns.map V.int) ∧ ns.length ≤ 63 ∧ ∀ H', Q (.bl true) H'
abbrev nLaw : List Str := ["script", "state", "turn", "columns", "tables", "first", "second", "plan", "other"]
theorem sc_law : FnScope nLaw ["script"] (defScope s_law) := ⟨rfl, rfl, rfl, by decide +kernel, rfl, by decide +kernel, by decide +kernel⟩
theorem ok_law {f fs fd' fm fc ft fk fn fi fe C : Addr} {fd ds dd dm dc dt dk dn di de : FuncData} (D : Df K mg "law" s_law ["script"] f fd) (T : Bi mg) (L : PlC K mg C) (Mk' : Mk K C fi) (bI : Binds K di ["self", "columns", "tables"] []) (Gi : FnOk P w K mg base CX0 4 fi di ["self", "columns", "tables"] (spInit K C))
    (eC : EqC K C fe) (bE : Binds K de ["self", "other"] []) (Ge : FnOk P w K mg base CX0 1 fe de ["self", "other"] (spEqP C))
    (Ds : Df K mg "_law_state" s_state ["script"] fs ds) (Gs : FnOk P w K mg base CX0 1 fs ds ["script"] (spState K)) (Dd : Df K mg "_law_draw" s_draw ["state", "size_most"] fd' dd) (Gd' : FnOk P w K mg base CX0 1 fd' dd ["state", "size_most"] spDraw)
    (Dm : Df K mg "_law_mixed" s_mixed ["state", "some"] fm dm) (Gm : FnOk P w K mg base CX0 2 fm dm ["state", "some"] (spMixed K)) (Dc : Df K mg "_law_columns" s_lcolumns ["state", "most", "size_most"] fc dc) (Gc : FnOk P w K mg base CX0 4 fc dc ["state", "most", "size_most"] spLCols)
    (Dt : Df K mg "_law_tables" s_ltables ["state", "columns", "most"] ft dt) (Gt : FnOk P w K mg base CX0 4 ft dt ["state", "columns", "most"] spLTabs) (Dk : Df K mg "_law_kept" s_kept ["plan", "columns", "tables"] fk dk) (Gk : FnOk P w K mg base CX0 3 fk dk ["plan", "columns", "tables"] (spKept C))
    (Dn : Df K mg "_law_none_right" s_none_right ["state", "plan", "columns", "tables"] fn dn) (Gn : FnOk P w K mg base CX0 3 fn dn ["state", "plan", "columns", "tables"] (spNone K C)) : FnOk P w K mg base CX0 6 f fd ["script"] (spLaw K) := by
  refine D.F.ok sc_law (fun vs H Q E h => ?_) (fun cdv A outer s H vs Q E hr h => ?_)
  · obtain ⟨sa, ns, rfl, _⟩ := h; rfl
  · obtain ⟨sa, ns, rfl, hs, hl, q⟩ := h
    obtain ⟨mc, u6, u8, rd, c6, c8⟩ := L.cls
    have hr1 : Room 1 _ := hr.mono (by decide)
    have hr2 : Room 2 _ := hr.mono (by decide)
    have hr3 : Room 3 _ := hr.mono (by decide)
    have hr4 : Room 4 _ := hr.mono (by decide)
    refine ⟨_, pss_cons (ps_set (i := 1) sc_law.nd rfl (Or.inl rfl) (pcall Ds Gs hr1 (pa_cons (pv 0) pa_nil)))
      (pss_cons (ps_if (pt_cmpR (op_neD (hu64 hr)) (pe_tup (pa_cons (ClX.pe_cval (pe_glob (v := .ref C) rfl L.m rfl)) (pa_cons (ClX.pe_cval (pe_glob (v := .ref C) rfl L.m rfl)) pa_nil))) (pe_tup (pa_cons pe_int (pa_cons pe_int pa_nil))) (nomark _)) (pss_one (ps_ret pe_bl)) pss_nil)
      (pss_cons (ps_for PassesOwn.never rfl (pi_range1 rfl T.range (pa_cons (pe_op op_add pe_int (pe_callB (call_min2 rfl) (by rfl) T.min (by decide +kernel) (pa_cons (pe_callB call_len_seq (by rfl) T.len PySem.boot_len (pa_cons (pv 0) pa_nil)) (pa_cons pe_int pa_nil)))) pa_nil)) (pg_name (i := 2) sc_law.nd rfl (Or.inl rfl))
        (pss_cons (ps_set (i := 3) sc_law.nd rfl (Or.inl rfl) (pcall Dc Gc hr4 (pa_cons (pv 1) (pa_cons pe_int (pa_cons pe_int pa_nil)))))
        (pss_cons (ps_set (i := 4) sc_law.nd rfl (Or.inl rfl) (pcall Dt Gt hr4 (pa_cons (pv 1) (pa_cons (pv 3) (pa_cons pe_int pa_nil)))))
        (pss_cons (ps_par (i := 5) (j := 6) rfl sc_law.nd rfl rfl (by decide) rfl rfl (pa_cons (pe_callTy call_list_of (by rfl) T.list boot_list (pa_cons (pv 3) pa_nil)) (pa_cons (pe_callTy call_list_of (by rfl) T.list boot_list (pa_cons (pv 4) pa_nil)) pa_nil)) (by rfl))
        (pss_cons (ps_set (i := 7) sc_law.nd rfl (Or.inl rfl) (pe_ifExp (pt_cmpR op_eq (pcall Dd Gd' hr1 (pa_cons (pv 1) (pa_cons pe_int pa_nil))) pe_int (nomark _))
            (pe_make Mk' Gi hr rfl L.m bI .nil pass0 (pa_cons (pv 5) (pa_cons (pv 6) pa_nil))) (pe_make Mk' Gi hr rfl L.m bI .nil pass0 (pa_cons (tupK K (hm := T.tuple) (pv 5)) (pa_cons (tupK K (hm := T.tuple) (pv 6)) pa_nil)))))
        (pss_cons (ps_expr (pe_bm0 PySem.F.plainAttrs_list PySem.F.slot_list_reverse PySem.F.type_list_reverse mt_reverse (pv 5)))
        (pss_cons (ps_expr (pe_bm0 PySem.F.plainAttrs_list PySem.F.slot_list_clear PySem.F.type_list_clear mt_clear (pv 6)))
        (pss_cons (ps_if (PW.pt (pw_or (pt_not (pt_val (pcall Dk Gk hr3 (pa_cons (pv 7) (pa_cons (pv 3) (pa_cons (pv 4) pa_nil)))))) (pw_or1 (pt_not (pt_val (pcall Dn Gn hr3 (pa_cons (pv 1) (pa_cons (pv 7) (pa_cons (pv 3) (pa_cons (pv 4) pa_nil)))))))))) (pss_one (ps_ret pe_bl)) pss_nil)
        (pss_cons (ps_if (PW.pt (pw_or (pt_not (pt_cmpR (op_eqOwn Ge hr1 bE eC) (pv 7) (pe_make Mk' Gi hr rfl L.m bI .nil pass0 (pa_cons (pv 3) (pa_cons (pv 4) pa_nil))) (nomark _)))
            (pw_or (pt_cmpR (op_eqOwn Ge hr1 bE eC) (pv 7) (pv 3) (nomark _)) (pw_or1 (pt_cmpR (op_neOwn Ge hr2 bE eC) (pv 7) (pe_make Mk' Gi hr rfl L.m bI .nil pass0 (pa_cons (tupK K (hm := T.tuple) (pv 3)) (pa_cons (pv 4) pa_nil))) (nomark _)))))) (pss_one (ps_ret pe_bl)) pss_nil)
        (pss_cons (ps_for PassesOwn.never rfl (pi_tup (pe_tup (pa_cons (pcall Dm Gm hr2 (pa_cons (pv 1) (pa_cons (pv 3) pa_nil))) (pa_cons (pe_op op_cat (pe_slice sl_list (pv 3) (po_some pe_int) po_none) (pe_slice sl_list (pv 3) po_none (po_some pe_int))) pa_nil)))) (pg_name (i := 8) sc_law.nd rfl (Or.inl rfl))
          (pss_one (ps_if (pt_cmpR op_ne (pe_cmpR (op_eqOwn Ge hr1 bE eC) (pv 7) (pe_make Mk' Gi hr rfl L.m bI .nil pass0 (pa_cons (pv 8) (pa_cons (pv 4) pa_nil))) (nomark _)) (pe_cmpR (op_eqD (hu64 hr)) (pv 8) (pv 3) (nomark _)) (nomark _)) (pss_one (ps_ret pe_bl)) pss_nil)))
        (pss_cons (ps_set (i := 8) sc_law.nd rfl (Or.inl rfl) (pcall Dm Gm hr2 (pa_cons (pv 1) (pa_cons (pv 4) pa_nil))))
        (pss_one (ps_if (PW.pt (pw_or (pt_cmpR op_ne (pe_cmpR (op_eqOwn Ge hr1 bE eC) (pv 7) (pe_make Mk' Gi hr rfl L.m bI .nil pass0 (pa_cons (pv 3) (pa_cons (pv 8) pa_nil))) (nomark _)) (pe_cmpR (op_eqD (hu64 hr)) (pv 8) (pv 4) (nomark _)) (nomark _))
            (pw_or1 (pt_not (pt_val (pcall Dk Gk hr3 (pa_cons (pv 7) (pa_cons (pv 3) (pa_cons (pv 4) pa_nil))))))))) (pss_one (ps_ret pe_bl)) pss_nil)))))))))))))
      (pss_one (ps_ret pe_bl)))), ?_⟩
    refine ⟨_, rfl, sa, ns, rfl, hs, hl, fun a c H1 g => ?_⟩
    -- the two constants
    refine ⟨C, mc, .int 6, u6, rfl, rd, c6, C, mc, .int 8, u8, rfl, rd, c8, by show 2 ≤ sizeLine; decide, fun t1 n1 => ⟨by show 2 ≤ sizeLine; decide, fun t2 n2 => ?_⟩⟩
    have g1 := g.new (o := .tup [V.int 6, V.int 8]) n1
    have k1 : (upd H1 t1 (.tup [V.int 6, V.int 8])) t1 = some (.tup [V.int 6, V.int 8]) := upd_same
    generalize upd H1 t1 (.tup [V.int 6, V.int 8]) = H2 at g1 k1 n2 ⊢
    have g2 := g1.new (o := .tup [V.int 6, V.int 8]) n2
    have k2 := same_new (o := .tup [V.int 6, V.int 8]) n2 _ _ k1
    have k3 : (upd H2 t2 (.tup [V.int 6, V.int 8])) t2 = some (.tup [V.int 6, V.int 8]) := upd_same
    generalize upd H2 t2 (.tup [V.int 6, V.int 8]) = H3 at g2 k2 k3 ⊢
    refine ⟨.tuple [.int 6, .int 8], .tuple [.int 6, .int 8], .tup (tof k2) (.cons (.int 6) (.cons (.int 8) .nil)), .tup (tof k3) (.cons (.int 6) (.cons (.int 8) .nil)), by decide +kernel, by decide +kernel, _, rfl, ?_⟩
    have e0 : PyData.eqv (.tuple [.int 6, .int 8]) (.tuple [.int 6, .int 8]) = true := by simp [PyData.eqv, PyData.eqvAll]
    rw [e0]
    refine iteF ?_
    clear k1 k2 k3 e0 n1 n2 g1
    have nsl : (ns.map V.int).length = ns.length := List.length_map _
    refine ⟨_, rfl, sa, _, rfl, .inl (g2.ex.seq hs), _, 12, rfl, 2, _, rfl, rfl, _, rfl, ?_, ?_, for_range (lo := 0) (fun i σ H' => ∃ x2 x3 x4 x5 x6 x7 x8, σ = [some (.ref sa), some (.ref a), x2, x3, x4, x5, x6, x7, x8] ∧ Gd a c H H') ⟨none, none, none, none, none, none, none, rfl, g2⟩ ?_ ?_⟩
    · split <;> omega
    · rw [nsl]; split <;> omega
    · rintro i σ H4 _ ⟨x2, x3, x4, x5, x6, x7, x8, rfl, g4⟩
      refine ⟨_, rfl, a, c, 6, 6, H, rfl, g4, ⟨by decide, by decide⟩, ⟨by decide, by decide⟩, fun cl cs B5 H5 s5 g5 n5 hcl okc => ?_⟩
      refine ⟨_, rfl, _, rfl, a, c, cl, 8, cs, B5, rfl, g5, hcl, okc, ⟨by decide, by decide⟩, fun tb ts B6 H6 s6 g6 n6 htb okt => ?_⟩
      have hcl6 := s6 _ _ hcl
      have okc6 := okc.same s6
      have s06 := s5.trans s6
      clear s5 s6 g5 n5 hcl okc n6
      -- the two lists that are changed later
      refine ⟨_, rfl, cl, _, rfl, .inl (lof (g6.ex _ _ hcl6)), fun F1 nF1 => ?_⟩
      have g7 := g6.new (o := .lst (cs.map cv)) nF1
      have hF1 : (upd H6 F1 (.lst (cs.map cv))) F1 = some (.lst (cs.map cv)) := upd_same
      have F1a := g6.ne_a nF1
      have F1c := g6.ne_c nF1
      have b1 := g6.free nF1
      generalize upd H6 F1 (.lst (cs.map cv)) = H7 at g7 hF1 ⊢
      refine ⟨_, rfl, tb, _, rfl, .inl (lof (g7.ex _ _ htb)), fun F2 nF2 => ⟨_, _, rfl, ?_⟩⟩
      have g8 := g7.new (o := .lst (ts.map tv)) nF2
      have n12 : F1 ≠ F2 := ne_of_none hF1 nF2
      have hF1' : (upd H7 F2 (.lst (ts.map tv))) F1 = some (.lst (cs.map cv)) := by rw [upd_ne n12]; exact hF1
      have hF2 : (upd H7 F2 (.lst (ts.map tv))) F2 = some (.lst (ts.map tv)) := upd_same
      have F2a := g7.ne_a nF2
      have F2c := g7.ne_c nF2
      have b2 := g7.free nF2
      generalize upd H7 F2 (.lst (ts.map tv)) = H8 at g8 hF1' hF2 ⊢
      clear nF1 nF2 hF1 g7
      refine make_either g8 rfl rfl rfl hF1' hF2 ⟨F1a, F1c⟩ ⟨F2a, F2c⟩ okc6 okt fun p H9 g9 h1 h2 pl9 => ?_
      -- what stands for good from here on
      have sBp : Same (but4 H9 a c F1 F2) H9 := but4_same
      have s6p : Same B6 (but4 H9 a c F1 F2) := fun b o e => by
        rw [but4_at (ne_of_none e g9.na) (ne_of_none e g9.nc) (ne_of_none e b1) (ne_of_none e b2)]; exact g9.ex _ _ e
      have lists : ∀ b o, H9 b = some o → (∀ xs, o ≠ .lst xs) → (but4 H9 a c F1 F2) b = some o := fun b o e n => by
        obtain ⟨i', z', ks', nac, ea, ec, _⟩ := g9.st
        rw [but4_at (ne_lst ea e n) (ne_lst ec e n) (ne_lst h1 e n) (ne_lst h2 e n)]; exact e
      have pl := pl9.to lists
      have gp : Gd a c (but4 H9 a c F1 F2) H9 := ⟨sBp, if_pos (.inl rfl), if_pos (.inr (.inl rfl)), g9.st⟩
      have pF1 : (but4 H9 a c F1 F2) F1 = none := if_pos (.inr (.inr (.inl rfl)))
      have pF2 : (but4 H9 a c F1 F2) F2 = none := if_pos (.inr (.inr (.inr rfl)))
      generalize but4 H9 a c F1 F2 = Bp at sBp s6p pl gp pF1 pF2
      clear lists pl9 g9 g8 g6 hF1' hF2
      refine ⟨_, rfl, .inl ⟨rfl, _, lof h1⟩, F1, _, rfl, rfl, h1, ?_⟩
      have g10 := gp.chg (o := .lst (cs.map cv).reverse) pF1 F1a F1c
      have h2' : (upd H9 F1 (.lst (cs.map cv).reverse)) F2 = some (.lst (ts.map tv)) := by rw [upd_ne n12.symm]; exact h2
      generalize upd H9 F1 (.lst (cs.map cv).reverse) = H10 at g10 h2' ⊢
      refine ⟨_, rfl, .inl ⟨rfl, _, lof h2'⟩, F2, _, rfl, rfl, h2', ?_⟩
      have g11 := g10.chg (o := .lst []) pF2 F2a F2c
      generalize upd H10 F2 (.lst []) = H11 at g11 ⊢
      clear gp g10 h1 h2 h2' sBp pF1 pF2 b1 b2
      have okcP := okc6.same s6p
      have oktP := okt.same s6p
      have hclP := s6p _ _ hcl6
      have htbP := s6p _ _ htb
      have s0p := s06.trans s6p
      clear okc6 okt hcl6 htb s06 s6p
      -- kept, and none of the others
      refine ⟨_, rfl, _, rfl, _, rfl, p, cl, tb, cs, ts, rfl, pl.same g11.ex, g11.ex _ _ hclP, g11.ex _ _ htbP, okcP.same g11.ex, oktP.same g11.ex, fun H12 s12 => ⟨true, rfl, iteF ?_⟩⟩
      refine ⟨_, rfl, _, rfl, _, rfl, _, rfl, a, c, p, cl, tb, cs, ts, Bp, rfl, g11.same s12, pl, hclP, htbP, okcP, oktP, fun H13 g13 => ⟨true, rfl, iteF ?_⟩⟩
      -- the plan and others
      obtain ⟨dxp, ctp, ttp, szp, spp, shp, ksp, hp, _⟩ := id pl
      refine ⟨_, rfl, _, rfl, _, rfl, fun y dy ny ndy ne => make_plan ny ndy ne (.inl (g13.ex _ _ hclP)) (.inl (g13.ex _ _ htbP)) (okcP.same g13.ex) (oktP.same g13.ex) fun H14 s14 pl2 => ⟨rfl, ?_⟩⟩
      have g14 := g13.same s14
      obtain ⟨dy2, _, _, _, _, _, _, hy, _⟩ := id pl2
      refine ⟨p, y, dxp, _, rfl, rfl, g14.ex _ _ hp, .inl ⟨_, _, hy⟩, p, y, cs, ts, rfl, pl.same g14.ex, okcP.same g14.ex, oktP.same g14.ex, .inl ⟨cs, ts, pl2, okcP.same g14.ex, oktP.same g14.ex, _, rfl, _, rfl, ?_⟩⟩
      rw [decide_eq_true rfl, decide_eq_true rfl]
      refine iteF ?_
      refine ⟨_, rfl, _, rfl, p, cl, dxp, _, rfl, rfl, g14.ex _ _ hp, .inr ⟨_, g14.ex _ _ hclP⟩, p, cl, cs, ts, rfl, pl.same g14.ex, okcP.same g14.ex, oktP.same g14.ex, .inr ⟨⟨_, g14.ex _ _ hclP⟩, _, rfl, _, rfl, iteF ?_⟩⟩
      clear pl2 hy
      refine ⟨_, rfl, _, rfl, kTup_seq (.inl (g14.ex _ _ hclP)) fun t1 H15 s15 ht1 => ⟨_, rfl, fun y dy ny ndy ne => make_plan ny ndy ne (.inr ht1) (.inl (s15 _ _ (g14.ex _ _ htbP))) (okcP.same (g14.ex.trans s15)) (oktP.same (g14.ex.trans s15)) fun H16 s16 pl2 => ⟨rfl, ?_⟩⟩⟩
      have g16 := g14.same (s15.trans s16)
      obtain ⟨dy2, _, _, _, _, _, _, hy, _⟩ := id pl2
      refine ⟨p, y, dxp, _, rfl, rfl, g16.ex _ _ hp, .inl ⟨_, _, hy⟩, p, y, cs, ts, rfl, pl.same g16.ex, okcP.same g16.ex, oktP.same g16.ex, .inl ⟨cs, ts, pl2, okcP.same g16.ex, oktP.same g16.ex, _, rfl, _, rfl, ?_⟩⟩
      rw [decide_eq_true rfl, decide_eq_true rfl]
      refine iteF ?_
      clear pl2 hy s14 s15 s16 ht1 g14 g13 g11 s12
      -- the columns in another order
      have len6 : (cs.map cv).length ≤ 6 ∧ 1 ≤ (cs.map cv).length := by rw [List.length_map]; exact ⟨okcP.len.2, okcP.len.1⟩
      refine ⟨_, rfl, _, rfl, a, c, cl, cs.map cv, Bp, rfl, g16, g16.ex _ _ hclP, Nat.le_trans len6.1 (by decide), plain_col okcP, fun m ys Bm Hm pm sm gm nm hm => ?_⟩
      obtain ⟨cm, pcm, rfl⟩ := perm_rows pm cs rfl
      have hcm := gm.ex _ _ (sm _ _ hclP)
      refine ⟨_, rfl, 1, rfl, cl, _, rfl, lof hcm, fun S1 nS1 => ?_⟩
      rw [cut_1 len6.2]
      have g17 := gm.add (o := .lst ((cs.map cv).drop 1)) nS1
      have s17 : Same Bm (upd Bm S1 (.lst ((cs.map cv).drop 1))) := same_new (gm.free nS1)
      have k17 : (upd Bm S1 (.lst ((cs.map cv).drop 1))) S1 = some (.lst ((cs.map cv).drop 1)) := upd_same
      generalize upd Bm S1 (.lst ((cs.map cv).drop 1)) = B17 at g17 s17 k17
      generalize upd Hm S1 (.lst ((cs.map cv).drop 1)) = H17 at g17 ⊢
      refine ⟨_, rfl, 1, rfl, cl, _, rfl, lof (g17.ex _ _ (s17 _ _ (sm _ _ hclP))), fun S2 nS2 => ?_⟩
      rw [cut1_ len6.2]
      have g18 := g17.new (o := .lst ((cs.map cv).take 1)) nS2
      have k18 : (upd H17 S2 (.lst ((cs.map cv).take 1))) S2 = some (.lst ((cs.map cv).take 1)) := upd_same
      generalize upd H17 S2 (.lst ((cs.map cv).take 1)) = H18 at g18 k18 ⊢
      refine ⟨S1, S2, _, _, rfl, rfl, g18.ex _ _ k17, k18, ?_, fun R nR => ?_⟩
      · rw [List.length_drop, List.length_take]
        exact Nat.le_trans (m := 6) (by omega) (by decide)
      have g19 := g18.add (o := .lst ((cs.map cv).drop 1 ++ (cs.map cv).take 1)) nR
      have s19 : Same B17 (upd B17 R (.lst ((cs.map cv).drop 1 ++ (cs.map cv).take 1))) := same_new (g18.free nR)
      have k19 : (upd B17 R (.lst ((cs.map cv).drop 1 ++ (cs.map cv).take 1))) R = some (.lst ((cs.drop 1 ++ cs.take 1).map cv)) := by rw [upd_same, List.map_append, List.map_drop, List.map_take]
      generalize upd B17 R (.lst ((cs.map cv).drop 1 ++ (cs.map cv).take 1)) = B19 at g19 s19 k19
      generalize upd H18 R (.lst ((cs.map cv).drop 1 ++ (cs.map cv).take 1)) = H19 at g19 ⊢
      refine ⟨by show 2 ≤ sizeLine; decide, fun TT nTT => ?_⟩
      have g20 := g19.add (o := .tup [.ref m, .ref R]) nTT
      have s20 : Same B19 (upd B19 TT (.tup [.ref m, .ref R])) := same_new (g19.free nTT)
      have k20 : (upd B19 TT (.tup [.ref m, .ref R])) TT = some (.tup [.ref m, .ref R]) := upd_same
      generalize upd B19 TT (.tup [.ref m, .ref R]) = B20 at g20 s20 k20
      generalize upd H19 TT (.tup [.ref m, .ref R]) = H20 at g20 ⊢
      have sm20 : Same Bm B20 := s17.trans (s19.trans s20)
      have others : ∀ x ∈ [V.ref m, V.ref R], ∃ (o : Addr) (co : List CRow), x = .ref o ∧ B20 o = some (.lst (co.map cv)) ∧ co.Perm cs := fun x hx => by
        simp only [List.mem_cons, List.not_mem_nil, or_false] at hx
        rcases hx with rfl | rfl
        · exact ⟨m, cm, rfl, sm20 _ _ hm, pcm⟩
        · exact ⟨R, _, rfl, s20 _ _ k19, rot_perm cs⟩
      have sp20 := sm.trans sm20
      have s020 := s0p.trans sp20
      have pl20 := pl.same sp20
      have hp20 := sp20 _ _ hp
      have okc20 := okcP.same sp20
      have okt20 := oktP.same sp20
      have hcl20 := sp20 _ _ hclP
      have htb20 := sp20 _ _ htbP
      clear k17 k18 k19 g17 g18 g19 s17 s19 s20 sm sm20 hm hcm nR nTT nS1 nS2 nm gm g16 pcm pm
      refine ⟨TT, rfl, ⟨_, tof (g20.ex _ _ k20)⟩, for_tup (K := K) (a := TT) (xs := [V.ref m, V.ref R]) (fun j σ H' => ∃ x8, σ = [some (.ref sa), some (.ref a), some (.int (0 + (i : Nat))), some (.ref cl), some (.ref tb), some (.ref F1), some (.ref F2), some (.ref p), x8] ∧ Gd a c B20 H')
        ⟨_, rfl, g20⟩ (fun j σ H' _ ⟨_, _, g'⟩ => tof (g'.ex _ _ k20)) ?_ ?_⟩
      · rintro j x σ H21 hx ⟨x8, rfl, g21⟩
        obtain ⟨o, co, rfl, ho, pco⟩ := others x (List.mem_of_getElem? hx)
        have okcO := okc20.perm pco
        have oktO := okt20.cols pco
        refine ⟨_, rfl, _, rfl, _, rfl, fun y dy ny ndy ne => make_plan ny ndy ne (.inl (g21.ex _ _ ho)) (.inl (g21.ex _ _ htb20)) (okcO.same g21.ex) (oktO.same g21.ex) fun H22 s22 pl2 => ⟨rfl, ?_⟩⟩
        have g22 := g21.same s22
        obtain ⟨dy2, _, _, _, _, _, _, hy, _⟩ := id pl2
        refine ⟨p, y, dxp, _, rfl, rfl, g22.ex _ _ hp20, .inl ⟨_, _, hy⟩, p, y, cs, ts, rfl, pl20.same g22.ex, okc20.same g22.ex, okt20.same g22.ex, .inl ⟨co, ts, pl2, okcO.same g22.ex, oktO.same g22.ex, _, rfl, ?_⟩⟩
        refine ⟨_, rfl, _, rfl, eq_colsL (g22.ex _ _ ho) (g22.ex _ _ hcl20) (okcO.same g22.ex) (okc20.same g22.ex) ⟨rfl, false, flip1 (decide_eq_true rfl), ?_⟩⟩
        exact iteF ⟨_, rfl, g22⟩
      · rintro σ H21 ⟨x8, rfl, g21⟩
        -- the tables in another order
        refine ⟨_, rfl, _, rfl, a, c, tb, ts.map tv, B20, rfl, g21, g21.ex _ _ htb20, by rw [List.length_map]; exact Nat.le_trans okt20.len.2 (by decide), plain_tab okc20 okt20, fun m2 ys Bm Hm pm sm gm nm hm => ?_⟩
        obtain ⟨tm, ptm, rfl⟩ := perm_rows pm ts rfl
        have plm := pl20.same sm
        have okcM := okc20.same sm
        have oktM := okt20.same sm
        have oktO := oktM.perm ptm
        have hclM := sm _ _ hcl20
        have htbM := sm _ _ htb20
        refine ⟨_, rfl, _, rfl, _, rfl, fun y dy ny ndy ne => make_plan ny ndy ne (.inl (gm.ex _ _ hclM)) (.inl (gm.ex _ _ hm)) (okcM.same gm.ex) (oktO.same gm.ex) fun H22 s22 pl2 => ⟨rfl, ?_⟩⟩
        have g22 := gm.same s22
        obtain ⟨dy2, _, _, _, _, _, _, hy, _⟩ := id pl2
        refine ⟨p, y, dxp, _, rfl, rfl, g22.ex _ _ (sm _ _ hp20), .inl ⟨_, _, hy⟩, p, y, cs, ts, rfl, plm.same g22.ex, okcM.same g22.ex, oktM.same g22.ex, .inl ⟨cs, tm, pl2, okcM.same g22.ex, oktO.same g22.ex, _, rfl, ?_⟩⟩
        refine ⟨_, rfl, _, rfl, eq_tabsL (g22.ex _ _ hm) (g22.ex _ _ htbM) (okcM.same g22.ex) (okcM.same g22.ex) (oktO.same g22.ex) (oktM.same g22.ex) ⟨rfl, false, flip2 (decide_eq_true rfl), ?_⟩⟩
        refine iteF ?_
        refine ⟨_, rfl, _, rfl, _, rfl, p, cl, tb, cs, ts, rfl, plm.same g22.ex, g22.ex _ _ hclM, g22.ex _ _ htbM, okcM.same g22.ex, oktM.same g22.ex, fun H23 s23 => ⟨true, rfl, iteF ?_⟩⟩
        exact ⟨_, _, _, _, _, _, _, rfl, (g22.same s23).less (s020.trans sm)⟩
    · rintro σ H4 ⟨x2, x3, x4, x5, x6, x7, x8, rfl, g4⟩
      exact q _
end
end As

/-! ## B15 -/
namespace As
open PySem PySem.Spec PyProof.Rows L2 TL
theorem kit_not {K : PySem.W.Frag} {T : String} {C : Addr} (h1 : PySem.W.hasDictIn K C = true) (h2 : PySem.W.typeIn K (.ref C) = some (.type "type")) (h3 : PySem.W.notFirst K C (.type T) = true) : PySem.W.kitOne K (.type T) (.ref C) = some false := by
  have e : ((Value.type T == Value.ref C) = true) = False := by simp
  obtain ⟨cd, hc, _⟩ := PySem.W.any_some h1
  unfold PySem.W.kitOne PySem.W.kitCls
  rw [if_neg (by rw [e]; exact id)]
  show (if ((PySem.W.clsIn K C).isSome && PySem.W.typeIn K (.ref C) == some (.type "type")) = true then PySem.W.subIn K (.type T) (.ref C) else none) = _
  rw [hc, h2, if_pos (by simp)]
  unfold PySem.W.notFirst at h3
  rw [Bool.or_eq_true] at h3
  rcases h3 with h3 | h3
  · rw [e] at h3; exact h3.elim
  · exact eq_of_beq h3
theorem all_mk {l : PySem.W.OpenLaw} {w : World} {K : PySem.W.Frag} {h : Heap} {mg : Str → Option Value} {fa C : Addr} {t6 t8 wMOST_LETTERS wMOST_VALUES wMOST_SIDES : Tok} (X : K.In h) (G : h.Ns mainGlobals mg) (hfa : mg "law" = some (.ref fa))
    {fnu : Addr} {odnu annu : Option Addr} {slnu : Array (Option Value)} {ocnu kVnu dcnu pmnu cdnu ctnu : Value} {fna : Addr} {odna anna : Option Addr} {slna : Array (Option Value)} {ocna kVna dcna pmna cdna ctna : Value} {fli : Addr} {odli anli : Option Addr} {slli : Array (Option Value)} {ocli kVli dcli pmli cdli ctli : Value} {fpa : Addr} {odpa anpa : Option Addr} {slpa : Array (Option Value)} {ocpa kVpa dcpa pmpa cdpa ctpa : Value} {fco : Addr} {odco anco : Option Addr} {slco : Array (Option Value)} {occo kVco dcco pmco cdco ctco : Value} {fta : Addr} {odta anta : Option Addr} {slta : Array (Option Value)} {octa kVta dcta pmta cdta ctta : Value} {fdi : Addr} {oddi andi : Option Addr} {sldi : Array (Option Value)} {ocdi kVdi dcdi pmdi cddi ctdi : Value} {fac : Addr} {odac anac : Option Addr} {slac : Array (Option Value)} {ocac kVac dcac pmac cdac ctac : Value} {fat : Addr} {odat anat : Option Addr} {slat : Array (Option Value)} {ocat kVat dcat pmat cdat ctat : Value} {fst : Addr} {odst anst : Option Addr} {slst : Array (Option Value)} {ocst kVst dcst pmst cdst ctst : Value} {fdr : Addr} {oddr andr : Option Addr} {sldr : Array (Option Value)} {ocdr kVdr dcdr pmdr cddr ctdr : Value} {fpi : Addr} {odpi anpi : Option Addr} {slpi : Array (Option Value)} {ocpi kVpi dcpi pmpi cdpi ctpi : Value} {fmi : Addr} {odmi anmi : Option Addr} {slmi : Array (Option Value)} {ocmi kVmi dcmi pmmi cdmi ctmi : Value} {fnm : Addr} {odnm annm : Option Addr} {slnm : Array (Option Value)} {ocnm kVnm dcnm pmnm cdnm ctnm : Value} {flc : Addr} {odlc anlc : Option Addr} {sllc : Array (Option Value)} {oclc kVlc dclc pmlc cdlc ctlc : Value} {flt : Addr} {odlt anlt : Option Addr} {sllt : Array (Option Value)} {oclt kVlt dclt pmlt cdlt ctlt : Value} {fke : Addr} {odke anke : Option Addr} {slke : Array (Option Value)} {ocke kVke dcke pmke cdke ctke : Value} {fno : Addr} {odno anno : Option Addr} {slno : Array (Option Value)} {ocno kVno dcno pmno cdno ctno : Value} {fla : Addr} {odla anla : Option Addr} {slla : Array (Option Value)} {ocla kVla dcla pmla cdla ctla : Value} {fin : Addr} {odin anin : Option Addr} {slin : Array (Option Value)} {ocin kVin dcin pmin cdin ctin : Value} {feq : Addr} {odeq aneq : Option Addr} {sleq : Array (Option Value)} {oceq kVeq dceq pmeq cdeq cteq : Value} {fso : Addr} {odso anso : Option Addr} {slso : Array (Option Value)} {ocso kVso dcso pmso cdso ctso : Value} {fsi : Addr} {odsi ansi : Option Addr} {slsi : Array (Option Value)} {ocsi kVsi dcsi pmsi cdsi ctsi : Value} {fsp : Addr} {odsp ansp : Option Addr} {slsp : Array (Option Value)} {ocsp kVsp dcsp pmsp cdsp ctsp : Value} {ppc : Addr} {restpc : List Value} {fpc : Addr} {odpc anpc : Option Addr} {slpc : Array (Option Value)} {ocpc kVpc dcpc pmpc cdpc ctpc : Value} {ppt : Addr} {restpt : List Value} {fpt : Addr} {odpt anpt : Option Addr} {slpt : Array (Option Value)} {ocpt kVpt dcpt pmpt cdpt ctpt : Value}
    (anu : PySem.W.nsIn K mainGlobals "is_number" = some (some (.ref fnu)))
    (lnu : K.lookup fnu = some ⟨ocnu, odnu, .func (PySem.W.fnOf "is_number" "is_number" (defArgs s_is_number) (defBody s_is_number) (defScope s_is_number) .none kVnu dcnu pmnu annu cdnu ctnu), slnu⟩)
    (cnu : PySem.W.codeIn K cdnu "is_number" = true)
    (knu : PySem.W.keepIn K (.ref fnu) = true)
    (ana : PySem.W.nsIn K mainGlobals "is_name" = some (some (.ref fna)))
    (lna : K.lookup fna = some ⟨ocna, odna, .func (PySem.W.fnOf "is_name" "is_name" (defArgs s_is_name) (defBody s_is_name) (defScope s_is_name) .none kVna dcna pmna anna cdna ctna), slna⟩)
    (cna : PySem.W.codeIn K cdna "is_name" = true)
    (kna : PySem.W.keepIn K (.ref fna) = true)
    (ali : PySem.W.nsIn K mainGlobals "is_list" = some (some (.ref fli)))
    (lli : K.lookup fli = some ⟨ocli, odli, .func (PySem.W.fnOf "is_list" "is_list" (defArgs s_is_list) (defBody s_is_list) (defScope s_is_list) .none kVli dcli pmli anli cdli ctli), slli⟩)
    (cli : PySem.W.codeIn K cdli "is_list" = true)
    (kli : PySem.W.keepIn K (.ref fli) = true)
    (apa : PySem.W.nsIn K mainGlobals "is_pair" = some (some (.ref fpa)))
    (lpa : K.lookup fpa = some ⟨ocpa, odpa, .func (PySem.W.fnOf "is_pair" "is_pair" (defArgs s_is_pair) (defBody s_is_pair) (defScope s_is_pair) .none kVpa dcpa pmpa anpa cdpa ctpa), slpa⟩)
    (cpa : PySem.W.codeIn K cdpa "is_pair" = true)
    (kpa : PySem.W.keepIn K (.ref fpa) = true)
    (aco : PySem.W.nsIn K mainGlobals "is_column" = some (some (.ref fco)))
    (lco : K.lookup fco = some ⟨occo, odco, .func (PySem.W.fnOf "is_column" "is_column" (defArgs s_is_column) (defBody s_is_column) (defScope s_is_column) .none kVco dcco pmco anco cdco ctco), slco⟩)
    (cco : PySem.W.codeIn K cdco "is_column" = true)
    (kco : PySem.W.keepIn K (.ref fco) = true)
    (ata : PySem.W.nsIn K mainGlobals "is_table" = some (some (.ref fta)))
    (lta : K.lookup fta = some ⟨octa, odta, .func (PySem.W.fnOf "is_table" "is_table" (defArgs s_is_table) (defBody s_is_table) (defScope s_is_table) .none kVta dcta pmta anta cdta ctta), slta⟩)
    (cta : PySem.W.codeIn K cdta "is_table" = true)
    (kta : PySem.W.keepIn K (.ref fta) = true)
    (adi : PySem.W.nsIn K mainGlobals "have_distinct_names" = some (some (.ref fdi)))
    (ldi : K.lookup fdi = some ⟨ocdi, oddi, .func (PySem.W.fnOf "have_distinct_names" "have_distinct_names" (defArgs s_have_distinct_names) (defBody s_have_distinct_names) (defScope s_have_distinct_names) .none kVdi dcdi pmdi andi cddi ctdi), sldi⟩)
    (cdi : PySem.W.codeIn K cddi "have_distinct_names" = true)
    (kdi : PySem.W.keepIn K (.ref fdi) = true)
    (aac : PySem.W.nsIn K mainGlobals "are_columns" = some (some (.ref fac)))
    (lac : K.lookup fac = some ⟨ocac, odac, .func (PySem.W.fnOf "are_columns" "are_columns" (defArgs s_are_columns) (defBody s_are_columns) (defScope s_are_columns) .none kVac dcac pmac anac cdac ctac), slac⟩)
    (cac : PySem.W.codeIn K cdac "are_columns" = true)
    (kac : PySem.W.keepIn K (.ref fac) = true)
    (aat : PySem.W.nsIn K mainGlobals "are_tables" = some (some (.ref fat)))
    (lat : K.lookup fat = some ⟨ocat, odat, .func (PySem.W.fnOf "are_tables" "are_tables" (defArgs s_are_tables) (defBody s_are_tables) (defScope s_are_tables) .none kVat dcat pmat anat cdat ctat), slat⟩)
    (cat : PySem.W.codeIn K cdat "are_tables" = true)
    (kat : PySem.W.keepIn K (.ref fat) = true)
    (ast : PySem.W.nsIn K mainGlobals "_law_state" = some (some (.ref fst)))
    (lst : K.lookup fst = some ⟨ocst, odst, .func (PySem.W.fnOf "_law_state" "_law_state" (defArgs s_state) (defBody s_state) (defScope s_state) .none kVst dcst pmst anst cdst ctst), slst⟩)
    (cst : PySem.W.codeIn K cdst "_law_state" = true)
    (kst : PySem.W.keepIn K (.ref fst) = true)
    (adr : PySem.W.nsIn K mainGlobals "_law_draw" = some (some (.ref fdr)))
    (ldr : K.lookup fdr = some ⟨ocdr, oddr, .func (PySem.W.fnOf "_law_draw" "_law_draw" (defArgs s_draw) (defBody s_draw) (defScope s_draw) .none kVdr dcdr pmdr andr cddr ctdr), sldr⟩)
    (cdr : PySem.W.codeIn K cddr "_law_draw" = true)
    (kdr : PySem.W.keepIn K (.ref fdr) = true)
    (api : PySem.W.nsIn K mainGlobals "_law_pick" = some (some (.ref fpi)))
    (lpi : K.lookup fpi = some ⟨ocpi, odpi, .func (PySem.W.fnOf "_law_pick" "_law_pick" (defArgs s_pick) (defBody s_pick) (defScope s_pick) .none kVpi dcpi pmpi anpi cdpi ctpi), slpi⟩)
    (cpi : PySem.W.codeIn K cdpi "_law_pick" = true)
    (kpi : PySem.W.keepIn K (.ref fpi) = true)
    (ami : PySem.W.nsIn K mainGlobals "_law_mixed" = some (some (.ref fmi)))
    (lmi : K.lookup fmi = some ⟨ocmi, odmi, .func (PySem.W.fnOf "_law_mixed" "_law_mixed" (defArgs s_mixed) (defBody s_mixed) (defScope s_mixed) .none kVmi dcmi pmmi anmi cdmi ctmi), slmi⟩)
    (cmi : PySem.W.codeIn K cdmi "_law_mixed" = true)
    (kmi : PySem.W.keepIn K (.ref fmi) = true)
    (anm : PySem.W.nsIn K mainGlobals "_law_names" = some (some (.ref fnm)))
    (lnm : K.lookup fnm = some ⟨ocnm, odnm, .func (PySem.W.fnOf "_law_names" "_law_names" (defArgs s_names) (defBody s_names) (defScope s_names) .none kVnm dcnm pmnm annm cdnm ctnm), slnm⟩)
    (cnm : PySem.W.codeIn K cdnm "_law_names" = true)
    (knm : PySem.W.keepIn K (.ref fnm) = true)
    (alc : PySem.W.nsIn K mainGlobals "_law_columns" = some (some (.ref flc)))
    (llc : K.lookup flc = some ⟨oclc, odlc, .func (PySem.W.fnOf "_law_columns" "_law_columns" (defArgs s_lcolumns) (defBody s_lcolumns) (defScope s_lcolumns) .none kVlc dclc pmlc anlc cdlc ctlc), sllc⟩)
    (clc : PySem.W.codeIn K cdlc "_law_columns" = true)
    (klc : PySem.W.keepIn K (.ref flc) = true)
    (alt : PySem.W.nsIn K mainGlobals "_law_tables" = some (some (.ref flt)))
    (llt : K.lookup flt = some ⟨oclt, odlt, .func (PySem.W.fnOf "_law_tables" "_law_tables" (defArgs s_ltables) (defBody s_ltables) (defScope s_ltables) .none kVlt dclt pmlt anlt cdlt ctlt), sllt⟩)
    (clt : PySem.W.codeIn K cdlt "_law_tables" = true)
    (klt : PySem.W.keepIn K (.ref flt) = true)
    (ake : PySem.W.nsIn K mainGlobals "_law_kept" = some (some (.ref fke)))
    (lke : K.lookup fke = some ⟨ocke, odke, .func (PySem.W.fnOf "_law_kept" "_law_kept" (defArgs s_kept) (defBody s_kept) (defScope s_kept) .none kVke dcke pmke anke cdke ctke), slke⟩)
    (cke : PySem.W.codeIn K cdke "_law_kept" = true)
    (kke : PySem.W.keepIn K (.ref fke) = true)
    (ano : PySem.W.nsIn K mainGlobals "_law_none_right" = some (some (.ref fno)))
    (lno : K.lookup fno = some ⟨ocno, odno, .func (PySem.W.fnOf "_law_none_right" "_law_none_right" (defArgs s_none_right) (defBody s_none_right) (defScope s_none_right) .none kVno dcno pmno anno cdno ctno), slno⟩)
    (cno : PySem.W.codeIn K cdno "_law_none_right" = true)
    (kno : PySem.W.keepIn K (.ref fno) = true)
    (ala : PySem.W.nsIn K mainGlobals "law" = some (some (.ref fla)))
    (lla : K.lookup fla = some ⟨ocla, odla, .func (PySem.W.fnOf "law" "law" (defArgs s_law) (defBody s_law) (defScope s_law) .none kVla dcla pmla anla cdla ctla), slla⟩)
    (cla : PySem.W.codeIn K cdla "law" = true)
    (kla : PySem.W.keepIn K (.ref fla) = true)
    (aC : PySem.W.nsIn K mainGlobals "Plan" = some (some (.ref C)))
    (ain : PySem.W.findIn K (.ref C) "__init__" = some (some (.ref fin)))
    (iin : PySem.W.isFn K (.ref fin) = true)
    (lin : K.lookup fin = some ⟨ocin, odin, .func (PySem.W.fnOf "__init__" "Plan.__init__" (defArgs s_init) (defBody s_init) (defScope s_init) .none kVin dcin pmin anin cdin ctin), slin⟩)
    (cin : PySem.W.codeIn K cdin "Plan.__init__" = true)
    (kin : PySem.W.keepIn K (.ref fin) = true)
    (aeq : PySem.W.findIn K (.ref C) "__eq__" = some (some (.ref feq)))
    (ieq : PySem.W.isFn K (.ref feq) = true)
    (leq : K.lookup feq = some ⟨oceq, odeq, .func (PySem.W.fnOf "__eq__" "Plan.__eq__" (defArgs s_eq) (defBody s_eq) (defScope s_eq) .none kVeq dceq pmeq aneq cdeq cteq), sleq⟩)
    (ceq : PySem.W.codeIn K cdeq "Plan.__eq__" = true)
    (keq : PySem.W.keepIn K (.ref feq) = true)
    (aso : PySem.W.findIn K (.ref C) "size_of" = some (some (.ref fso)))
    (iso : PySem.W.isFn K (.ref fso) = true)
    (lso : K.lookup fso = some ⟨ocso, odso, .func (PySem.W.fnOf "size_of" "Plan.size_of" (defArgs s_size_of) (defBody s_size_of) (defScope s_size_of) .none kVso dcso pmso anso cdso ctso), slso⟩)
    (cso : PySem.W.codeIn K cdso "Plan.size_of" = true)
    (kso0 : PySem.W.keepIn K (.ref fso) = true)
    (asi : PySem.W.findIn K (.ref C) "sides" = some (some (.ref fsi)))
    (isi : PySem.W.isFn K (.ref fsi) = true)
    (lsi : K.lookup fsi = some ⟨ocsi, odsi, .func (PySem.W.fnOf "sides" "Plan.sides" (defArgs s_sides) (defBody s_sides) (defScope s_sides) .none kVsi dcsi pmsi ansi cdsi ctsi), slsi⟩)
    (csi : PySem.W.codeIn K cdsi "Plan.sides" = true)
    (ksi0 : PySem.W.keepIn K (.ref fsi) = true)
    (asp : PySem.W.findIn K (.ref C) "spans" = some (some (.ref fsp)))
    (isp : PySem.W.isFn K (.ref fsp) = true)
    (lsp : K.lookup fsp = some ⟨ocsp, odsp, .func (PySem.W.fnOf "spans" "Plan.spans" (defArgs s_spans) (defBody s_spans) (defScope s_spans) .none kVsp dcsp pmsp ansp cdsp ctsp), slsp⟩)
    (csp : PySem.W.codeIn K cdsp "Plan.spans" = true)
    (ksp : PySem.W.keepIn K (.ref fsp) = true)
    (apc : PySem.W.findIn K (.ref C) "columns" = some (some (.ref ppc)))
    (gpc : PySem.W.specialIn K (.ref ppc) "__get__" = some (some (.builtin "property.__get__")))
    (tpc : PySem.W.takesIn K (.ref ppc) = some true)
    (rpc : PySem.W.recIn K ppc "property" = some (.ref fpc :: restpc))
    (lpc : K.lookup fpc = some ⟨ocpc, odpc, .func (PySem.W.fnOf "columns" "Plan.columns" (defArgs s_columns) (defBody s_columns) (defScope s_columns) .none kVpc dcpc pmpc anpc cdpc ctpc), slpc⟩)
    (cpc : PySem.W.codeIn K cdpc "Plan.columns" = true)
    (kpc : PySem.W.keepIn K (.ref fpc) = true)
    (apt : PySem.W.findIn K (.ref C) "tables" = some (some (.ref ppt)))
    (gpt : PySem.W.specialIn K (.ref ppt) "__get__" = some (some (.builtin "property.__get__")))
    (tpt : PySem.W.takesIn K (.ref ppt) = some true)
    (rpt : PySem.W.recIn K ppt "property" = some (.ref fpt :: restpt))
    (lpt : K.lookup fpt = some ⟨ocpt, odpt, .func (PySem.W.fnOf "tables" "Plan.tables" (defArgs s_tables) (defBody s_tables) (defScope s_tables) .none kVpt dcpt pmpt anpt cdpt ctpt), slpt⟩)
    (cpt : PySem.W.codeIn K cdpt "Plan.tables" = true)
    (kpt : PySem.W.keepIn K (.ref fpt) = true)
    (pg : PySem.W.plainGet K C Str.empty = true)
    (hd : PySem.W.hasDictIn K C = true)
    (po : PySem.W.plainOver K C = true)
    (sa : PySem.W.findIn K (.ref C) "__setattr__" = some (some (.builtin "object.__setattr__")))
    (mk : PySem.W.makesIn K C = true)
    (kc : PySem.W.keepIn K (.ref C) = true)
    (nC : PySem.W.findIn K (.ref C) "_columns" = some none)
    (nT : PySem.W.findIn K (.ref C) "_tables" = some none)
    (nS : PySem.W.findIn K (.ref C) "_sizes" = some none)
    (nP : PySem.W.findIn K (.ref C) "_spans" = some none)
    (nH : PySem.W.findIn K (.ref C) "_shapes" = some none)
    (rd : PySem.W.readsIn K C (.type "type") = true)
    (ga : PySem.W.specialIn K (.ref C) "__getattribute__" = some (some (.builtin "type.__getattribute__")))
    (v6 : PySem.W.findCls K (.ref C) (.type "type") "MOST_COLUMNS" = some (.val (.int 6 t6)))
    (v8 : PySem.W.findCls K (.ref C) (.type "type") "MOST_TABLES" = some (.val (.int 8 t8)))
    (en : PySem.W.findIn K (.ref C) "__ne__" = some (some (.builtin "object.__ne__")))
    (mo : PySem.W.mroIn K C (.type "object") = some true)
    (nf : PySem.W.notFirst K C (.type "list") = true)
    (ica : PySem.W.findIn K (.ref C) "__class__" = some (some (.builtin "object.__class__")))
    (icn : PySem.W.specialIn K (.builtin "object.__class__") "__get__" = some (some (.builtin "getset_descriptor.__get__")))
    (ict : PySem.W.takesIn K (.builtin "object.__class__") = some true)
    (icl : PySem.W.typeIn K (.ref C) = some (.type "type"))
    (z_isinstance : PySem.W.nsIn K mainGlobals "isinstance" = some none)
    (z_len : PySem.W.nsIn K mainGlobals "len" = some none)
    (z_all : PySem.W.nsIn K mainGlobals "all" = some none)
    (z_list : PySem.W.nsIn K mainGlobals "list" = some none)
    (z_tuple : PySem.W.nsIn K mainGlobals "tuple" = some none)
    (z_range : PySem.W.nsIn K mainGlobals "range" = some none)
    (z_abs : PySem.W.nsIn K mainGlobals "abs" = some none)
    (z_min : PySem.W.nsIn K mainGlobals "min" = some none)
    (z_int : PySem.W.nsIn K mainGlobals "int" = some none)
    (z_bool : PySem.W.nsIn K mainGlobals "bool" = some none)
    (z_str : PySem.W.nsIn K mainGlobals "str" = some none)
    (z_sorted : PySem.W.nsIn K mainGlobals "sorted" = some none)
    (z_dict : PySem.W.nsIn K mainGlobals "dict" = some none)
    (y_MOST_LETTERS : PySem.W.nsIn K mainGlobals "MOST_LETTERS" = some (some (.int 8 wMOST_LETTERS)))
    (y_MOST_VALUES : PySem.W.nsIn K mainGlobals "MOST_VALUES" = some (some (.int 6 wMOST_VALUES)))
    (y_MOST_SIDES : PySem.W.nsIn K mainGlobals "MOST_SIDES" = some (some (.int 2 wMOST_SIDES)))
    : ∃ fd : FuncData, (∀ (s : Shared) (v : Value), BindsTo s fd ⟨[v], []⟩ [("script", v)]) ∧ ∀ base : Heap, K.In base → base.Ns mainGlobals mg → FnOk l.prog w K mg base CX0 6 fa fd ["script"] (spLaw K) := by
  have e := hfa.symm.trans (PySem.W.mg_of X G ala)
  cases e
  have T : Bi mg := ⟨PySem.W.mg_none_of X G z_isinstance, PySem.W.mg_none_of X G z_len, PySem.W.mg_none_of X G z_all, PySem.W.mg_none_of X G z_list, PySem.W.mg_none_of X G z_tuple, PySem.W.mg_none_of X G z_range, PySem.W.mg_none_of X G z_abs, PySem.W.mg_none_of X G z_min, PySem.W.mg_none_of X G z_int, PySem.W.mg_none_of X G z_bool, PySem.W.mg_none_of X G z_str, PySem.W.mg_none_of X G z_sorted, PySem.W.mg_none_of X G z_dict⟩
  have mMOST_LETTERS := PySem.W.mg_of X G y_MOST_LETTERS
  have mMOST_VALUES := PySem.W.mg_of X G y_MOST_VALUES
  have mMOST_SIDES := PySem.W.mg_of X G y_MOST_SIDES
  have Fnu := fun_mk (st := s_is_number) lnu cnu knu
  have Dnu : Df K mg "is_number" s_is_number ["thing"] fnu _ := ⟨Fnu, PySem.W.mg_of X G anu, Fnu.binds (ps := ["thing"]) fun _ _ _ _ _ _ us hl => match us, hl with | [_], _ => rfl⟩
  have Fna := fun_mk (st := s_is_name) lna cna kna
  have Dna : Df K mg "is_name" s_is_name ["thing"] fna _ := ⟨Fna, PySem.W.mg_of X G ana, Fna.binds (ps := ["thing"]) fun _ _ _ _ _ _ us hl => match us, hl with | [_], _ => rfl⟩
  have Fli := fun_mk (st := s_is_list) lli cli kli
  have Dli : Df K mg "is_list" s_is_list ["thing"] fli _ := ⟨Fli, PySem.W.mg_of X G ali, Fli.binds (ps := ["thing"]) fun _ _ _ _ _ _ us hl => match us, hl with | [_], _ => rfl⟩
  have Fpa := fun_mk (st := s_is_pair) lpa cpa kpa
  have Dpa : Df K mg "is_pair" s_is_pair ["thing"] fpa _ := ⟨Fpa, PySem.W.mg_of X G apa, Fpa.binds (ps := ["thing"]) fun _ _ _ _ _ _ us hl => match us, hl with | [_], _ => rfl⟩
  have Fco := fun_mk (st := s_is_column) lco cco kco
  have Dco : Df K mg "is_column" s_is_column ["thing"] fco _ := ⟨Fco, PySem.W.mg_of X G aco, Fco.binds (ps := ["thing"]) fun _ _ _ _ _ _ us hl => match us, hl with | [_], _ => rfl⟩
  have Fta := fun_mk (st := s_is_table) lta cta kta
  have Dta : Df K mg "is_table" s_is_table ["thing", "column_names"] fta _ := ⟨Fta, PySem.W.mg_of X G ata, Fta.binds (ps := ["thing", "column_names"]) fun _ _ _ _ _ _ us hl => match us, hl with | [_, _], _ => rfl⟩
  have Fdi := fun_mk (st := s_have_distinct_names) ldi cdi kdi
  have Ddi : Df K mg "have_distinct_names" s_have_distinct_names ["pairs"] fdi _ := ⟨Fdi, PySem.W.mg_of X G adi, Fdi.binds (ps := ["pairs"]) fun _ _ _ _ _ _ us hl => match us, hl with | [_], _ => rfl⟩
  have Fac := fun_mk (st := s_are_columns) lac cac kac
  have Dac : Df K mg "are_columns" s_are_columns ["thing"] fac _ := ⟨Fac, PySem.W.mg_of X G aac, Fac.binds (ps := ["thing"]) fun _ _ _ _ _ _ us hl => match us, hl with | [_], _ => rfl⟩
  have Fat := fun_mk (st := s_are_tables) lat cat kat
  have Dat : Df K mg "are_tables" s_are_tables ["thing", "columns"] fat _ := ⟨Fat, PySem.W.mg_of X G aat, Fat.binds (ps := ["thing", "columns"]) fun _ _ _ _ _ _ us hl => match us, hl with | [_, _], _ => rfl⟩
  have Fst := fun_mk (st := s_state) lst cst kst
  have Dst : Df K mg "_law_state" s_state ["script"] fst _ := ⟨Fst, PySem.W.mg_of X G ast, Fst.binds (ps := ["script"]) fun _ _ _ _ _ _ us hl => match us, hl with | [_], _ => rfl⟩
  have Fdr := fun_mk (st := s_draw) ldr cdr kdr
  have Ddr : Df K mg "_law_draw" s_draw ["state", "size_most"] fdr _ := ⟨Fdr, PySem.W.mg_of X G adr, Fdr.binds (ps := ["state", "size_most"]) fun _ _ _ _ _ _ us hl => match us, hl with | [_, _], _ => rfl⟩
  have Fpi := fun_mk (st := s_pick) lpi cpi kpi
  have Dpi : Df K mg "_law_pick" s_pick ["state", "some"] fpi _ := ⟨Fpi, PySem.W.mg_of X G api, Fpi.binds (ps := ["state", "some"]) fun _ _ _ _ _ _ us hl => match us, hl with | [_, _], _ => rfl⟩
  have Fmi := fun_mk (st := s_mixed) lmi cmi kmi
  have Dmi : Df K mg "_law_mixed" s_mixed ["state", "some"] fmi _ := ⟨Fmi, PySem.W.mg_of X G ami, Fmi.binds (ps := ["state", "some"]) fun _ _ _ _ _ _ us hl => match us, hl with | [_, _], _ => rfl⟩
  have Fnm := fun_mk (st := s_names) lnm cnm knm
  have Dnm : Df K mg "_law_names" s_names ["state", "size"] fnm _ := ⟨Fnm, PySem.W.mg_of X G anm, Fnm.binds (ps := ["state", "size"]) fun _ _ _ _ _ _ us hl => match us, hl with | [_, _], _ => rfl⟩
  have Flc := fun_mk (st := s_lcolumns) llc clc klc
  have Dlc : Df K mg "_law_columns" s_lcolumns ["state", "most", "size_most"] flc _ := ⟨Flc, PySem.W.mg_of X G alc, Flc.binds (ps := ["state", "most", "size_most"]) fun _ _ _ _ _ _ us hl => match us, hl with | [_, _, _], _ => rfl⟩
  have Flt := fun_mk (st := s_ltables) llt clt klt
  have Dlt : Df K mg "_law_tables" s_ltables ["state", "columns", "most"] flt _ := ⟨Flt, PySem.W.mg_of X G alt, Flt.binds (ps := ["state", "columns", "most"]) fun _ _ _ _ _ _ us hl => match us, hl with | [_, _, _], _ => rfl⟩
  have Fke := fun_mk (st := s_kept) lke cke kke
  have Dke : Df K mg "_law_kept" s_kept ["plan", "columns", "tables"] fke _ := ⟨Fke, PySem.W.mg_of X G ake, Fke.binds (ps := ["plan", "columns", "tables"]) fun _ _ _ _ _ _ us hl => match us, hl with | [_, _, _], _ => rfl⟩
  have Fno := fun_mk (st := s_none_right) lno cno kno
  have Dno : Df K mg "_law_none_right" s_none_right ["state", "plan", "columns", "tables"] fno _ := ⟨Fno, PySem.W.mg_of X G ano, Fno.binds (ps := ["state", "plan", "columns", "tables"]) fun _ _ _ _ _ _ us hl => match us, hl with | [_, _, _, _], _ => rfl⟩
  have Fla := fun_mk (st := s_law) lla cla kla
  have Dla : Df K mg "law" s_law ["script"] fa _ := ⟨Fla, PySem.W.mg_of X G ala, Fla.binds (ps := ["script"]) fun _ _ _ _ _ _ us hl => match us, hl with | [_], _ => rfl⟩
  have Fin := fun_mk (st := s_init) lin cin kin
  have bin := Fin.binds (ps := ["self", "columns", "tables"]) fun _ _ _ _ _ _ us hl => match us, hl with | [_, _, _], _ => rfl
  have Feq := fun_mk (st := s_eq) leq ceq keq
  have beq := Feq.binds (ps := ["self", "other"]) fun _ _ _ _ _ _ us hl => match us, hl with | [_, _], _ => rfl
  have Fso := fun_mk (st := s_size_of) lso cso kso0
  have bso := Fso.binds (ps := ["self", "column"]) fun _ _ _ _ _ _ us hl => match us, hl with | [_, _], _ => rfl
  have Fsi := fun_mk (st := s_sides) lsi csi ksi0
  have bsi := Fsi.binds (ps := ["self", "table"]) fun _ _ _ _ _ _ us hl => match us, hl with | [_, _], _ => rfl
  have Fsp := fun_mk (st := s_spans) lsp csp ksp
  have bsp := Fsp.binds (ps := ["self", "table"]) fun _ _ _ _ _ _ us hl => match us, hl with | [_, _], _ => rfl
  have Fpc := fun_mk (st := s_columns) lpc cpc kpc
  have bpc := Fpc.binds (ps := ["self"]) fun _ _ _ _ _ _ us hl => match us, hl with | [_], _ => rfl
  have Fpt := fun_mk (st := s_tables) lpt cpt kpt
  have bpt := Fpt.binds (ps := ["self"]) fun _ _ _ _ _ _ us hl => match us, hl with | [_], _ => rfl
  have kso := bn_two (p1 := "self") (p2 := "column") Fso fun _ _ _ _ _ _ _ _ => rfl
  have ksi := bn_two (p1 := "self") (p2 := "table") Fsi fun _ _ _ _ _ _ _ _ => rfl
  have hC := PySem.W.mg_of X G aC
  have PF : PlF K C := ⟨⟨pg, hd, po, sa⟩, nC, nT, nS, nP, nH⟩
  have PL : PlC K mg C := ⟨hC, _, _, _, ⟨rd, ga⟩, ⟨v6, ⟨_, rfl⟩⟩, ⟨v8, ⟨_, rfl⟩⟩⟩
  have EQ : EqC K C feq := ⟨aeq, ieq, en, mo, nf⟩
  have IC : IsC K C := ⟨ica, icn, ict, mo, kit_not hd icl nf⟩
  refine ⟨PySem.W.fnOf "law" "law" (defArgs s_law) (defBody s_law) (defScope s_law) .none kVla dcla pmla anla cdla ctla, fun s v => .of_eq rfl, fun base _ _ => ?_⟩
  have Gnu : FnOk l.prog w K mg base CX0 1 fnu _ _ (spNumber K) := ok_number Dnu T
  have Gna : FnOk l.prog w K mg base CX0 1 fna _ _ (spName K) := ok_name Dna T mMOST_LETTERS
  have Gli : FnOk l.prog w K mg base CX0 1 fli _ _ (spList K) := ok_list Dli T
  have Gpa : FnOk l.prog w K mg base CX0 1 fpa _ _ (spPair K) := ok_pair Dpa T
  have Gco : FnOk l.prog w K mg base CX0 2 fco _ _ (spColumn K) := ok_column Dco T mMOST_VALUES Dpa Gpa Dna Gna Dnu Gnu
  have Gta : FnOk l.prog w K mg base CX0 2 fta _ _ (spTable K) := ok_table Dta T mMOST_SIDES Dpa Gpa Dna Gna
  have Gdi : FnOk l.prog w K mg base CX0 1 fdi _ _ (spDist K) := ok_dist Ddi T
  have Gac : FnOk l.prog w K mg base CX0 3 fac _ _ (spColumns K) := ok_columns Dac T PL Dli Gli Dco Gco Ddi Gdi
  have Gat : FnOk l.prog w K mg base CX0 3 fat _ _ (spTables K) := ok_tables Dat T PL Dli Gli Dta Gta Ddi Gdi
  have Gin : FnOk l.prog w K mg base CX0 4 fin _ _ (spInit K C) := ok_init Fin T PF Dac Gac Dat Gat
  have Geq : FnOk l.prog w K mg base CX0 1 feq _ _ (spEqP C) := ok_eq Feq T PF IC hC
  have Gso : FnOk l.prog w K mg base CX0 1 fso _ _ (spSizeOf K C) := ok_size_of Fso T PF
  have Gsi : FnOk l.prog w K mg base CX0 2 fsi _ _ (spSides K C) := ok_sides Fsi T PF Fsp bsp ⟨asp, isp, ksp⟩
  have Gpc : FnOk l.prog w K mg base CX0 1 fpc _ _ (getSp C (Str.ofString "_columns")) := ok_pcols Fpc PF
  have Gpt : FnOk l.prog w K mg base CX0 1 fpt _ _ (getSp C (Str.ofString "_tables")) := ok_ptabs Fpt PF
  have PM : PlM l.prog w K mg base C := ⟨PF, ⟨_, _, _, ⟨apc, gpc, tpc, _, rpc⟩, Gpc, bpc⟩, ⟨_, _, _, ⟨apt, gpt, tpt, _, rpt⟩, Gpt, bpt⟩, ⟨_, _, ⟨aso, iso, kso0⟩, Gso, bso, kso⟩, ⟨_, _, ⟨asi, isi, ksi0⟩, Gsi, bsi, ksi⟩⟩
  have Gst : FnOk l.prog w K mg base CX0 1 fst _ _ (spState K) := ok_state Dst T
  have Gdr : FnOk l.prog w K mg base CX0 1 fdr _ _ spDraw := ok_draw Ddr T
  have Gpi : FnOk l.prog w K mg base CX0 2 fpi _ _ spPick := ok_pick Dpi T Ddr Gdr
  have Gmi : FnOk l.prog w K mg base CX0 2 fmi _ _ (spMixed K) := ok_mixed Dmi T Ddr Gdr
  have Gnm : FnOk l.prog w K mg base CX0 3 fnm _ _ spNames := ok_names Dnm T Ddr Gdr Dpi Gpi
  have Glc : FnOk l.prog w K mg base CX0 4 flc _ _ spLCols := ok_lcols Dlc T Ddr Gdr Dnm Gnm
  have Glt : FnOk l.prog w K mg base CX0 4 flt _ _ spLTabs := ok_ltabs Dlt T Ddr Gdr Dpi Gpi Dnm Gnm
  have Gke : FnOk l.prog w K mg base CX0 3 fke _ _ (spKept C) := ok_kept Dke T PM
  have Gno : FnOk l.prog w K mg base CX0 3 fno _ _ (spNone K C) := ok_none Dno T PM Dpi Gpi
  exact ok_law Dla T PL ⟨mk, ain, iin, kc⟩ bin Gin EQ beq Geq Dst Gst Ddr Gdr Dmi Gmi Dlc Glc Dlt Glt Dke Gke Dno Gno
theorem walk {l : PySem.W.OpenLaw} {q : Program} {loose : List Str} {XP : (Str → Option Value) → Heap → Prop} {YP : World → Heap → Prop} {d : DefRec} {K : Params → PySem.W.Frag} (hn : l.most = some 63) (hdf : d.params.defaults = [])
    (hY : ∀ (w : World) (h : Heap), YP w h → (K w.params).In h)
    (F : ∀ (w : World) (mg : Str → Option Value) (fa : Addr) (h : Heap), (K w.params).In h → h.Ns mainGlobals mg → mg d.name = some (.ref fa) →
      ∃ fd : FuncData, (∀ (s : Shared) (u : Value), BindsTo s fd ⟨[u], []⟩ [("script", u)]) ∧ ∀ base : Heap, (K w.params).In base → base.Ns mainGlobals mg → FnOk l.prog w (K w.params) mg base CX0 6 fa fd ["script"] (spLaw (K w.params))) :
    PySem.W.WalkO q loose XP YP l.row.toRowW d [] (fun f vs => PySem.call f vs) :=
  L2.walk_of (n := 63) (k := 6) (x := "script") (CX := fun _ => CX0) (sp := fun w => spLaw (K w.params)) hn (by decide) hdf ⟨rfl, by decide, by decide⟩ hY F (fun _ _ a ns hl _ hS => ⟨a, ns, rfl, hS, hl, fun _ => rfl⟩) fun _ _ _ _ _ z => z
end As

open PySem PySem.W PyProof.Rows in
set_option maxRecDepth 100000 in
set_option maxHeartbeats 0 in
theorem PySem.Challenge.cw_asksold_k02_what_plans_return_holds : PySem.Challenge.rw_asksold_k02_what_plans_return.Holds := by
  w_on; o_law; k_head; (case hw => w_witness2)
  k_fill
  refine As.walk (l := PySem.Challenge.rw_asksold_k02_what_plans_return) rfl rfl (fun w h Y => PySem.W.kIn_of Y) ?F
  case F =>
    intro w mg fa h KX G hmg
    refine' As.all_mk KX G hmg ?anu ?lnu ?cnu ?knu ?ana ?lna ?cna ?kna ?ali ?lli ?cli ?kli ?apa ?lpa ?cpa ?kpa ?aco ?lco ?cco ?kco ?ata ?lta ?cta ?kta ?adi ?ldi ?cdi ?kdi ?aac ?lac ?cac ?kac ?aat ?lat ?cat ?kat ?ast ?lst ?cst ?kst ?adr ?ldr ?cdr ?kdr ?api ?lpi ?cpi ?kpi ?ami ?lmi ?cmi ?kmi ?anm ?lnm ?cnm ?knm ?alc ?llc ?clc ?klc ?alt ?llt ?clt ?klt ?ake ?lke ?cke ?kke ?ano ?lno ?cno ?kno ?ala ?lla ?cla ?kla ?aC ?ain ?iin ?lin ?cin ?kin ?aeq ?ieq ?leq ?ceq ?keq ?aso ?iso ?lso ?cso ?kso0 ?asi ?isi ?lsi ?csi ?ksi0 ?asp ?isp ?lsp ?csp ?ksp ?apc ?gpc ?tpc ?rpc ?lpc ?cpc ?kpc ?apt ?gpt ?tpt ?rpt ?lpt ?cpt ?kpt ?pg ?hd ?po ?sa ?mk ?kc ?nC ?nT ?nS ?nP ?nH ?rd ?ga ?v6 ?v8 ?en ?mo ?nf ?ica ?icn ?ict ?icl ?z_isinstance ?z_len ?z_all ?z_list ?z_tuple ?z_range ?z_abs ?z_min ?z_int ?z_bool ?z_str ?z_sorted ?z_dict ?y_MOST_LETTERS ?y_MOST_VALUES ?y_MOST_SIDES
    (case anu => k_is)
    (case lnu => k_is)
    (case cnu => k_is)
    (case knu => k_is)
    (case ana => k_is)
    (case lna => k_is)
    (case cna => k_is)
    (case kna => k_is)
    (case ali => k_is)
    (case lli => k_is)
    (case cli => k_is)
    (case kli => k_is)
    (case apa => k_is)
    (case lpa => k_is)
    (case cpa => k_is)
    (case kpa => k_is)
    (case aco => k_is)
    (case lco => k_is)
    (case cco => k_is)
    (case kco => k_is)
    (case ata => k_is)
    (case lta => k_is)
    (case cta => k_is)
    (case kta => k_is)
    (case adi => k_is)
    (case ldi => k_is)
    (case cdi => k_is)
    (case kdi => k_is)
    (case aac => k_is)
    (case lac => k_is)
    (case cac => k_is)
    (case kac => k_is)
    (case aat => k_is)
    (case lat => k_is)
    (case cat => k_is)
    (case kat => k_is)
    (case ast => k_is)
    (case lst => k_is)
    (case cst => k_is)
    (case kst => k_is)
    (case adr => k_is)
    (case ldr => k_is)
    (case cdr => k_is)
    (case kdr => k_is)
    (case api => k_is)
    (case lpi => k_is)
    (case cpi => k_is)
    (case kpi => k_is)
    (case ami => k_is)
    (case lmi => k_is)
    (case cmi => k_is)
    (case kmi => k_is)
    (case anm => k_is)
    (case lnm => k_is)
    (case cnm => k_is)
    (case knm => k_is)
    (case alc => k_is)
    (case llc => k_is)
    (case clc => k_is)
    (case klc => k_is)
    (case alt => k_is)
    (case llt => k_is)
    (case clt => k_is)
    (case klt => k_is)
    (case ake => k_is)
    (case lke => k_is)
    (case cke => k_is)
    (case kke => k_is)
    (case ano => k_is)
    (case lno => k_is)
    (case cno => k_is)
    (case kno => k_is)
    (case ala => k_is)
    (case lla => k_is)
    (case cla => k_is)
    (case kla => k_is)
    (case aC => k_is)
    (case ain => k_is)
    (case iin => k_is)
    (case lin => k_is)
    (case cin => k_is)
    (case kin => k_is)
    (case aeq => k_is)
    (case ieq => k_is)
    (case leq => k_is)
    (case ceq => k_is)
    (case keq => k_is)
    (case aso => k_is)
    (case iso => k_is)
    (case lso => k_is)
    (case cso => k_is)
    (case kso0 => k_is)
    (case asi => k_is)
    (case isi => k_is)
    (case lsi => k_is)
    (case csi => k_is)
    (case ksi0 => k_is)
    (case asp => k_is)
    (case isp => k_is)
    (case lsp => k_is)
    (case csp => k_is)
    (case ksp => k_is)
    (case apc => k_is)
    (case gpc => k_is)
    (case tpc => k_is)
    (case rpc => k_is)
    (case lpc => k_is)
    (case cpc => k_is)
    (case kpc => k_is)
    (case apt => k_is)
    (case gpt => k_is)
    (case tpt => k_is)
    (case rpt => k_is)
    (case lpt => k_is)
    (case cpt => k_is)
    (case kpt => k_is)
    (case pg => k_is)
    (case hd => k_is)
    (case po => k_is)
    (case sa => k_is)
    (case mk => k_is)
    (case kc => k_is)
    (case nC => k_is)
    (case nT => k_is)
    (case nS => k_is)
    (case nP => k_is)
    (case nH => k_is)
    (case rd => k_is)
    (case ga => k_is)
    (case v6 => k_is)
    (case v8 => k_is)
    (case en => k_is)
    (case mo => k_is)
    (case nf => k_is)
    (case ica => k_is)
    (case icn => k_is)
    (case ict => k_is)
    (case icl => k_is)
    (case z_isinstance => k_is)
    (case z_len => k_is)
    (case z_all => k_is)
    (case z_list => k_is)
    (case z_tuple => k_is)
    (case z_range => k_is)
    (case z_abs => k_is)
    (case z_min => k_is)
    (case z_int => k_is)
    (case z_bool => k_is)
    (case z_str => k_is)
    (case z_sorted => k_is)
    (case z_dict => k_is)
    (case y_MOST_LETTERS => k_is)
    (case y_MOST_VALUES => k_is)
    (case y_MOST_SIDES => k_is)

