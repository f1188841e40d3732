import PyProof.Rows.All
import Wide.All
import OpenK.AllK
import Wide.FinOn
import HandS.ForMost
import HandS.Flow
import HandS.IsInst
import HandS.Property
import HandS.ClsMeth
import HandS.Conv
import HandS.DictComp
import HandS.SetBool
import HandS.SetKeys
import HandS.Defaults
import HandS.Wide
import HandS.Strs
import HandS.Zip
import HandS.OwnEq
import HandS.Walk
import KE.KDictKeyed
import KE.KDictCopyH
import KE.KDictList
import HandS.Deep
import PySem.Challenge.RW_asksold_k11_whole_agreement_decides_stor
import HandS.Exc
import HandS.TryOnly
import HandS.Lambda
import HandS.ExcIs
import KE.SortKeyed
import KE.DataCmp
import HandS.SortRule
import HandS.DeepEq
import KE.GoesMore
import HandS.Iter
import HandS.CallSlots
import HandS.ExcOwn
import HandS.WordsExc
import HandS.Star
import HandS.TupMul
import HandS.Style
import PyProof.Rows.CountFlat
set_option Elab.async false
set_option linter.all false
set_option maxRecDepth 100000
/-! ## A0 -/
namespace As
open PySem PySem.Spec PyProof.Rows L2

theorem ps_dead {X : Cx} {st : Stmt} : PS X st tNever := ⟨fun _ _ _ _ _ _ h => h.elim⟩

/-! heaps -/
theorem same_new {H : Hp} {p : Addr} {o : HO} (h : H p = none) : Same H (upd H p o) := fun b u e => by
  rw [upd_ne (ne_of_none e h)]; exact e
theorem same_new' {B H : Hp} {p : Addr} {o : HO} (e : Same B H) (h : H p = none) : Same B (upd H p o) := e.trans (same_new h)
/-- a place that B does not know may change -/
theorem same_mut {B H : Hp} {p : Addr} {o : HO} (e : Same B H) (h : B p = none) : Same B (upd H p o) := fun b u q => by
  rw [upd_ne (ne_of_none q h)]; exact e b u q
theorem same_t {K : PySem.W.Frag} {H H' : Hp} {a : Addr} {xs : List V} (e : Same H H') (h : SqT K H a xs) : SqT K H' a xs := by
  rcases h with (h | ⟨o, h⟩) | h
  · exact .inl (.inl (e _ _ h))
  · exact .inl (.inr ⟨o, e _ _ h⟩)
  · exact .inr h
theorem tof {K : PySem.W.Frag} {H : Hp} {a : Addr} {xs : List V} (h : H a = some (.tup xs)) : SqT K H a xs := .inl (.inl h)
theorem lof {K : PySem.W.Frag} {H : Hp} {a : Addr} {xs : List V} (h : H a = some (.lst xs)) : SqL K H a xs := .inl (.inl h)
def rem (B : Hp) (f : Addr) : Hp := fun b => if b = f then none else B b
theorem rem_self {B : Hp} {f : Addr} : rem B f f = none := if_pos rfl
theorem rem_ne {B : Hp} {f b : Addr} (h : b ≠ f) : rem B f b = B b := if_neg h
theorem same_rem {B : Hp} {f : Addr} : Same (rem B f) B := fun b o e => by
  by_cases h : b = f
  · subst h; rw [rem_self] at e; cases e
  · rw [rem_ne h] at e; exact e
theorem same_into_rem {A B : Hp} {f : Addr} (e : Same A B) (h : A f = none) : Same A (rem B f) := fun b o q => by
  rw [rem_ne (ne_of_none q h)]; exact e b o q

/-! the source of draws -/
/-- the list at a is [cells, index, hash], its cells at c -/
def StAt (H : Hp) (a c : Addr) : Prop := ∃ (i h : Int) (cs : List Int), a ≠ c ∧ H a = some (.lst [.ref c, .int i, .int h]) ∧ H c = some (.lst (cs.map V.int)) ∧ 0 < cs.length ∧ cs.length ≤ 63 ∧ 0 ≤ h ∧ h < 2147483647
/-- all stands but the source of draws -/
def Fr (a c : Addr) (H H' : Hp) : Prop := ∀ b o, b ≠ a → b ≠ c → H b = some o → H' b = some o
/-- B is known to stand for good; the source of draws is none of it -/
structure Gd (a c : Addr) (B H : Hp) : Prop where
  ex : Same B H
  na : B a = none
  nc : B c = none
  st : StAt H a c
theorem StAt.same {H H' : Hp} {a c : Addr} (h : StAt H a c) (e : Same H H') : StAt H' a c := by
  obtain ⟨i, z, cs, n, h1, h2, r⟩ := h
  exact ⟨i, z, cs, n, e _ _ h1, e _ _ h2, r⟩
theorem StAt.a_ne {H : Hp} {a c b : Addr} (h : StAt H a c) (hb : H b = none) : b ≠ a := by
  obtain ⟨i, z, cs, n, h1, h2, r⟩ := h
  exact (ne_of_none h1 hb).symm
theorem StAt.c_ne {H : Hp} {a c b : Addr} (h : StAt H a c) (hb : H b = none) : b ≠ c := by
  obtain ⟨i, z, cs, n, h1, h2, r⟩ := h
  exact (ne_of_none h2 hb).symm
namespace Gd
variable {a c : Addr} {B B' H H' : Hp}
theorem same (g : Gd a c B H) (e : Same H H') : Gd a c B H' := ⟨g.ex.trans e, g.na, g.nc, g.st.same e⟩
theorem fr (g : Gd a c B H) (f : Fr a c H H') (s : StAt H' a c) : Gd a c B H' :=
  ⟨fun b o e => f b o (ne_of_none e g.na) (ne_of_none e g.nc) (g.ex b o e), g.na, g.nc, s⟩
theorem new (g : Gd a c B H) {p : Addr} {o : HO} (h : H p = none) : Gd a c B (upd H p o) := g.same (same_new h)
/-- the new object is known from then on -/
theorem add (g : Gd a c B H) {p : Addr} {o : HO} (h : H p = none) : Gd a c (upd B p o) (upd H p o) := by
  refine ⟨fun b u e => ?_, ?_, ?_, g.st.same (same_new h)⟩
  · by_cases q : b = p
    · subst q; rw [upd_same] at e ⊢; exact e
    · rw [upd_ne q] at e ⊢; exact g.ex b u e
  · rw [upd_ne (g.st.a_ne h).symm]; exact g.na
  · rw [upd_ne (g.st.c_ne h).symm]; exact g.nc
/-- what stands is told of -/
theorem know (g : Gd a c B H) {p : Addr} {o : HO} (h : H p = some o) (h1 : p ≠ a) (h2 : p ≠ c) : Gd a c (upd B p o) H := by
  refine ⟨fun b u e => ?_, ?_, ?_, g.st⟩
  · by_cases q : b = p
    · subst q; rw [upd_same] at e; rw [h]; exact e
    · rw [upd_ne q] at e; exact g.ex b u e
  · rw [upd_ne h1.symm]; exact g.na
  · rw [upd_ne h2.symm]; exact g.nc
theorem less (g : Gd a c B H) (e : Same B' B) : Gd a c B' H := by
  refine ⟨e.trans g.ex, ?_, ?_, g.st⟩
  · cases q : B' a with
    | none => rfl
    | some o => have := e _ _ q; rw [g.na] at this; cases this
  · cases q : B' c with
    | none => rfl
    | some o => have := e _ _ q; rw [g.nc] at this; cases this
/-- an object that is not told of is changed -/
theorem chg (g : Gd a c B H) {p : Addr} {o : HO} (h : B p = none) (h1 : p ≠ a) (h2 : p ≠ c) : Gd a c B (upd H p o) := by
  refine ⟨same_mut g.ex h, g.na, g.nc, ?_⟩
  obtain ⟨i, z, cs, n, e1, e2, r⟩ := g.st
  exact ⟨i, z, cs, n, by rw [upd_ne h1.symm]; exact e1, by rw [upd_ne h2.symm]; exact e2, r⟩
theorem free (g : Gd a c B H) {p : Addr} (h : H p = none) : B p = none := g.ex.free h
theorem ne_a (g : Gd a c B H) {p : Addr} (h : H p = none) : p ≠ a := g.st.a_ne h
theorem ne_c (g : Gd a c B H) {p : Addr} (h : H p = none) : p ≠ c := g.st.c_ne h
end Gd
end As

/-! ## A1 -/
namespace As
open PySem PySem.Spec PyProof.Rows L2

/-- a comprehension that only reads: item x gives f x, or is left out -/
theorem lc_same {J : It} {n : Nat} {G : Hp → Prop} {xs : List V} {g : TG} {tt : TT} {te : TE} {vs : List Nat} {σ : L2.St} {H1 B : Hp} {D : Addr} {Qd : Hp → Prop}
    (w : Walk J n G (YAt xs)) (hn : n = xs.length) (s0 : Same B H1) (hD : H1 D = none) (hG : ∀ H, Same B H → G H) (hl : xs.length < sizeLine) (f : V → Option V)
    (hs : ∀ x H (Q1 : VK) (Q2 : Hp → Prop), x ∈ xs → Same B H → (∀ y H4, f x = some y → Same H H4 → Q1 y H4) → (∀ H3, f x = none → Same H H3 → Q2 H3) →
      g x (wipe σ vs) H fun σ2 H2 => wipe σ2 vs = wipe σ vs ∧ tt σ2 H2 fun b H3 => if b = true then te σ2 H3 Q1 else Q2 H3)
    (hd : ∀ H', Same H1 H' → H' D = some (.lst (xs.filterMap f)) → Qd H') :
    ∃ W : Nat → Nat → Hp → Prop, (∃ m, W 0 m (upd H1 D (.lst []))) ∧ ∀ i m H, W i m H →
      (J.stop i H ∧ Qd H) ∨ (J.go i H ∧ ∃ Nx : Hp → Prop, (∀ H', Nx H' → ∃ m', m' < m ∧ W (i + 1) m' H') ∧ ∀ x H', J.yld i H x H' → g x (wipe σ vs) H' fun σ2 H2 => wipe σ2 vs = wipe σ vs ∧ tt σ2 H2 fun b H3 =>
        if b = true then te σ2 H3 fun y H4 => ∃ acc, H4 D = some (.lst acc) ∧ acc.length < sizeLine ∧ Nx (upd H4 D (.lst (acc ++ [y]))) else Nx H3) := by
  subst hn
  refine lc_it w (fun i H => Same H1 H ∧ H D = some (.lst ((xs.take i).filterMap f))) ⟨same_new hD, by rw [upd_same]; rfl⟩ (fun i H _ p => hG H (s0.trans p.1)) (fun i x H H' hi p y => ?_) (fun H p => hd H p.1 (by rw [p.2, List.take_length]))
  obtain ⟨rfl, hx⟩ := y
  have hm : x ∈ xs := List.mem_of_getElem? hx
  have ht : xs.take (i + 1) = xs.take i ++ [x] := by
    rw [List.take_succ, hx]; rfl
  refine hs x H' _ _ hm (s0.trans p.1) (fun y H4 e s4 => ⟨_, s4 _ _ p.2, ?_, ?_, ?_⟩) (fun H3 e s3 => ⟨p.1.trans s3, ?_⟩)
  · have a1 := List.length_filterMap_le f (xs.take i)
    have a2 := List.length_take_le i xs
    omega
  · exact same_mut (p.1.trans s4) hD
  · rw [upd_same, ht, List.filterMap_append, List.filterMap_cons, e]; rfl
  · rw [s3 _ _ p.2, ht, List.filterMap_append, List.filterMap_cons, e]; simp

/-- a comprehension whose turns draw: P tells what is made so far -/
theorem lc_draw {J : It} {n : Nat} {G : Hp → Prop} {xs : Nat → V} {g : TG} {tt : TT} {te : TE} {vs : List Nat} {σ : L2.St} {H1 B : Hp} {D a c : Addr} {Qd : Hp → Prop}
    (w : Walk J n G (YFn xs)) (g0 : Gd a c B H1) (hD : H1 D = none) (hG : ∀ B' H, Same B B' → Gd a c B' H → G H) (hl : n < sizeLine) (P : Nat → List V → Hp → Prop)
    (h0 : P 0 [] B) (hP : ∀ i acc acc0 B', P i acc B' → B' D = some (.lst acc0) → P i acc (rem B' D)) (hlen : ∀ i acc B', P i acc B' → acc.length ≤ i)
    (hs : ∀ i H B' acc (Q1 : VK) (Q2 : Hp → Prop), i < n → Same B B' → Gd a c B' H → P i acc (rem B' D) → B' D = some (.lst acc) →
      (∀ y H4 B4, Same B' B4 → Gd a c B4 H4 → P (i + 1) (acc ++ [y]) B4 → Q1 y H4) → (∀ H3 B3, Same B' B3 → Gd a c B3 H3 → P (i + 1) acc B3 → Q2 H3) →
      g (xs i) (wipe σ vs) H fun σ2 H2 => wipe σ2 vs = wipe σ vs ∧ tt σ2 H2 fun b H3 => if b = true then te σ2 H3 Q1 else Q2 H3)
    (hd : ∀ H' B' acc, Same B B' → Gd a c B' H' → B' D = some (.lst acc) → P n acc (rem B' D) → Qd H') :
    ∃ W : Nat → Nat → Hp → Prop, (∃ m, W 0 m (upd H1 D (.lst []))) ∧ ∀ i m H, W i m H →
      (J.stop i H ∧ Qd H) ∨ (J.go i H ∧ ∃ Nx : Hp → Prop, (∀ H', Nx H' → ∃ m', m' < m ∧ W (i + 1) m' H') ∧ ∀ x H', J.yld i H x H' → g x (wipe σ vs) H' fun σ2 H2 => wipe σ2 vs = wipe σ vs ∧ tt σ2 H2 fun b H3 =>
        if b = true then te σ2 H3 fun y H4 => ∃ acc, H4 D = some (.lst acc) ∧ acc.length < sizeLine ∧ Nx (upd H4 D (.lst (acc ++ [y]))) else Nx H3) := by
  have bD : B D = none := g0.free hD
  have na := g0.ne_a hD
  have nc := g0.ne_c hD
  -- the invariant: what is known but for the list at D, and the list
  refine lc_it w (fun i H => ∃ B' acc, Same B B' ∧ B' D = none ∧ Gd a c B' H ∧ H D = some (.lst acc) ∧ P i acc B') ⟨B, [], fun _ _ e => e, bD, g0.chg bD na nc |>.less (fun _ _ e => e), upd_same, h0⟩
    (fun i H _ ⟨B', acc, s, _, gd, _, _⟩ => hG B' H s gd) (fun i x H H' hi p y => ?_) (fun H p => ?_)
  · obtain ⟨rfl, rfl⟩ := y
    obtain ⟨B', acc, s, bn, gd, hd', p⟩ := p
    have rD : rem (upd B' D (.lst acc)) D = B' := by
      funext b
      by_cases e : b = D
      · subst e; rw [rem_self, bn]
      · rw [rem_ne e, upd_ne e]
    refine hs i H' (upd B' D (.lst acc)) acc _ _ hi (same_new' s bn) (gd.know hd' na nc) (by rw [rD]; exact p) upd_same (fun y H4 B4 s4 g4 p4 => ?_) (fun H3 B3 s3 g3 p3 => ?_)
    · have b4 : B4 D = some (.lst acc) := s4 _ _ upd_same
      have e4 : H4 D = some (.lst acc) := g4.ex _ _ b4
      have h1 := hlen _ _ _ p4
      rw [List.length_append] at h1
      have h2 : acc.length < sizeLine := by simp at h1; omega
      refine ⟨acc, e4, h2, rem B4 D, acc ++ [y], same_into_rem (s.trans ((same_new bn).trans s4)) bD, rem_self, ?_, upd_same, hP _ _ _ _ p4 b4⟩
      exact (g4.less same_rem).chg rem_self na nc
    · have b3 : B3 D = some (.lst acc) := s3 _ _ upd_same
      exact ⟨rem B3 D, acc, same_into_rem (s.trans ((same_new bn).trans s3)) bD, rem_self, g3.less same_rem, g3.ex _ _ b3, hP _ _ _ _ p3 b3⟩
  · obtain ⟨B', acc, s, bn, gd, hd', p⟩ := p
    have rD : rem (upd B' D (.lst acc)) D = B' := by
      funext b
      by_cases e : b = D
      · subst e; rw [rem_self, bn]
      · rw [rem_ne e, upd_ne e]
    exact hd H (upd B' D (.lst acc)) acc (same_new' s bn) (gd.know hd' na nc) upd_same (by rw [rD]; exact p)
/-- a list's items by place -/
theorem walk_at {K : PySem.W.Frag} {a : Addr} {xs : List V} (d : V) : Walk (Itl K a) xs.length (fun H => SqL K H a xs) (YFn fun i => xs.getD i d) :=
  walk_list.mono (fun _ h => h) fun i H x H' hi _ y => ⟨y.1, by show x = xs.getD i d; rw [List.getD_eq_getElem?_getD, y.2]; rfl⟩
end As

/-! ## A2 -/
namespace As
open PySem PySem.Spec PyProof.Rows L2
/-- a def of the top, as it stands -/
structure Df (K : PySem.W.Frag) (mg : Str → Option Value) (x : Str) (st : Stmt) (ps : List Str) (f : Addr) (fd : FuncData) : Prop where
  F : Fun K x x st f fd
  m : mg x = some (.ref f)
  b : Binds K fd ps []
/-- what the program reads of the module and the built-ins -/
structure Bi (mg : Str → Option Value) : Prop where
  isinst : mg "isinstance" = none
  len : mg "len" = none
  all : mg "all" = none
  list : mg "list" = none
  tuple : mg "tuple" = none
  range : mg "range" = none
  abs : mg "abs" = none
  min : mg "min" = none
  int : mg "int" = none
  bool : mg "bool" = none
  str : mg "str" = none
  sorted : mg "sorted" = none
  dict : mg "dict" = none
section
variable {X : Cx} {sp : Sp} {x : Str} {f : Addr} {fd : FuncData} {ps : List Str} {k : Nat} {st : Stmt} {p pos : Pos} {e : Expr} {es : List Expr} {t : TA}
theorem pcall (D : Df X.K X.mg x st ps f fd) (G : FnOk X.prog X.w X.K X.mg X.base CX0 k f fd ps sp) (hr : Room k X.A) (ha : PA X (e :: es) t) (hg : Gl X x := by rfl)
    (he : starEach (e :: es) X.env = (false, eval e X.env) :: starEach es X.env := by rfl) (hpl : (backTo pos (starEach es X.env)).any (·.1) = false := by rfl) (hdb : (x == ("__debug__" : Str)) = false := by decide) :
    PE X (.Call (.Name x p) (e :: es) [] pos) (tCall sp [] E0 t) := pe_call G hr hg D.m D.F.kp D.b .nil pass0 ha (he := he) (hpl := hpl) (hdb := hdb)
end
theorem hu64 {A : Around} {k : Nat} (hr : Room k A) : A.units + 64 < cLine := by have := hr.un; omega
/-- which of two built-in types -/
theorem kint_int {K : PySem.W.Frag} : PySem.W.kitOne K (.type "int") (.type "int") = some true := kit_ty (by decide +kernel)
theorem kint_bool {K : PySem.W.Frag} : PySem.W.kitOne K (.type "int") (.type "bool") = some false := kit_ty (by decide +kernel)
theorem kstr_str {K : PySem.W.Frag} : PySem.W.kitOne K (.type "str") (.type "str") = some true := kit_ty (by decide +kernel)
theorem ktup_tup {K : PySem.W.Frag} : PySem.W.kitOne K (.type "tuple") (.type "tuple") = some true := kit_ty (by decide +kernel)
theorem ktup_list {K : PySem.W.Frag} : PySem.W.kitOne K (.type "tuple") (.type "list") = some false := kit_ty (by decide +kernel)
theorem klist_list {K : PySem.W.Frag} : PySem.W.kitOne K (.type "list") (.type "list") = some true := kit_ty (by decide +kernel)
end As
namespace As
open PySem PySem.Spec PyProof.Rows L2
/-! texts sign by sign -/
def signs (z : Str) : List V := z.cps.toList.map fun c => V.str ⟨#[c]⟩
theorem signs_length {z : Str} : (signs z).length = z.cps.size := by unfold signs; rw [List.length_map, Array.length_toList]
theorem walk_sign {z : Str} : Walk (Its z) z.cps.size (fun _ => True) (YAt (signs z)) :=
  walk_str.mono (fun _ h => h) fun i H v H' _ _ y => by
    obtain ⟨e, c, hc, rfl⟩ := y
    refine ⟨e, ?_⟩
    unfold signs
    rw [List.getElem?_map, Array.getElem?_toList, hc]
    rfl
theorem one_le {c d : Nat} : (!decide (([c] : List Nat) < [d])) = decide (d ≤ c) := by
  have h : ([c] < [d]) ↔ c < d := by
    constructor
    · intro h
      cases h with
      | rel h => exact h
      | cons h => cases h
    · intro h; exact List.Lex.rel h
  by_cases q : d ≤ c
  · rw [decide_eq_true q, decide_eq_false (fun z => by have := h.mp z; omega)]; rfl
  · rw [decide_eq_false q, decide_eq_true (h.mpr (by omega))]; rfl
def letter (c : Nat) : Bool := decide (97 ≤ c) && decide (c ≤ 122)
def nameB (z : Str) : Bool := decide (1 ≤ z.length ∧ z.length ≤ 8) && z.cps.toList.all letter
theorem str_len {z : Str} : z.length = z.cps.size := rfl
theorem all_map {α : Type} {f : α → Bool} : ∀ {l : List α}, (l.map f).all id = l.all f
  | [] => rfl
  | a :: r => by rw [List.map_cons, List.all_cons, List.all_cons, all_map]; rfl
theorem filterMap_some {α β : Type} {f : α → β} {l : List α} : l.filterMap (fun x => some (f x)) = l.map f := by
  induction l with
  | nil => rfl
  | cons a r ih => rw [List.filterMap_cons, List.map_cons, ih]
end As
namespace As
theorem filterMap_same {α β : Type} {f g : α → Option β} : ∀ {l : List α}, (∀ x ∈ l, f x = g x) → l.filterMap f = l.filterMap g
  | [], _ => rfl
  | a :: r, h => by rw [List.filterMap_cons, List.filterMap_cons, h a List.mem_cons_self, filterMap_same fun x hx => h x (List.mem_cons_of_mem _ hx)]
end As

/-! ## A3 -/
set_option maxHeartbeats 2000000
namespace As
open PySem PySem.Spec PyProof.Rows L2
/-- an iteration served by one of two rules -/
theorem pi_either {X : Cx} {tg e : Expr} {w1 w2 : TI} (h1 : PI X tg e w1) (h2 : PI X tg e w2) : PI X tg e (fun σ H R => w1 σ H R ∨ w2 σ H R) :=
  ⟨fun pins s σ H R I h => h.elim (fun q => h1.run pins s σ H R I q) fun q => h2.run pins s σ H R I q⟩

/-- {elt for target in iter if ..} of texts and ints: the set grows by the key k -/
def ScTurn (P : Program) (w : World) (D : Addr) (Nx : Hp → Prop) (y : V) (H : Hp) : Prop :=
  ∃ (k : Key) (S : Key → Bool) (n : Nat), y = kV k ∧ H D = some (SetK P w D S n) ∧ n + 1 < scanBound ∧ Nx (upd H D (SetK P w D (fun j => S j || decide (j = k)) (if S k = true then n else n + 1)))
def tScK (P : Program) (w : World) (wi : TI) (g : TG) (tt : TT) (te : TE) (vs : List Nat) : TE := fun σ H Q => wi σ H fun J H1 => ∀ D, H1 D = none →
  ∃ W : Nat → Nat → Hp → Prop, (∃ m, W 0 m (upd H1 D (SetK P w D (fun _ => false) 0))) ∧ ∀ i m H, W i m H → (J.stop i H ∧ Q (.ref D) H) ∨ (J.go i H ∧ ∃ Nx : Hp → Prop, (∀ H', Nx H' → ∃ m', m' < m ∧ W (i + 1) m' H') ∧
    ∀ x H', J.yld i H x H' → g x (wipe σ vs) H' fun σ2 H2 => wipe σ2 vs = wipe σ vs ∧ tt σ2 H2 fun b H3 => if b = true then te σ2 H3 (ScTurn P w D Nx) else Nx H3)

theorem setK_fresh {P : Program} {w : World} {h : Heap} : (h.push { cls := .type "set", dict := none, data := .set #[] 0 (.fresh 0 0 (!w.params.followText "set-order")) }).SetOf (mixKind P w) h.objs.size (fun _ => false) 0 :=
  ⟨_, #[], 0, _, Heap.get?_push_size h rfl, ⟨rfl, rfl, rfl⟩, rfl, (fun e he => by simp at he), (fun k => by simp), (by decide), (by rfl), rfl⟩

theorem addK_ok {X : Cx} {pins : List (Addr × Obj)} {σ : L2.St} {H : Hp} {s : Shared} {E : Value → Shared → Prop} {D : Addr} {S : Key → Bool} {n : Nat} {k : Key} {u : Value} {Q : Value → Shared → Prop} (I : Inv X pins σ H s) (r : RelV (kV k) u)
    (hD : H D = some (SetK X.prog X.w D S n)) (room : n + 1 < scanBound) (q : ∀ s', Inv X pins σ (upd H D (SetK X.prog X.w D (fun j => S j || decide (j = k)) (if S k = true then n else n + 1))) s' → Q .none s') :
    wpAny (model X.prog X.w) X.A (call (.builtin "set.add") [.ref D, u]) Q E s := by
  refine call_set_add (kV_is r) (key_scan r) (setK_get I hD) room fun h' sb new => q _ ?_
  have ⟨o, _, _, _, ho, _⟩ := new
  exact I.write (e := D) (t' := s.toks + 1) (by rw [hD]; trivial) (.inl rfl) (fun b u hb hu => (sb.2 b hb).trans hu) ⟨o, ho⟩ (setK_new new)

section
variable {X : Cx}
theorem pe_scK {elt tg iter : Expr} {ifs : List Expr} {scope : Scope} {own : List (Str × Nat)} {pos : Pos} {wi : TI} {g : TG} {tt : TT} {te : TE} (calm : X.calm = true) (nd : X.N.Nodup) (hi : PI X tg iter wi) (ok : BlkOk X.N X.env.scope scope own)
    (G : ∀ s H C cl fp, PG (X.blk s H scope (compEnvC scope cl C X.env) fp) tg g) (T : ∀ s H C cl fp, PTs (X.blk s H scope (compEnvC scope cl C X.env) fp) ifs tt)
    (V : ∀ s H C cl fp, PE (X.blk s H scope (compEnvC scope cl C X.env) fp) elt te) (folds : ∀ x, foldedSetIterable iter X.env x = pure x := by intro _; rfl) :
    PE X (.SetComp elt [⟨tg, iter, ifs, 0⟩] scope pos) (tScK X.prog X.w wi g tt te (own.map (·.2))) := by
  refine ⟨fun pins s σ H Q I h => ?_⟩
  rw [PpSet.eval_SetComp]
  have frees : ∀ y ∈ scope.names, y.2 = .free → ∃ c, X.env.cells.lookup y.1 = some c := fun y hy e => (ok.free y hy e).elim (fun k => I.ok.has _ (.inl k)) fun k => I.ok.has _ (.inr k)
  refine wpAny_comprehension_free rfl folds (closure_ok frees) ok.kind (fun y hy e => by rw [ok.uniq y hy, e]) (thn (hi.run pins s σ H _ I h) fun xv s1 hx => thn hx fun itv s2 h2 => ?_)
  obtain ⟨it, fp, tn, J, H2, rfl, I2, walk, at2, free2, q⟩ := h2
  refine PpSet.newSet_ok (newEnv_comp ?_)
  -- D: the place of the new set
  obtain ⟨D, hD⟩ : ∃ D, s2.heap.objs.size = D := ⟨_, rfl⟩
  obtain ⟨W, ⟨m0, w0⟩, turn⟩ := q D (I2.hok.fresh (Nat.le_of_eq hD))
  obtain ⟨H3, eH3⟩ : ∃ H3, upd H2 D (SetK X.prog X.w D (fun _ => false) 0) = H3 := ⟨_, rfl⟩
  obtain ⟨s3, e3⟩ : ∃ s3 : Shared, ({ s2 with heap := s2.heap.push { cls := .type "set", dict := none, data := .set #[] 0 (.fresh 0 0 (!X.w.params.followText "set-order")) } } : Shared) = s3 := ⟨_, rfl⟩
  have I3 : Inv X pins σ H3 s3 := by
    subst e3 eH3
    refine I2.laid (t' := s2.toks) (fun b o e => Heap.get?_push_of_some _ e) (Nat.le_of_eq hD) ?_
    subst hD
    exact setK_new setK_fresh
  have grow : ∀ b o, s2.heap.get? b = some o → s3.heap.get? b = some o := fun b o e => by subst e3; exact Heap.get?_push_of_some _ e
  have in3 : ∀ b ∈ fp, b < s2.heap.objs.size ∧ b < s3.heap.objs.size := fun b hb => by
    obtain ⟨o, e, _⟩ := walk.obj _ _ at2 b hb
    exact ⟨Heap.lt_size e, Heap.lt_size (grow b o e)⟩
  have free3 : ∀ b ∈ fp, FpOk X pins H3 b ∧ b < s3.heap.objs.size := fun b hb => by
    refine ⟨⟨?_, (free2 b hb).2⟩, (in3 b hb).2⟩
    rw [← eH3, upd_ne (by rw [← hD]; exact Nat.ne_of_lt (in3 b hb).1)]
    exact (free2 b hb).1
  have at3 : tn 0 s3.heap := walk.keep _ _ _ at2 fun b _ o e => grow b o e
  have I4 := block_start I3 ok nd free3
  obtain ⟨cl, ecl⟩ : ∃ cl, cellsFrom (s3.heap.objs.size + 1) scope.names (cloFrom X.env.cells scope.names []) = cl := ⟨_, rfl⟩
  rw [ecl] at I4
  have pg := G s3 H3 s3.heap.objs.size cl fp
  have pt := T s3 H3 s3.heap.objs.size cl fp
  have pe := V s3 H3 s3.heap.objs.size cl fp
  rw [eH3] at w0
  have none3 : ∀ b ∈ fp, H3 b = none := fun b hb => (free3 b hb).1.1
  show codeAny _ _ (.compStart (.SetComp elt [⟨tg, iter, ifs, 0⟩] scope pos) 0 (.ref it) (.ref s2.heap.objs.size) _) _ _
  rw [e3, hD, ecl]
  show codeAny _ _ (.compStart _ 0 (.ref it) (.ref D) (compEnvC scope cl s3.heap.objs.size X.env)) (compPost (model X.prog X.w) X.A X.xe none (EP X pins σ Q) (.ref D) s3.heap.objs.size)
    ({ s3 with heap := pushCells (s3.heap.push { cls := .type "dict", data := .dict #[] }) scope.names } : Shared)
  obtain ⟨ce, ece⟩ : ∃ ce, compEnvC scope cl s3.heap.objs.size X.env = ce := ⟨_, rfl⟩
  rw [ece] at I4 pg pt pe ⊢
  have place : ce.locals = s3.heap.objs.size := by rw [← ece]; rfl
  obtain ⟨s4, e4⟩ : ∃ s4 : Shared, ({ s3 with heap := pushCells (s3.heap.push { cls := .type "dict", data := .dict #[] }) scope.names } : Shared) = s4 := ⟨_, rfl⟩
  rw [e4] at I4 ⊢
  have at4 : tn 0 s4.heap := walk.keep _ _ _ at3 fun b _ o e => by rw [← e4]; exact pushCells_keeps _ _ _ _ (Heap.get?_push_of_some _ e)
  have stays : ∀ {σ' : L2.St} {H' : Hp} {s' : Shared}, Inv (X.blk s3 H3 scope ce fp) [] σ' H' s' → (∀ b ∈ fp, H' b = none) → ∀ b ∈ fp, FpOk (X.blk s3 H3 scope ce fp) [] H' b := fun {σ' H' s'} I' hn b hb =>
    ⟨hn b hb, (I'.ok.exf b hb).1, I'.ok.exfs b hb, .inl hb, fun x c e => (I'.ok.exf b hb).2 x c e, fun p hp => absurd (show p ∈ ([] : List (Addr × Obj)) ++ [] from hp) (by simp)⟩
  refine PpSet.codeAny_compStart_set ?loop (walk.self X.A 0 _ _ _ at4 ?loop)
  refine PpSet.compLoopS_any (fun n s' => ∃ i H', Inv (X.blk s3 H3 scope ce fp) [] (wipe σ (own.map (·.2))) H' s' ∧ tn i s'.heap ∧ (∀ b ∈ fp, H' b = none) ∧ W i n H') ?_ m0 ⟨0, H3, I4, at4, none3, w0⟩
  rintro n s5 ⟨i, H5, I5, at5, n5, w5⟩
  rcases turn i n H5 w5 with ⟨stop, qq⟩ | ⟨go, Nx, hNx, step⟩
  · -- no item is left: back in the def
    refine thnF (walk.done (X.blk s3 H3 scope ce fp) rfl rfl rfl calm i [] s5 _ H5 (fun _ _ => False) I5 (stays I5 n5) at5 stop) fun r s6 ⟨hr, I6⟩ => ?_
    subst hr
    have I7 : Inv X pins σ H5 s6 := I3.call' (ch := fp) I6.os I6.base I6.hok I6.bare fun b hb => ⟨(free3 b hb).1.2.2.2.1, (free3 b hb).1.2.1, (free3 b hb).1.2.2.2.2.1, (free3 b hb).1.2.2.2.2.2⟩
    have none5 : H5 s3.heap.objs.size = none := place ▸ (show H5 ce.locals = none from I6.free)
    obtain ⟨m, hn, _⟩ := I6.loc
    have hn : s6.heap.Ns ce.locals m := hn
    rw [place] at hn
    obtain ⟨f0, f1, f2, f3, f4, f5⟩ := I3.fpOk (Nat.le_refl _) none5
    exact ⟨m, hn, fun h'' sb => ⟨.ref D, H5, I7.turned (t' := s6.toks) (fun b o hb e => (sb.2 b hb).trans e) f0 f1 f3 f4 f5, rfl, qq⟩⟩
  · refine thnF (walk.item (X.blk s3 H3 scope ce fp) rfl rfl rfl calm i [] s5 _ H5 (fun _ _ => False) I5 (stays I5 n5) at5 go) fun r s6 ⟨u, hr, h6⟩ => ?_
    subst hr
    refine thnF h6 fun _ s7 ⟨x, H7, I7, r7, y7, at7, n7⟩ => ?_
    refine thnF (pg.run _ s7 _ H7 x u _ (I7.pinned (stays I7 n7) (walk.obj _ _ at7)) r7 (step x H7 y7)) fun _ s8 ⟨σ8, H8, I8, same8, q8⟩ => ?_
    refine thnF (pt.run _ s8 σ8 H8 _ I8 q8) fun b s9 ⟨H9, I9, q9⟩ => ?_
    have next : ∀ {s' : Shared} {H' : Hp}, Inv (X.blk s3 H3 scope ce fp) ([] ++ pinsAt fp s7.heap) σ8 H' s' → Nx H' →
        ∃ m, m < n ∧ ∃ i H', Inv (X.blk s3 H3 scope ce fp) [] (wipe σ (own.map (·.2))) H' s' ∧ tn i s'.heap ∧ (∀ b ∈ fp, H' b = none) ∧ W i m H' := fun {s' H'} I' nx => by
      obtain ⟨m', less, w'⟩ := hNx H' nx
      have pinned : ∀ b ∈ fp, ∀ o, s7.heap.get? b = some o → s'.heap.get? b = some o ∧ H' b = none := fun b hb o e =>
        have z := I'.pin (b, o) (List.mem_append_right _ (List.mem_append_right _ (mem_pinsAt hb e)))
        ⟨z.1, z.2.1⟩
      refine ⟨m', less, i + 1, H', (I'.unpinned (pins := [])).weak (by rw [← same8, wipe_length]) (fun j v e => ?_), walk.keep _ _ _ at7 fun b hb o e => (pinned b hb o e).1, fun b hb => ?_, w'⟩
      · rw [← same8] at e
        exact (wipe_some e).1
      · obtain ⟨o, e, _⟩ := walk.obj _ _ at7 b hb
        exact (pinned b hb o e).2
    cases b with
    | false =>
      simp only [Bool.false_eq_true, if_false] at q9 ⊢
      exact next I9 q9
    | true =>
      simp only [if_true] at q9 ⊢
      refine thnF (pe.run _ s9 σ8 H9 _ I9 q9) fun z s10 ⟨yv, H10, I10, r10, k, S0, n0, ey, atD, room, nx⟩ => ?_
      subst ey
      exact addK_ok (X := X.blk s3 H3 scope ce fp) I10 r10 atD room fun s11 I11 => next I11 nx
end
end As
namespace As
open PySem PySem.Spec PyProof.Rows L2
theorem call_lenK {X : Cx} : CallR X (.builtin "len") (fun xs H Q => ∃ (a : Addr) (S : Key → Bool) (n : Nat), xs = [.ref a] ∧ H a = some (SetK X.prog X.w a S n) ∧ Q (.int n) H) := by
  intro pins s σ H xs us Q I r h
  obtain ⟨a, S, n, rfl, ha, q⟩ := h
  cases r with
  | cons r t =>
    cases t
    cases (show _ = Value.ref a from r)
    obtain ⟨o, es, ep, t, ho, hex, hd, _, _, hb, hf, hn⟩ := setK_get I ha
    have hs : (scanBound : Nat) ≤ 2 ^ 62 := by decide
    exact call_len_set ho hex hd hf (by omega) ⟨.int n, H, I.tok _, ⟨_, by rw [hn]⟩, q⟩

/-- the set comprehension that only reads: keys distinct -/
theorem sc_same {P : Program} {w : World} {J : It} {n : Nat} {G : Hp → Prop} {xs : List V} {g : TG} {tt : TT} {te : TE} {vs : List Nat} {σ : L2.St} {H1 B : Hp} {D : Addr} {Qd : Hp → Prop}
    (wk : Walk J n G (YAt xs)) (hn : n = xs.length) (s0 : Same B H1) (hD : H1 D = none) (hG : ∀ H, Same B H → G H) (hl : xs.length + 1 < scanBound) (f : V → Key) (nd : (xs.map f).Nodup)
    (hs : ∀ x H (Q1 : VK) (Q2 : Hp → Prop), x ∈ xs → Same B H → (∀ H4, Same H H4 → Q1 (kV (f x)) H4) →
      g x (wipe σ vs) H fun σ2 H2 => wipe σ2 vs = wipe σ vs ∧ tt σ2 H2 fun b H3 => if b = true then te σ2 H3 Q1 else Q2 H3)
    (hd : ∀ H' S, Same H1 H' → H' D = some (SetK P w D S xs.length) → Qd H') :
    ∃ W : Nat → Nat → Hp → Prop, (∃ m, W 0 m (upd H1 D (SetK P w D (fun _ => false) 0))) ∧ ∀ i m H, W i m H →
      (J.stop i H ∧ Qd H) ∨ (J.go i H ∧ ∃ Nx : Hp → Prop, (∀ H', Nx H' → ∃ m', m' < m ∧ W (i + 1) m' H') ∧ ∀ x H', J.yld i H x H' → g x (wipe σ vs) H' fun σ2 H2 => wipe σ2 vs = wipe σ vs ∧ tt σ2 H2 fun b H3 =>
        if b = true then te σ2 H3 (ScTurn P w D Nx) else Nx H3) := by
  subst hn
  have main : ∀ i, i ≤ xs.length → ∀ H, (Same H1 H ∧ ∃ S : Key → Bool, H D = some (SetK P w D S i) ∧ ∀ k, S k = true → k ∈ (xs.take i).map f) → True := fun _ _ _ _ => trivial
  refine ⟨fun i m H => m = xs.length - i ∧ i ≤ xs.length ∧ Same H1 H ∧ ∃ S : Key → Bool, H D = some (SetK P w D S i) ∧ ∀ k, S k = true → k ∈ (xs.take i).map f, ⟨_, rfl, Nat.zero_le _, same_new hD, _, upd_same, fun k z => by cases z⟩, ?_⟩
  rintro i m H ⟨rfl, hi, s1, S, hS, hk⟩
  by_cases hlt : i < xs.length
  · refine .inr ⟨wk.goes i H hlt (hG H (s0.trans s1)), fun H' => Same H1 H' ∧ ∃ S : Key → Bool, H' D = some (SetK P w D S (i + 1)) ∧ ∀ k, S k = true → k ∈ (xs.take (i + 1)).map f, fun H' p => ⟨xs.length - (i + 1), by omega, rfl, hlt, p⟩, fun x H' y => ?_⟩
    obtain ⟨rfl, hx⟩ := wk.yields i H x H' hlt (hG H (s0.trans s1)) y
    have ht : xs.take (i + 1) = xs.take i ++ [x] := by rw [List.take_succ, hx]; rfl
    refine hs x H' _ _ (List.mem_of_getElem? hx) (s0.trans s1) fun H4 s4 => ?_
    have new : S (f x) = false := by
      cases e : S (f x) with
      | false => rfl
      | true =>
        have h1 := hk _ e
        have h2 : ((xs.take (i + 1)).map f).Nodup := by
          rw [List.map_take]; exact List.Sublist.nodup (List.take_sublist _ _) nd
        rw [ht, List.map_append, List.nodup_append] at h2
        exact absurd rfl (h2.2.2 _ h1 (f x) (by simp))
    refine ⟨f x, S, i, rfl, s4 _ _ hS, by omega, same_mut (s1.trans s4) hD, _, by rw [upd_same, new]; rfl, fun k z => ?_⟩
    rw [ht, List.map_append, List.mem_append]
    rw [Bool.or_eq_true] at z
    rcases z with z | z
    · exact .inl (hk k z)
    · exact .inr (by rw [of_decide_eq_true z]; simp)
  · have e : i = xs.length := by omega
    subst e
    exact .inl ⟨wk.stops H (hG H (s0.trans s1)), hd H S s1 hS⟩
end As
namespace As
open PySem PySem.Spec PyProof.Rows L2
/-! the same rules where the context is a comprehension's: the text's part is named -/
section
variable {X : Cx} (K : PySem.W.Frag)
theorem inK (h : X.K = K := by rfl) : OpR X (compareOp .In) (rIn K false) := h ▸ op_in_seq
theorem notInK (h : X.K = K := by rfl) : OpR X (compareOp .NotIn) (rIn K true) := h ▸ op_notIn_seq
theorem ixL (h : X.K = K := by rfl) : IxR X (rIxL K) := h ▸ ix_list
theorem ixT (h : X.K = K := by rfl) : IxR X (rIxT K) := h ▸ ix_tup
theorem slL (h : X.K = K := by rfl) : SlR X (rSlL K) := h ▸ sl_list
theorem pgT {es : List Expr} {k n : Nat} {t : TGs} {pos : Pos} (hk : PG X (.Tuple es k pos) (gTup X.K n t)) (h : X.K = K := by rfl) : PG X (.Tuple es k pos) (gTup K n t) := h ▸ hk
end
end As

/-! ## A4 -/
namespace As
open PySem PySem.Spec PyProof.Rows L2
section
variable {X : Cx} (K : PySem.W.Frag)
theorem fldK {e : Expr} {f : Str} {ta : TE} {pos : Pos} (he : PE X e ta) (hb : attributeBase e f X.env (eval e X.env) = eval e X.env := by rfl) (h : X.K = K := by rfl) : PE X (.Attribute e f pos) (tFld K ta f) := h ▸ pe_fld he hb
theorem tupK {p pos : Pos} {a : Expr} {ta : TE} (ha : PE X a ta) (hg : Gl X "tuple" := by rfl) (hm : X.mg "tuple" = none := by assumption) (h : X.K = K := by rfl) (na : starEach [a] X.env = (false, eval a X.env) :: starEach [] X.env := by rfl) :
    PE X (.Call (.Name "tuple" p) [a] [] pos) (tThen ta (kTup K)) := h ▸ pe_tupleOf hg hm ha na
theorem piL {tg l : Expr} {tl : TE} (hl : PE X l tl) (h : X.K = K := by rfl) : PI X tg l (iList K tl) := h ▸ pi_list hl
theorem piT {tg l : Expr} {tl : TE} (hl : PE X l tl) (h : X.K = K := by rfl) : PI X tg l (iTup K tl) := h ▸ pi_tup hl
end
theorem putK_new {κ : Type} [DecidableEq κ] {kvs : List (κ × V)} {k : κ} {v : V} (h : k ∉ kvs.map (·.1)) : putK kvs k v = kvs ++ [(k, v)] := by
  unfold putK
  rw [if_neg]
  intro z
  rw [List.any_eq_true] at z
  obtain ⟨kv, hm, e⟩ := z
  exact h (List.mem_map.mpr ⟨kv, hm, of_decide_eq_true e⟩)
theorem paired_keys {α : Type} {R : α → V → Prop} {f : α → Key} : ∀ {xs : List α} {kvs : List (Key × V)}, Paired (fun x kv => kv.1 = f x ∧ R x kv.2) xs kvs → kvs.map (·.1) = xs.map f
  | _, _, .nil => rfl
  | _, _, .cons h t => by rw [List.map_cons, List.map_cons, h.1, paired_keys t]
theorem paired_len {α β : Type} {R : α → β → Prop} : ∀ {xs : List α} {ys : List β}, Paired R xs ys → xs.length = ys.length
  | _, _, .nil => rfl
  | _, _, .cons _ t => by rw [List.length_cons, List.length_cons, paired_len t]
theorem paired_imp {α β : Type} {R S : α → β → Prop} (h : ∀ a b, R a b → S a b) : ∀ {xs : List α} {ys : List β}, Paired R xs ys → Paired S xs ys
  | _, _, .nil => .nil
  | _, _, .cons r t => .cons (h _ _ r) (paired_imp h t)
/-- tuples stand -/
def Imm (H H' : Hp) : Prop := ∀ b xs, H b = some (.tup xs) → H' b = some (.tup xs)
theorem same_imm {H H' : Hp} (e : Same H H') : Imm H H' := fun _ _ h => e _ _ h
theorem imm_dict {H : Hp} {D : Addr} {kvs : List (Key × V)} {o : HO} (h : H D = some (.dK kvs)) : Imm H (upd H D o) := fun b xs e => by
  rw [upd_ne (fun z => by subst z; rw [h] at e; cases e)]; exact e

/-- a dict comprehension whose keys are distinct; R tells of each value -/
theorem dc_same {J : It} {n : Nat} {G : Hp → Prop} {xs : List V} {g : TG} {tt : TT} {tk tv : TE} {vs : List Nat} {σ : L2.St} {H1 B : Hp} {D : Addr} {Qd : Hp → Prop}
    (wk : Walk J n G (YAt xs)) (hn : n = xs.length) (s0 : Same B H1) (hD : H1 D = none) (hG : ∀ H, Same B H → G H) (hl : xs.length < sizeLine) (f : V → Key) (nd : (xs.map f).Nodup)
    (R : V → V → Hp → Prop) (mono : ∀ x v H H', Imm H H' → R x v H → R x v H')
    (hs : ∀ x H (Q1 : V → V → Hp → Prop) (Q2 : Hp → Prop), x ∈ xs → Same B H → (∀ v H5, Same H H5 → R x v H5 → Q1 (kV (f x)) v H5) →
      g x (wipe σ vs) H fun σ2 H2 => wipe σ2 vs = wipe σ vs ∧ tt σ2 H2 fun b H3 => if b = true then tk σ2 H3 (fun y H4 => tv σ2 H4 fun z H5 => Q1 y z H5) else Q2 H3)
    (hd : ∀ H' kvs, Same H1 H' → H' D = some (.dK kvs) → Paired (fun x kv => kv.1 = f x ∧ R x kv.2 H') xs kvs → Qd H') :
    ∃ W : Nat → Nat → Hp → Prop, (∃ m, W 0 m (upd H1 D (.dK []))) ∧ ∀ i m H, W i m H →
      (J.stop i H ∧ Qd H) ∨ (J.go i H ∧ ∃ Nx : Hp → Prop, (∀ H', Nx H' → ∃ m', m' < m ∧ W (i + 1) m' H') ∧ ∀ x H', J.yld i H x H' → g x (wipe σ vs) H' fun σ2 H2 => wipe σ2 vs = wipe σ vs ∧ tt σ2 H2 fun b H3 =>
        if b = true then tk σ2 H3 fun y H4 => tv σ2 H4 fun z H5 => ∃ kvs k, y = kV k ∧ H5 D = some (.dK kvs) ∧ kvs.length < sizeLine ∧ Nx (upd H5 D (.dK (putK kvs k z))) else Nx H3) := by
  subst hn
  refine ⟨fun i m H => m = xs.length - i ∧ i ≤ xs.length ∧ Same H1 H ∧ ∃ kvs, H D = some (.dK kvs) ∧ Paired (fun x (kv : Key × V) => kv.1 = f x ∧ R x kv.2 H) (xs.take i) kvs, ⟨_, rfl, Nat.zero_le _, same_new hD, [], upd_same, .nil⟩, ?_⟩
  rintro i m H ⟨rfl, hi, s1, kvs, hS, hk⟩
  by_cases hlt : i < xs.length
  · refine .inr ⟨wk.goes i H hlt (hG H (s0.trans s1)), fun H' => Same H1 H' ∧ ∃ kvs, H' D = some (.dK kvs) ∧ Paired (fun x (kv : Key × V) => kv.1 = f x ∧ R x kv.2 H') (xs.take (i + 1)) kvs, fun H' p => ⟨xs.length - (i + 1), by omega, rfl, hlt, p⟩, fun x H' y => ?_⟩
    obtain ⟨rfl, hx⟩ := wk.yields i H x H' hlt (hG H (s0.trans s1)) y
    have ht : xs.take (i + 1) = xs.take i ++ [x] := by rw [List.take_succ, hx]; rfl
    refine hs x H' _ _ (List.mem_of_getElem? hx) (s0.trans s1) fun v H5 s5 r5 => ?_
    have h5 := s5 _ _ hS
    have keys := paired_keys (R := fun x v => R x v H') (f := f) hk
    have new : f x ∉ kvs.map (·.1) := by
      rw [keys]
      intro h1
      have h2 : ((xs.take (i + 1)).map f).Nodup := by
        rw [List.map_take]; exact List.Sublist.nodup (List.take_sublist _ _) nd
      rw [ht, List.map_append, List.nodup_append] at h2
      exact absurd rfl (h2.2.2 _ h1 (f x) (by simp))
    have len := paired_len hk
    refine ⟨kvs, f x, rfl, h5, ?_, same_mut (s1.trans s5) hD, _, upd_same, ?_⟩
    · rw [← len]; have := List.length_take_le i xs; omega
    · rw [putK_new new, ht]
      have im : Imm H5 (upd H5 D (.dK (kvs ++ [(f x, v)]))) := imm_dict h5
      exact (paired_imp (fun a b r => ⟨r.1, mono _ _ _ _ im (mono _ _ _ _ (same_imm s5) r.2)⟩) hk).snoc ⟨rfl, mono _ _ _ _ im r5⟩
  · have e : i = xs.length := by omega
    subst e
    rw [List.take_length] at hk
    exact .inl ⟨wk.stops H (hG H (s0.trans s1)), hd H kvs s1 hS hk⟩
end As

/-! ## A19 -/
set_option maxHeartbeats 2000000
namespace As
open PySem PySem.Spec PyProof.Rows L2
/-! dicts whose keys are tuples within tuples -/
mutual
/-- x reads as the key k -/
inductive NkV (H : Hp) : NestedKey → V → Prop
  | int (i : Int) : NkV H (.num i) (.int i)
  | str (z : Str) : NkV H (.text z) (.str z)
  | tup {a : Addr} {xs : List V} {ks : List NestedKey} (h : H a = some (.tup xs)) (all : NkAll H ks xs) : NkV H (.tup ks) (.ref a)
inductive NkAll (H : Hp) : List NestedKey → List V → Prop
  | nil : NkAll H [] []
  | cons {k : NestedKey} {x : V} {ks : List NestedKey} {xs : List V} (h : NkV H k x) (t : NkAll H ks xs) : NkAll H (k :: ks) (x :: xs)
end
mutual
theorem NkV.imm {H H' : Hp} (e : Imm H H') : ∀ {k : NestedKey} {x : V}, NkV H k x → NkV H' k x
  | _, _, .int i => .int i
  | _, _, .str z => .str z
  | _, _, .tup h a => .tup (e _ _ h) (NkAll.imm e a)
theorem NkAll.imm {H H' : Hp} (e : Imm H H') : ∀ {ks : List NestedKey} {xs : List V}, NkAll H ks xs → NkAll H' ks xs
  | _, _, .nil => .nil
  | _, _, .cons h a => .cons (NkV.imm e h) (NkAll.imm e a)
end
mutual
theorem nk_is {P : Program} {w : World} {H : Hp} {h : Heap} (ok : HOk P w H h) : ∀ {k : NestedKey} {x : V} {u : Value}, NkV H k x → RelV x u → NestedIs h k u
  | _, _, _, .int i, r => by obtain ⟨t, rfl⟩ := r; exact .int i t
  | _, _, _, .str z, r => by obtain ⟨t, rfl⟩ := r; exact .text z t
  | _, _, _, .tup (a := a) (xs := xs) e all, r => by
    obtain rfl := r
    obtain ⟨_, its, rv, o, ho, hc, n, hd⟩ := ok _ _ e
    exact .tup ho hc hd (by rw [List.toList_toArray]; exact nk_all ok all rv)
theorem nk_all {P : Program} {w : World} {H : Hp} {h : Heap} (ok : HOk P w H h) : ∀ {ks : List NestedKey} {xs : List V} {us : List Value}, NkAll H ks xs → Vals xs us → NestedAll h ks us
  | _, _, _, .nil, r => by cases r; exact .nil
  | _, _, _, .cons k t, r => by
    cases r with
    | cons a b => exact .cons (nk_is ok k a) (nk_all ok t b)
end
/-- the key at an address, not deep -/
def KeyAt (H : Hp) (k : NestedKey) (a : Addr) : Prop := NkV H k (.ref a) ∧ k.depth ≤ 8
theorem KeyAt.imm {H H' : Hp} {k : NestedKey} {a : Addr} (h : KeyAt H k a) (e : Imm H H') : KeyAt H' k a := ⟨h.1.imm e, h.2⟩
theorem KeyAt.is {P : Program} {w : World} {H : Hp} {h : Heap} {k : NestedKey} {a : Addr} (x : KeyAt H k a) (ok : HOk P w H h) : (nestedKind P w).is h k a := ⟨nk_is ok x.1 rfl, x.2⟩
abbrev NEnt := NestedKey × Addr × V
def NRel (p : NEnt) (q : NestedKey × Addr × Value) : Prop := p.1 = q.1 ∧ p.2.1 = q.2.1 ∧ RelV p.2.2 q.2.2
def NDictH (P : Program) (w : World) (d : Addr) (es : List NEnt) (h : Heap) : Prop :=
  es.length ≤ sizeLine ∧ (d == sysModules) = false ∧ ∃ xs : List (NestedKey × Addr × Value), Paired NRel es xs ∧ ∃ o eds ep, h.get? d = some o ∧ o.ExactDict ∧ o.data = .dict eds ep ∧ eds.toList = xs.map (entryOfKey (nestedKind P w)) ∧ (xs.map (·.1)).Nodup
/-- at d a dict of these keys (each with its object) and values -/
def NDict (P : Program) (w : World) (d : Addr) (es : List NEnt) : HO := .ext (NDictH P w d es)
theorem paired_get {α β : Type} {R : α → β → Prop} : ∀ {xs : List α} {ys : List β}, Paired R xs ys → ∀ {j : Nat} {x : α}, xs[j]? = some x → ∃ y, ys[j]? = some y ∧ R x y
  | _, _, .nil, j, x, h => by simp at h
  | _, _, .cons r t, 0, x, h => by
    rw [List.getElem?_cons_zero] at h ⊢; cases h; exact ⟨_, rfl, r⟩
  | _, _, .cons r t, j + 1, x, h => by
    rw [List.getElem?_cons_succ] at h ⊢; exact paired_get t h
theorem nd_ok {P : Program} {w : World} {H : Hp} {h : Heap} {d : Addr} {es : List NEnt} (x : NDictH P w d es h) : ObjOk P w H h d (NDict P w d es) := by
  refine ⟨x, ?_, fun h1 h2 y k => ?_⟩
  · obtain ⟨_, _, _, _, o, _, _, e, _⟩ := x; exact ⟨o, e⟩
  · obtain ⟨z1, z2, xs, z3, o, eds, ep, e, z4⟩ := y
    exact ⟨z1, z2, xs, z3, o, eds, ep, k o e, z4⟩
/-- the keys' objects stand -/
def KeysAt (H : Hp) (es : List NEnt) : Prop := ∀ p ∈ es, KeyAt H p.1 p.2.1
theorem KeysAt.imm {H H' : Hp} {es : List NEnt} (h : KeysAt H es) (e : Imm H H') : KeysAt H' es := fun p hp => (h p hp).imm e
theorem paired_mem_right {α β : Type} {R : α → β → Prop} : ∀ {xs : List α} {ys : List β}, Paired R xs ys → ∀ y ∈ ys, ∃ x ∈ xs, R x y
  | _, _, .nil, y, hy => nomatch hy
  | _, _, .cons r t, y, hy => by
    rcases List.mem_cons.mp hy with e | hy
    · subst e; exact ⟨_, List.mem_cons_self, r⟩
    · obtain ⟨x, hx, rx⟩ := paired_mem_right t y hy
      exact ⟨x, List.mem_cons_of_mem _ hx, rx⟩
theorem nd_get {P : Program} {w : World} {H : Hp} {h : Heap} {d : Addr} {es : List NEnt} (ok : HOk P w H h) (e : H d = some (NDict P w d es)) (ks : KeysAt H es) :
    es.length ≤ sizeLine ∧ (d == sysModules) = false ∧ ∃ xs, Paired NRel es xs ∧ h.DictOfH (nestedKind P w) d xs := by
  obtain ⟨⟨z1, z2, xs, z3, o, eds, ep, e1, e2, e3, e4, e5⟩, _⟩ := ok _ _ e
  refine ⟨z1, z2, xs, z3, o, eds, ep, e1, e2, e3, e4, fun x hx => ?_, e5⟩
  obtain ⟨p, hp, r1, r2, _⟩ := paired_mem_right z3 x hx
  have := (ks p hp).is (P := P) (w := w) ok
  rw [r1, r2] at this
  exact this
def ndVal (es : List NEnt) (k : NestedKey) : Option V := (es.find? fun p => decide (p.1 = k)).map (·.2.2)
def ndPut (es : List NEnt) (k : NestedKey) (a : Addr) (v : V) : List NEnt := if (ndVal es k).isSome then es.map (fun p => if p.1 = k then (p.1, p.2.1, v) else p) else es ++ [(k, a, v)]
theorem nd_at : ∀ {es : List NEnt} {xs : List (NestedKey × Addr × Value)}, Paired NRel es xs → ∀ k, (ndVal es k = none ∧ atKey xs k = none) ∨ ∃ v p, ndVal es k = some v ∧ atKey xs k = some p ∧ RelV v p.2
  | _, _, .nil, k => .inl ⟨rfl, rfl⟩
  | e :: es, x :: xs, .cons r t, k => by
    obtain ⟨r1, r2, r3⟩ := r
    by_cases h : e.1 = k
    · refine .inr ⟨e.2.2, x.2, ?_, ?_, r3⟩
      · unfold ndVal; rw [List.find?_cons]; simp [h]
      · unfold atKey; rw [List.find?_cons]; simp [← r1, h]
    · have e1 : ndVal (e :: es) k = ndVal es k := by unfold ndVal; rw [List.find?_cons]; simp [h]
      have e2 : atKey (x :: xs) k = atKey xs k := by unfold atKey; rw [List.find?_cons]; simp [← r1, h]
      rw [e1, e2]
      exact nd_at t k
theorem nd_stored {es : List NEnt} {xs : List (NestedKey × Addr × Value)} (t : Paired NRel es xs) {k : NestedKey} {a : Addr} {v : V} {u : Value} (r : RelV v u) : Paired NRel (ndPut es k a v) (storedH xs k a u) := by
  have mapped : ∀ {es : List NEnt} {xs : List (NestedKey × Addr × Value)}, Paired NRel es xs → Paired NRel (es.map fun p => if p.1 = k then (p.1, p.2.1, v) else p) (xs.map (putAt k u)) := by
    intro es xs t
    induction t with
    | nil => exact .nil
    | cons q _ ih =>
      rename_i e x _ _ _
      obtain ⟨q1, q2, q3⟩ := q
      refine .cons ?_ ih
      show NRel (if e.1 = k then (e.1, e.2.1, v) else e) (if x.1 = k then (x.1, x.2.1, u) else x)
      by_cases h : e.1 = k
      · rw [if_pos h, if_pos (by rw [← q1]; exact h)]; exact ⟨q1, q2, r⟩
      · rw [if_neg h, if_neg (by rw [← q1]; exact h)]; exact ⟨q1, q2, q3⟩
  rcases nd_at t k with ⟨h1, h2⟩ | ⟨v', p, h1, h2, _⟩
  · rw [storedH_new h2]; unfold ndPut; rw [h1]
    exact t.snoc ⟨rfl, rfl, r⟩
  · rw [storedH_old h2]; unfold ndPut; rw [h1]
    exact mapped t
theorem ndPut_len {es : List NEnt} {k : NestedKey} {a : Addr} {v : V} : (ndPut es k a v).length ≤ es.length + 1 := by
  unfold ndPut; split
  · rw [List.length_map]; omega
  · rw [List.length_append]; simp
theorem nd_new {P : Program} {w : World} {h : Heap} {d : Addr} {es : List NEnt} {xs : List (NestedKey × Addr × Value)} (z1 : es.length ≤ sizeLine) (z2 : (d == sysModules) = false) (t : Paired NRel es xs) (x : h.DictOfH (nestedKind P w) d xs) : NDictH P w d es h := by
  obtain ⟨o, eds, ep, e1, e2, e3, e4, _, e5⟩ := x
  exact ⟨z1, z2, xs, t, o, eds, ep, e1, e2, e3, e4, e5⟩
section
variable {X : Cx}
/-- a turn of the comprehension stores v at the key y -/
def NdTurn (P : Program) (w : World) (D : Addr) (Nx : Hp → Prop) (y z : V) (H : Hp) : Prop := ∃ (es : List NEnt) (k : NestedKey) (a : Addr), y = .ref a ∧ KeyAt H k a ∧ H D = some (NDict P w D es) ∧ KeysAt H es ∧ es.length < sizeLine ∧ Nx (upd H D (NDict P w D (ndPut es k a z)))
def tDcN (P : Program) (w : World) (wi : TI) (g : TG) (tt : TT) (tk tv : TE) (vs : List Nat) : TE := fun σ H Q => wi σ H fun J H1 => ∀ D, H1 D = none →
  ∃ W : Nat → Nat → Hp → Prop, (∃ m, W 0 m (upd H1 D (NDict P w D []))) ∧ ∀ i m H, W i m H → (J.stop i H ∧ Q (.ref D) H) ∨ (J.go i H ∧ ∃ Nx : Hp → Prop, (∀ H', Nx H' → ∃ m', m' < m ∧ W (i + 1) m' H') ∧
    ∀ x H', J.yld i H x H' → g x (wipe σ vs) H' fun σ2 H2 => wipe σ2 vs = wipe σ vs ∧ tt σ2 H2 fun b H3 => if b = true then tk σ2 H3 fun y H4 => tv σ2 H4 fun z H5 => NdTurn P w D Nx y z H5 else Nx H3)
theorem nd_store {pins : List (Addr × Obj)} {σ : L2.St} {H : Hp} {s : Shared} {E : Value → Shared → Prop} {D a : Addr} {es : List NEnt} {k : NestedKey} {z : V} {r : Value} {Q : Unit → Shared → Prop} (room : X.A.units + 8 < cLine) (I : Inv X pins σ H s)
    (hk : KeyAt H k a) (hD : H D = some (NDict X.prog X.w D es)) (ks : KeysAt H es) (len : es.length < sizeLine) (rz : RelV z r) (q : ∀ s', Inv X pins σ (upd H D (NDict X.prog X.w D (ndPut es k a z))) s' → Q () s') :
    wpAny (model X.prog X.w) X.A (dictSet D (.ref a) r) Q E s := by
  obtain ⟨z1, z2, xs, t, hx⟩ := nd_get I.hok hD ks
  have lx : xs.length ≤ sizeLine := by rw [← paired_len t]; exact z1
  refine wpAny_dictSet_heap (knd := nestedKind X.prog X.w) (hsz := lx) room (hk.is I.hok) hx fun h' hx' sb => q _ ?_
  have there : ∃ o, h'.get? D = some o := let ⟨o, _, _, ho, _⟩ := hx'; ⟨o, ho⟩
  exact d_write I (by rw [hD]; trivial) sb there (nd_ok (nd_new (Nat.le_trans ndPut_len len) z2 (nd_stored t rz) hx'))
theorem nd_fresh {P : Program} {w : World} {h : Heap} (big : sysModules < h.objs.size) : NDictH P w h.objs.size [] (h.push { cls := .type "dict", data := .dict #[] }) := by
  refine nd_new (xs := []) (Nat.zero_le _) ?_ .nil (Heap.DictOfH.new h)
  exact beq_eq_false_iff_ne.mpr (Nat.ne_of_gt big)
theorem pe_dcN {kx vx tg iter : Expr} {ifs : List Expr} {scope : Scope} {own : List (Str × Nat)} {pos : Pos} {wi : TI} {g : TG} {tt : TT} {tk tv : TE} (room : X.A.units + 8 < cLine) (calm : X.calm = true) (nd : X.N.Nodup) (hi : PI X tg iter wi) (ok : BlkOk X.N X.env.scope scope own)
    (G : ∀ s H C cl fp, PG (X.blk s H scope (compEnvC scope cl C X.env) fp) tg g) (T : ∀ s H C cl fp, PTs (X.blk s H scope (compEnvC scope cl C X.env) fp) ifs tt)
    (KE : ∀ s H C cl fp, PE (X.blk s H scope (compEnvC scope cl C X.env) fp) kx tk) (VE : ∀ s H C cl fp, PE (X.blk s H scope (compEnvC scope cl C X.env) fp) vx tv) (folds : ∀ x, foldedSetIterable iter X.env x = pure x := by intro _; rfl) :
    PE X (.DictComp kx vx [⟨tg, iter, ifs, 0⟩] scope pos) (tDcN X.prog X.w wi g tt tk tv (own.map (·.2))) := by
  refine ⟨fun pins s σ H Q I h => ?_⟩
  rw [arm_eval_DictComp]
  have frees : ∀ y ∈ scope.names, y.2 = .free → ∃ c, X.env.cells.lookup y.1 = some c := fun y hy e => (ok.free y hy e).elim (fun k => I.ok.has _ (.inl k)) fun k => I.ok.has _ (.inr k)
  refine wpAny_comprehension_free rfl folds (closure_ok frees) ok.kind (fun y hy e => by rw [ok.uniq y hy, e]) (thn (hi.run pins s σ H _ I h) fun xv s1 hx => thn hx fun itv s2 h2 => ?_)
  obtain ⟨it, fp, tn, J, H2, rfl, I2, walk, at2, free2, q⟩ := h2
  refine wpAny_newObj_type (newEnv_comp ?_)
  obtain ⟨D, hD⟩ : ∃ D, s2.heap.objs.size = D := ⟨_, rfl⟩
  obtain ⟨W, ⟨m0, w0⟩, turn⟩ := q D (I2.hok.fresh (Nat.le_of_eq hD))
  obtain ⟨H3, eH3⟩ : ∃ H3, upd H2 D (NDict X.prog X.w D []) = H3 := ⟨_, rfl⟩
  obtain ⟨s3, e3⟩ : ∃ s3 : Shared, ({ s2 with heap := s2.heap.push { cls := .type "dict", data := .dict #[] } } : Shared) = s3 := ⟨_, rfl⟩
  have I3 : Inv X pins σ H3 s3 := by
    subst e3 eH3
    refine I2.laid (t' := s2.toks) (fun b o e => Heap.get?_push_of_some _ e) (Nat.le_of_eq hD) ?_
    subst hD
    exact nd_ok (nd_fresh I2.big)
  have grow : ∀ b o, s2.heap.get? b = some o → s3.heap.get? b = some o := fun b o e => by subst e3; exact Heap.get?_push_of_some _ e
  have in3 : ∀ b ∈ fp, b < s2.heap.objs.size ∧ b < s3.heap.objs.size := fun b hb => by
    obtain ⟨o, e, _⟩ := walk.obj _ _ at2 b hb
    exact ⟨Heap.lt_size e, Heap.lt_size (grow b o e)⟩
  have free3 : ∀ b ∈ fp, FpOk X pins H3 b ∧ b < s3.heap.objs.size := fun b hb => by
    refine ⟨⟨?_, (free2 b hb).2⟩, (in3 b hb).2⟩
    rw [← eH3, upd_ne (by rw [← hD]; exact Nat.ne_of_lt (in3 b hb).1)]
    exact (free2 b hb).1
  have at3 : tn 0 s3.heap := walk.keep _ _ _ at2 fun b _ o e => grow b o e
  have I4 := block_start I3 ok nd free3
  obtain ⟨cl, ecl⟩ : ∃ cl, cellsFrom (s3.heap.objs.size + 1) scope.names (cloFrom X.env.cells scope.names []) = cl := ⟨_, rfl⟩
  rw [ecl] at I4
  have pg := G s3 H3 s3.heap.objs.size cl fp
  have pt := T s3 H3 s3.heap.objs.size cl fp
  have pk := KE s3 H3 s3.heap.objs.size cl fp
  have pe := VE s3 H3 s3.heap.objs.size cl fp
  rw [eH3] at w0
  have none3 : ∀ b ∈ fp, H3 b = none := fun b hb => (free3 b hb).1.1
  show codeAny _ _ (.compStart (.DictComp kx vx [⟨tg, iter, ifs, 0⟩] scope pos) 0 (.ref it) (.ref s2.heap.objs.size) _) _ _
  rw [e3, hD, ecl]
  show codeAny _ _ (.compStart _ 0 (.ref it) (.ref D) (compEnvC scope cl s3.heap.objs.size X.env)) (compPost (model X.prog X.w) X.A X.xe none (EP X pins σ Q) (.ref D) s3.heap.objs.size)
    ({ s3 with heap := pushCells (s3.heap.push { cls := .type "dict", data := .dict #[] }) scope.names } : Shared)
  obtain ⟨ce, ece⟩ : ∃ ce, compEnvC scope cl s3.heap.objs.size X.env = ce := ⟨_, rfl⟩
  rw [ece] at I4 pg pt pk pe ⊢
  have place : ce.locals = s3.heap.objs.size := by rw [← ece]; rfl
  obtain ⟨s4, e4⟩ : ∃ s4 : Shared, ({ s3 with heap := pushCells (s3.heap.push { cls := .type "dict", data := .dict #[] }) scope.names } : Shared) = s4 := ⟨_, rfl⟩
  rw [e4] at I4 ⊢
  have at4 : tn 0 s4.heap := walk.keep _ _ _ at3 fun b _ o e => by rw [← e4]; exact pushCells_keeps _ _ _ _ (Heap.get?_push_of_some _ e)
  have stays : ∀ {σ' : L2.St} {H' : Hp} {s' : Shared}, Inv (X.blk s3 H3 scope ce fp) [] σ' H' s' → (∀ b ∈ fp, H' b = none) → ∀ b ∈ fp, FpOk (X.blk s3 H3 scope ce fp) [] H' b := fun {σ' H' s'} I' hn b hb =>
    ⟨hn b hb, (I'.ok.exf b hb).1, I'.ok.exfs b hb, .inl hb, fun x c e => (I'.ok.exf b hb).2 x c e, fun p hp => absurd (show p ∈ ([] : List (Addr × Obj)) ++ [] from hp) (by simp)⟩
  refine codeAny_compStart_dict ?loop (walk.self X.A 0 _ _ _ at4 ?loop)
  refine compLoop_anyD (fun n s' => ∃ i H', Inv (X.blk s3 H3 scope ce fp) [] (wipe σ (own.map (·.2))) H' s' ∧ tn i s'.heap ∧ (∀ b ∈ fp, H' b = none) ∧ W i n H') ?_ m0 ⟨0, H3, I4, at4, none3, w0⟩
  rintro n s5 ⟨i, H5, I5, at5, n5, w5⟩
  rcases turn i n H5 w5 with ⟨stop, qq⟩ | ⟨go, Nx, hNx, step⟩
  · refine thnF (walk.done (X.blk s3 H3 scope ce fp) rfl rfl rfl calm i [] s5 _ H5 (fun _ _ => False) I5 (stays I5 n5) at5 stop) fun r s6 ⟨hr, I6⟩ => ?_
    subst hr
    have I7 : Inv X pins σ H5 s6 := I3.call' (ch := fp) I6.os I6.base I6.hok I6.bare fun b hb => ⟨(free3 b hb).1.2.2.2.1, (free3 b hb).1.2.1, (free3 b hb).1.2.2.2.2.1, (free3 b hb).1.2.2.2.2.2⟩
    have none5 : H5 s3.heap.objs.size = none := place ▸ (show H5 ce.locals = none from I6.free)
    obtain ⟨m, hn, _⟩ := I6.loc
    have hn : s6.heap.Ns ce.locals m := hn
    rw [place] at hn
    obtain ⟨f0, f1, f2, f3, f4, f5⟩ := I3.fpOk (Nat.le_refl _) none5
    exact ⟨m, hn, fun h'' sb => ⟨.ref D, H5, I7.turned (t' := s6.toks) (fun b o hb e => (sb.2 b hb).trans e) f0 f1 f3 f4 f5, rfl, qq⟩⟩
  · refine thnF (walk.item (X.blk s3 H3 scope ce fp) rfl rfl rfl calm i [] s5 _ H5 (fun _ _ => False) I5 (stays I5 n5) at5 go) fun r s6 ⟨u, hr, h6⟩ => ?_
    subst hr
    refine thnF h6 fun _ s7 ⟨x, H7, I7, r7, y7, at7, n7⟩ => ?_
    refine thnF (pg.run _ s7 _ H7 x u _ (I7.pinned (stays I7 n7) (walk.obj _ _ at7)) r7 (step x H7 y7)) fun _ s8 ⟨σ8, H8, I8, same8, q8⟩ => ?_
    refine thnF (pt.run _ s8 σ8 H8 _ I8 q8) fun b s9 ⟨H9, I9, q9⟩ => ?_
    have next : ∀ {s' : Shared} {H' : Hp}, Inv (X.blk s3 H3 scope ce fp) ([] ++ pinsAt fp s7.heap) σ8 H' s' → Nx H' →
        ∃ m, m < n ∧ ∃ i H', Inv (X.blk s3 H3 scope ce fp) [] (wipe σ (own.map (·.2))) H' s' ∧ tn i s'.heap ∧ (∀ b ∈ fp, H' b = none) ∧ W i m H' := fun {s' H'} I' nx => by
      obtain ⟨m', less, w'⟩ := hNx H' nx
      have pinned : ∀ b ∈ fp, ∀ o, s7.heap.get? b = some o → s'.heap.get? b = some o ∧ H' b = none := fun b hb o e =>
        have z := I'.pin (b, o) (List.mem_append_right _ (List.mem_append_right _ (mem_pinsAt hb e)))
        ⟨z.1, z.2.1⟩
      refine ⟨m', less, i + 1, H', (I'.unpinned (pins := [])).weak (by rw [← same8, wipe_length]) (fun j v e => ?_), walk.keep _ _ _ at7 fun b hb o e => (pinned b hb o e).1, fun b hb => ?_, w'⟩
      · rw [← same8] at e
        exact (wipe_some e).1
      · obtain ⟨o, e, _⟩ := walk.obj _ _ at7 b hb
        exact (pinned b hb o e).2
    cases b with
    | false =>
      simp only [Bool.false_eq_true, if_false] at q9 ⊢
      exact next I9 q9
    | true =>
      simp only [if_true] at q9 ⊢
      refine thnF (pk.run _ s9 σ8 H9 _ I9 q9) fun kv s10 ⟨yk, H10, I10, r10, q10⟩ => ?_
      refine thnF (pe.run _ s10 σ8 H10 _ I10 q10) fun vv s11 ⟨yv, H11, I11, r11, es, k, a, ek, kat, atD, kats, len, nx⟩ => ?_
      subst ek
      obtain rfl : kv = Value.ref a := r10
      exact nd_store (X := X.blk s3 H3 scope ce fp) room I11 kat atD kats len r11 fun s12 I12 => next I12 nx
/-- list(d) -/
theorem call_listN (calm : X.calm = true) : CallR X (.type "list") (fun xs H Q => ∃ d es, xs = [V.ref d] ∧ H d = some (NDict X.prog X.w d es) ∧ KeysAt H es ∧ ∀ p, H p = none → Q (.ref p) (upd H p (.lst (es.map fun e => .ref e.2.1)))) := by
  intro pins s σ H xs us Q I r h
  obtain ⟨d, es, rfl, hd, ks, q⟩ := h
  obtain ⟨u, rfl, ru⟩ := vals1 r
  obtain rfl : u = Value.ref d := ru
  obtain ⟨z1, z2, xs, t, hx⟩ := nd_get I.hok hd ks
  obtain ⟨eds, ep, hr, hs, he⟩ := hx.raw
  have lx : xs.length = es.length := (paired_len t).symm
  refine PySem.W.kdl_call (KdlSrc.rawDict z2) (I.ok.hd calm) hr (by rw [hs, lx]; exact z1) fun h' tk acc c keep hl items => ?_
  have ea : acc.toList = (es.map fun e => e.2.1).map Value.ref := by
    have l1 : acc.toList.length = es.length := by rw [Array.length_toList, items.1, hs, lx]
    apply List.ext_getElem?
    intro j
    rw [List.getElem?_map, List.getElem?_map]
    cases hj : acc.toList[j]? with
    | none =>
      rw [List.getElem?_eq_none (by have := List.getElem?_eq_none_iff.mp hj; omega)]; rfl
    | some v =>
      obtain ⟨hi, hv⟩ := items.2 j v (by rw [← Array.getElem?_toList]; exact hj)
      obtain ⟨y, hy, hk, _⟩ := he j hi
      have hj2 : j < es.length := by rw [← lx, ← hs]; exact hi
      rw [List.getElem?_eq_getElem hj2, hv, hk]
      obtain ⟨q, hq, rq⟩ := paired_get t (List.getElem?_eq_getElem hj2)
      rw [hy] at hq; cases hq
      show some (Value.ref y.2.1) = some (Value.ref es[j].2.1)
      rw [rq.2.1]
  have rv : Vals ((es.map fun e => e.2.1).map V.ref) acc.toList := by rw [ea]; exact vals_refs _
  have rv2 : Vals (es.map fun e => V.ref e.2.1) acc.toList := by rw [List.map_map] at rv; exact rv
  refine ⟨.ref s.heap.objs.size, _, I.laid (t' := tk) (o := .lst (es.map fun e => V.ref e.2.1)) keep (Nat.le_refl _) ⟨by rw [List.length_map]; exact z1, acc.toList, c, rv2, by rw [Array.toArray_toList]; exact hl⟩, rfl, q _ (I.hok.fresh (Nat.le_refl _))⟩
variable {i o : Expr} {ty td : TE}
/-- k in d, k not in d -/
def tInN (P : Program) (w : World) (b : Bool) (ty td : TE) : TE := fun σ H Q => ty σ H fun y H1 => td σ H1 fun x H2 => ∃ a d k es, y = .ref a ∧ x = .ref d ∧ KeyAt H2 k a ∧ H2 d = some (NDict P w d es) ∧ KeysAt H2 es ∧ Q (.bl (if b = true then (ndVal es k).isSome else !(ndVal es k).isSome)) H2
theorem nd_some {es : List NEnt} {xs : List (NestedKey × Addr × Value)} (t : Paired NRel es xs) (k : NestedKey) : (atKey xs k).isSome = (ndVal es k).isSome := by
  rcases nd_at t k with ⟨h1, h2⟩ | ⟨v, p, h1, h2, _⟩
  · rw [h1, h2]; rfl
  · rw [h1, h2]; rfl
theorem pc_inN (room : X.A.in1.units + 8 < cLine) (hi : PE X i ty) (ho : PE X o td) : PC X .In i o (tInN X.prog X.w true ty td) := by
  refine ⟨fun pins s σ H Q I h => ?_⟩
  refine thn (hi.run pins s σ H _ I h) fun iv s1 ⟨y, H1, I1, ry, q1⟩ => thn (ho.run pins s1 σ H1 _ I1 q1) fun u s2 ⟨x, H2, I2, rx, a, d, k, es, ey, ex, ka, hd, ks, q2⟩ => ?_
  subst ey ex
  obtain rfl : iv = Value.ref a := ry
  obtain rfl : u = Value.ref d := rx
  obtain ⟨z1, z2, xs, t, hx⟩ := nd_get I2.hok hd ks
  refine wpAny_in_heap (knd := nestedKind X.prog X.w) room (ka.is I2.hok) z2 hx ⟨.bl _, H2, I2.tok _, rfl, ?_⟩
  rw [nd_some t]; exact q2
theorem pc_notInN (room : X.A.in1.units + 8 < cLine) (hi : PE X i ty) (ho : PE X o td) : PC X .NotIn i o (tInN X.prog X.w false ty td) := by
  refine ⟨fun pins s σ H Q I h => ?_⟩
  refine thn (hi.run pins s σ H _ I h) fun iv s1 ⟨y, H1, I1, ry, q1⟩ => thn (ho.run pins s1 σ H1 _ I1 q1) fun u s2 ⟨x, H2, I2, rx, a, d, k, es, ey, ex, ka, hd, ks, q2⟩ => ?_
  subst ey ex
  obtain rfl : iv = Value.ref a := ry
  obtain rfl : u = Value.ref d := rx
  obtain ⟨z1, z2, xs, t, hx⟩ := nd_get I2.hok hd ks
  show wpAny _ _ (do return Value.bool (!(← contains (.ref d) (.ref a)))) _ _ _
  refine wpAny_bind (wpAny_contains_heap (knd := nestedKind X.prog X.w) room (ka.is I2.hok) z2 hx (wpAny_pure ⟨.bl _, H2, I2.tok _, rfl, ?_⟩))
  rw [nd_some t]; exact q2
end
end As

/-! ## A11 -/
namespace As
open PySem PySem.Spec PyProof.Rows L2
theorem Imm.refl (H : Hp) : Imm H H := fun _ _ h => h
theorem imm_lst' {H : Hp} {D : Addr} {xs : List V} {o : HO} (h : H D = some (.lst xs)) : Imm H (upd H D o) := fun b ys e => by
  rw [upd_ne (fun z => by subst z; rw [h] at e; cases e)]; exact e
/-- a comprehension whose items are new objects: P tells what is made so far, and stands while tuples stand -/
theorem lc_new {J : It} {n : Nat} {G : Hp → Prop} {xs : Nat → V} {g : TG} {tt : TT} {te : TE} {vs : List Nat} {σ : L2.St} {H1 : Hp} {D : Addr} {Qd : Hp → Prop}
    (w : Walk J n G (YFn xs)) (hD : H1 D = none) (hG : ∀ H, Same H1 H → G H) (hl : n < sizeLine) (P : Nat → List V → Hp → Prop) (h0 : P 0 [] H1) (hP : ∀ i acc H H', Imm H H' → P i acc H → P i acc H')
    (hs : ∀ i H acc (Q1 : VK) (Q2 : Hp → Prop), i < n → Same H1 H → P i acc H → (∀ y H4, Same H H4 → P (i + 1) (acc ++ [y]) H4 → Q1 y H4) → (∀ H3, Same H H3 → P (i + 1) acc H3 → Q2 H3) →
      g (xs i) (wipe σ vs) H fun σ2 H2 => wipe σ2 vs = wipe σ vs ∧ tt σ2 H2 fun b H3 => if b = true then te σ2 H3 Q1 else Q2 H3)
    (hd : ∀ H' acc, Same H1 H' → H' D = some (.lst acc) → P n acc H' → Qd H') :
    ∃ W : Nat → Nat → Hp → Prop, (∃ m, W 0 m (upd H1 D (.lst []))) ∧ ∀ i m H, W i m H →
      (J.stop i H ∧ Qd H) ∨ (J.go i H ∧ ∃ Nx : Hp → Prop, (∀ H', Nx H' → ∃ m', m' < m ∧ W (i + 1) m' H') ∧ ∀ x H', J.yld i H x H' → g x (wipe σ vs) H' fun σ2 H2 => wipe σ2 vs = wipe σ vs ∧ tt σ2 H2 fun b H3 =>
        if b = true then te σ2 H3 fun y H4 => ∃ acc, H4 D = some (.lst acc) ∧ acc.length < sizeLine ∧ Nx (upd H4 D (.lst (acc ++ [y]))) else Nx H3) := by
  refine lc_it w (fun i H => ∃ acc, Same H1 H ∧ H D = some (.lst acc) ∧ acc.length ≤ i ∧ P i acc H) ⟨[], same_new hD, upd_same, Nat.le_refl _, hP _ _ _ _ (same_imm (same_new hD)) h0⟩
    (fun i H _ ⟨acc, s, _⟩ => hG H s) (fun i x H H' hi p y => ?_) (fun H ⟨acc, s, hd', _, p⟩ => hd H acc s hd' p)
  obtain ⟨rfl, rfl⟩ := y
  obtain ⟨acc, s, hd', hlen, p⟩ := p
  refine hs i H' acc _ _ hi s p (fun y H4 s4 p4 => ?_) (fun H3 s3 p3 => ⟨acc, s.trans s3, s3 _ _ hd', Nat.le_succ_of_le hlen, p3⟩)
  have h4 := s4 _ _ hd'
  refine ⟨acc, h4, by omega, acc ++ [y], same_mut (s.trans s4) hD, upd_same, ?_, hP _ _ _ _ (imm_lst' h4) p4⟩
  rw [List.length_append]; simp; omega
end As

/-! ## A17 -/
namespace As
open PySem PySem.Spec PyProof.Rows L2
/-- a walk's turns by one invariant, whatever a turn's body is -/
theorem lc_gen {J : It} {n : Nat} {G : Hp → Prop} {Y : Nat → Hp → V → Hp → Prop} {BODY : V → Hp → (Hp → Prop) → Prop} {Qd : Hp → Prop} {H0 : Hp} (w : Walk J n G Y) (Pv : Nat → Hp → Prop) (h0 : Pv 0 H0) (hG : ∀ i H, i ≤ n → Pv i H → G H)
    (hs : ∀ i x H H', i < n → Pv i H → Y i H x H' → BODY x H' (Pv (i + 1))) (hd : ∀ H, Pv n H → Qd H) :
    ∃ W : Nat → Nat → Hp → Prop, (∃ m, W 0 m H0) ∧ ∀ i m H, W i m H →
      (J.stop i H ∧ Qd H) ∨ (J.go i H ∧ ∃ Nx : Hp → Prop, (∀ H', Nx H' → ∃ m', m' < m ∧ W (i + 1) m' H') ∧ ∀ x H', J.yld i H x H' → BODY x H' Nx) := by
  refine ⟨fun i m H => m = n - i ∧ i ≤ n ∧ Pv i H, ⟨n, by simp, Nat.zero_le _, h0⟩, ?_⟩
  rintro i m H ⟨rfl, hi, p⟩
  have q := hG i H hi p
  by_cases hlt : i < n
  · refine .inr ⟨w.goes i H hlt q, Pv (i + 1), fun H' p' => ⟨n - (i + 1), by omega, rfl, hlt, p'⟩, fun x H' y => hs i x H H' hlt p (w.yields i H x H' hlt q y)⟩
  · have e : i = n := by omega
    subst e
    exact .inl ⟨w.stops H q, hd H p⟩
/-- the second clause of a comprehension -/
def LcIn (g1 : TG) (tt1 : TT) (te : TE) (σ2 : L2.St) (vs1 : List Nat) (D : Addr) (Nx : Hp → Prop) : It → Hp → Prop := fun J1 H4 => ∃ W1 : Nat → Nat → Hp → Prop, (∃ m, W1 0 m H4) ∧ ∀ j k H, W1 j k H →
  (J1.stop j H ∧ Nx H) ∨ (J1.go j H ∧ ∃ Nx1 : Hp → Prop, (∀ H', Nx1 H' → ∃ k', k' < k ∧ W1 (j + 1) k' H') ∧ ∀ x H', J1.yld j H x H' → g1 x (wipe σ2 vs1) H' fun σ3 H5 => wipe σ3 vs1 = wipe σ2 vs1 ∧ tt1 σ3 H5 fun b H6 =>
    if b = true then te σ3 H6 fun y H7 => ∃ acc, H7 D = some (.lst acc) ∧ acc.length < sizeLine ∧ Nx1 (upd H7 D (.lst (acc ++ [y]))) else Nx1 H6)
theorem lc_in {J1 : It} {m : Nat} {G1 : Hp → Prop} {Y1 : Nat → Hp → V → Hp → Prop} {g1 : TG} {tt1 : TT} {te : TE} {σ2 : L2.St} {vs1 : List Nat} {D : Addr} {Nx : Hp → Prop} {H4 : Hp} {acc0 : List V} (w : Walk J1 m G1 Y1) (hD : H4 D = some (.lst acc0)) (hG : ∀ H, Same (rem H4 D) H → G1 H)
    (P1 : Nat → List V → Hp → Prop) (h0 : P1 0 acc0 H4) (hP : ∀ j acc H H', Imm H H' → P1 j acc H → P1 j acc H') (hlen : ∀ j acc H, j < m → P1 j acc H → acc.length < sizeLine)
    (hs : ∀ j x H H' acc (Q1 : VK) (Q2 : Hp → Prop), j < m → Same (rem H4 D) H → H D = some (.lst acc) → P1 j acc H → Y1 j H x H' → (∀ y H6, Same H H6 → P1 (j + 1) (acc ++ [y]) H6 → Q1 y H6) → (∀ H6, Same H H6 → P1 (j + 1) acc H6 → Q2 H6) →
      g1 x (wipe σ2 vs1) H' fun σ3 H5 => wipe σ3 vs1 = wipe σ2 vs1 ∧ tt1 σ3 H5 fun b H6 => if b = true then te σ3 H6 Q1 else Q2 H6)
    (hd : ∀ H acc, Same (rem H4 D) H → H D = some (.lst acc) → P1 m acc H → Nx H) : LcIn g1 tt1 te σ2 vs1 D Nx J1 H4 := by
  refine lc_gen w (fun j H => ∃ acc, Same (rem H4 D) H ∧ H D = some (.lst acc) ∧ P1 j acc H) ⟨acc0, same_rem, hD, h0⟩ (fun j H _ ⟨acc, s, _⟩ => hG H s) (fun j x H H' hj ⟨acc, s, hd', p⟩ y => ?_) (fun H ⟨acc, s, hd', p⟩ => hd H acc s hd' p)
  refine hs j x H H' acc _ _ hj s hd' p y (fun y H6 s6 p6 => ?_) (fun H6 s6 p6 => ⟨acc, s.trans s6, s6 _ _ hd', p6⟩)
  have h6 := s6 _ _ hd'
  exact ⟨acc, h6, hlen j acc H hj p, acc ++ [y], same_mut (s.trans s6) rem_self, upd_same, hP _ _ _ _ (imm_lst' h6) p6⟩
theorem lc2_out {J : It} {n : Nat} {G : Hp → Prop} {Y : Nat → Hp → V → Hp → Prop} {g : TG} {tt : TT} {wi1 : TI} {g1 : TG} {tt1 : TT} {te : TE} {vs vs1 : List Nat} {σ : L2.St} {H1 : Hp} {D : Addr} {Qd : Hp → Prop} (w : Walk J n G Y) (hD : H1 D = none) (hG : ∀ H, Same H1 H → G H)
    (P : Nat → List V → Hp → Prop) (h0 : P 0 [] H1) (hP : ∀ i acc H H', Imm H H' → P i acc H → P i acc H')
    (hs : ∀ i x H H' acc (Nx : Hp → Prop), i < n → Same H1 H → H D = some (.lst acc) → P i acc H → Y i H x H' → (∀ H3 acc3, Same H1 H3 → H3 D = some (.lst acc3) → P (i + 1) acc3 H3 → Nx H3) →
      g x (wipe σ vs) H' fun σ2 H2 => wipe σ2 vs = wipe σ vs ∧ tt σ2 H2 fun b H3 => if b = true then wi1 σ2 H3 (LcIn g1 tt1 te σ2 vs1 D Nx) else Nx H3)
    (hd : ∀ H acc, Same H1 H → H D = some (.lst acc) → P n acc H → Qd H) :
    ∃ W : Nat → Nat → Hp → Prop, (∃ m, W 0 m (upd H1 D (.lst []))) ∧ ∀ i m H, W i m H →
      (J.stop i H ∧ Qd H) ∨ (J.go i H ∧ ∃ Nx : Hp → Prop, (∀ H', Nx H' → ∃ m', m' < m ∧ W (i + 1) m' H') ∧ ∀ x H', J.yld i H x H' → g x (wipe σ vs) H' fun σ2 H2 => wipe σ2 vs = wipe σ vs ∧ tt σ2 H2 fun b H3 =>
        if b = true then wi1 σ2 H3 (LcIn g1 tt1 te σ2 vs1 D Nx) else Nx H3) := by
  refine lc_gen (BODY := fun x H' Nx => g x (wipe σ vs) H' fun σ2 H2 => wipe σ2 vs = wipe σ vs ∧ tt σ2 H2 fun b H3 => if b = true then wi1 σ2 H3 (LcIn g1 tt1 te σ2 vs1 D Nx) else Nx H3) w
    (fun i H => ∃ acc, Same H1 H ∧ H D = some (.lst acc) ∧ P i acc H) ⟨[], same_new hD, upd_same, hP _ _ _ _ (same_imm (same_new hD)) h0⟩ (fun i H _ ⟨acc, s, _⟩ => hG H s) (fun i x H H' hi ⟨acc, s, hd', p⟩ y => ?_) (fun H ⟨acc, s, hd', p⟩ => hd H acc s hd' p)
  exact hs i x H H' acc _ hi s hd' p y fun H3 acc3 s3 h3 p3 => ⟨acc3, s3, h3, p3⟩
end As

/-! ## A18 -/
namespace As
open PySem PySem.Spec PyProof.Rows L2
theorem getD_map' {α : Type} {f : α → V} {xs : List α} {i : Nat} {x : α} (h : xs[i]? = some x) : (xs.map f).getD i .non = f x := by
  rw [List.getD_eq_getElem?_getD, List.getElem?_map, h]; rfl
theorem take_filter' {α : Type} {p : α → Bool} {xs : List α} {i : Nat} {x : α} (h : xs[i]? = some x) : (xs.take (i + 1)).filter p = (xs.take i).filter p ++ (if p x = true then [x] else []) := by
  rw [List.take_succ, h, List.filter_append]
  show _ ++ List.filter p [x] = _
  cases e : p x <;> simp [e]
/-- [x for x in xs if p x], what stands stands -/
theorem lc_filter {J : It} {G : Hp → Prop} {α : Type} {v : α → V} {xs : List α} {g : TG} {tt : TT} {te : TE} {vs : List Nat} {σ : L2.St} {H1 : Hp} {D : Addr} {Qd : Hp → Prop} (p : α → Bool)
    (w : Walk J (xs.map v).length G (YAt (xs.map v))) (hD : H1 D = none) (hG : ∀ H, Same H1 H → G H) (hl : xs.length ≤ 10000)
    (hs : ∀ x H (Q1 : VK) (Q2 : Hp → Prop), x ∈ xs → Same H1 H → (p x = true → ∀ H', Same H H' → Q1 (v x) H') → (p x = false → ∀ H', Same H H' → Q2 H') →
      g (v x) (wipe σ vs) H fun σ2 H2 => wipe σ2 vs = wipe σ vs ∧ tt σ2 H2 fun b H3 => if b = true then te σ2 H3 Q1 else Q2 H3)
    (hd : ∀ H', Same H1 H' → H' D = some (.lst ((xs.filter p).map v)) → Qd H') :
    ∃ W : Nat → Nat → Hp → Prop, (∃ m, W 0 m (upd H1 D (.lst []))) ∧ ∀ i m H, W i m H →
      (J.stop i H ∧ Qd H) ∨ (J.go i H ∧ ∃ Nx : Hp → Prop, (∀ H', Nx H' → ∃ m', m' < m ∧ W (i + 1) m' H') ∧ ∀ x H', J.yld i H x H' → g x (wipe σ vs) H' fun σ2 H2 => wipe σ2 vs = wipe σ vs ∧ tt σ2 H2 fun b H3 =>
        if b = true then te σ2 H3 fun y H4 => ∃ acc, H4 D = some (.lst acc) ∧ acc.length < sizeLine ∧ Nx (upd H4 D (.lst (acc ++ [y]))) else Nx H3) := by
  refine lc_it w (fun i H => Same H1 H ∧ H D = some (.lst (((xs.take i).filter p).map v))) ⟨same_new hD, upd_same⟩ (fun i H _ z => hG H z.1) (fun i x H H' hi z y => ?_) (fun H z => hd H z.1 (by rw [z.2, List.length_map, List.take_length]))
  obtain ⟨rfl, hx⟩ := y
  rw [List.getElem?_map] at hx
  obtain ⟨a, ha, rfl⟩ := Option.map_eq_some_iff.mp hx
  obtain ⟨s, hd'⟩ := z
  refine hs a H' _ _ (List.mem_of_getElem? ha) s (fun e H4 s4 => ⟨_, s4 _ _ hd', ?_, same_mut (s.trans s4) hD, ?_⟩) (fun e H4 s4 => ⟨s.trans s4, ?_⟩)
  · rw [List.length_map]
    have h1 := List.length_filter_le p (xs.take i)
    have h2 := List.length_take_le' i xs
    exact Nat.lt_of_le_of_lt (show ((xs.take i).filter p).length ≤ 10000 by omega) (by decide)
  · rw [upd_same, take_filter' ha, e, if_pos rfl, List.map_append]; rfl
  · rw [s4 _ _ hd', take_filter' ha, e]; simp
section
variable {X : Cx} (K : PySem.W.Frag)
theorem eqDK (hu : X.A.units + 64 < cLine) (h : X.K = K := by rfl) : OpR X (compareOp .Eq) (rEqD K) := h ▸ op_eqD hu
theorem neDK (hu : X.A.units + 64 < cLine) (h : X.K = K := by rfl) : OpR X (compareOp .NotEq) (rNeD K) := h ▸ op_neD hu
theorem inDK (hu : X.A.units + 65 < cLine) (h : X.K = K := by rfl) : OpR X (compareOp .In) (rInD K) := h ▸ op_inD hu
theorem slTK (h : X.K = K := by rfl) : SlR X (rSlT K) := h ▸ sl_tup
end
end As

/-! ## A5 -/
set_option maxHeartbeats 2000000
namespace As
open PySem PySem.Spec PyProof.Rows L2
section
variable {X : Cx} {CX : CXT} {C f n : Nat} {fd : FuncData} {ps : List Str} {sp : Sp}
/-- a promise kept at a call from within a built-in -/
theorem call_in {A : Around} {pins : List (Addr × Obj)} {σ : L2.St} {H : Hp} {s : Shared} {Q : VK} {E : XK} {us : List Value} {vs : List V} (F : FnOk X.prog X.w X.K X.mg X.base CX n f fd ps sp) (sb : L2.Sub X n A) (hb : Binds X.K fd ps []) (hx : Passes CX X E)
    (I : Inv X pins σ H s) (r : Vals vs us) (h : sp vs H Q E) : wpAny (model X.prog X.w) A (call (.ref f) us) (EP X pins σ Q) X.xe s := by
  have len : us.length = ps.length := by rw [← r.length]; exact F.len _ _ _ _ h
  have e0 : Env0 X.prog X.w X.K X.mg X.base A X.stack s H := by
    obtain ⟨x1, x2, x3, x4, x5, x6, x7, x8⟩ := I.env0
    exact ⟨by rw [sb.fr]; exact x1, x2, x3, x4, x5, x6, x7, x8⟩
  have bt := hb s us I.kIn (by simpa using len)
  rw [List.append_nil] at bt
  refine wpAny_call (codeAny_mono (F.run A X.stack s H ⟨us, []⟩ us vs Q E sb.room e0 bt r h) fun r s' hq => ?_)
  rcases r with e | fl
  · exact hx pins σ H s e s' I hq
  · cases fl with
    | ret u => exact I.after hq
    | next => exact False.elim hq
    | brk => exact False.elim hq
    | cont => exact False.elim hq
end
/-- the class at C compares by its own == at f, and leaves != to object -/
structure EqC (K : PySem.W.Frag) (C f : Addr) : Prop where
  eq : PySem.W.findIn K (.ref C) "__eq__" = some (some (.ref f))
  fn : PySem.W.isFn K (.ref f) = true
  ne : PySem.W.findIn K (.ref C) "__ne__" = some (some (.builtin "object.__ne__"))
  top : PySem.W.mroIn K C (.type "object") = some true
  lst : PySem.W.notFirst K C (.type "list") = true
/-- an own instance against another of the class, or against a list -/
def rOwn (C : Addr) (sp : Sp) (g : Bool → Bool) : R2 := fun x y H Q => ∃ (a b dx : Addr) (fs : List (Str × V)), x = .ref a ∧ y = .ref b ∧ H a = some (.ins C dx fs) ∧ ((∃ dy gs, H b = some (.ins C dy gs)) ∨ ∃ zs, H b = some (.lst zs)) ∧
  sp [.ref a, .ref b] H (fun v H' => ∃ r, v = .bl r ∧ Q (.bl (g r)) H') E0
section
variable {X : Cx} {C f n : Nat} {fd : FuncData} {ps : List Str} {sp : Sp}
theorem looks_kind {M : Model} {pins : List (Addr × Obj)} {σ : L2.St} {H : Hp} {s : Shared} {b : Addr} (q : EqC X.K C f) (I : Inv X pins σ H s) (h : (∃ dy gs, H b = some (.ins C dy gs)) ∨ ∃ zs, H b = some (.lst zs)) :
    ∃ tb, PySem.W.Looks M s.heap (typeOf (.ref b)) tb ∧ PySem.W.notFirst X.K C tb = true := by
  rcases h with ⟨dy, gs, hb⟩ | ⟨zs, hb⟩
  · obtain ⟨mB, J, _⟩ := ins_get I.hok hb
    obtain ⟨od, J, _⟩ := J.look
    exact ⟨.ref C, J.type, by simp [PySem.W.notFirst]⟩
  · obtain ⟨_, _, k, _, e⟩ := I.hok b _ hb
    exact ⟨.type "list", (PySem.W.Looks.ld e).andThen .now, q.lst⟩
theorem op_eqOwn (F : FnOk X.prog X.w X.K X.mg X.base CX0 n f fd ps sp) (hr : Room n X.A) (hb : Binds X.K fd ps []) (q : EqC X.K C f) : OpR X (compareOp .Eq) (rOwn C sp id) := by
  intro pins s σ H x y v u Q I rx ry h
  obtain ⟨a, b, dx, fs, rfl, rfl, ha, hk, hs⟩ := h
  cases rx
  cases ry
  obtain ⟨mA, J, _⟩ := ins_get I.hok ha
  obtain ⟨od, J, _⟩ := J.look
  obtain ⟨tb, lk, nf⟩ := looks_kind q I hk
  obtain ⟨m, hF⟩ := I.fr
  have r2 : Vals [V.ref a, V.ref b] [Value.ref a, Value.ref b] := .cons rfl (.cons rfl .nil)
  refine PySem.W.cmp_K (op := .Eq) (Nat.lt_of_le_of_lt (Nat.le_add_right _ _) (hu_of hr)) hF I.ok.mod.kin J lk nf q.eq q.fn (thn (call_in F ⟨hr, rfl⟩ hb pass0 I r2 hs) fun w s' z => ?_)
  obtain ⟨v, H', I', rv, r, rfl, qr⟩ := z
  cases rv
  exact ⟨.bl r, H', I', rfl, qr⟩
theorem ne_bind (self : Value) : bindSpecial (.builtin "object.__ne__") self = pure (.builtin "object.__ne__", [self]) := PySem.F.cmp_object.ne.bind self
theorem op_neOwn (F : FnOk X.prog X.w X.K X.mg X.base CX0 n f fd ps sp) (hr : Room (n + 1) X.A) (hb : Binds X.K fd ps []) (q : EqC X.K C f) : OpR X (compareOp .NotEq) (rOwn C sp not) := by
  intro pins s σ H x y v u Q I rx ry h
  obtain ⟨a, b, dx, fs, rfl, rfl, ha, hk, hs⟩ := h
  cases rx
  cases ry
  obtain ⟨mA, J, _⟩ := ins_get I.hok ha
  obtain ⟨od, J, _⟩ := J.look
  obtain ⟨tb, lk, nf⟩ := looks_kind (M := model X.prog X.w) q I hk
  have hu : X.A.units + 1 < cLine := hu_of hr
  have hu0 : X.A.units < cLine := Nat.lt_of_succ_lt hu
  have KI := I.kIn
  have r2 : Vals [V.ref a, V.ref b] [Value.ref a, Value.ref b] := .cons rfl (.cons rfl .nil)
  -- the built-in's call
  have run : wpAny (model X.prog X.w) X.A (call (.builtin "object.__ne__") [.ref a, .ref b]) (fun v s' => ∃ r : Bool, v = .bool r ∧ EP X pins σ Q (.bool r) s') X.xe s := by
    have sub : PySem.W.Looks (model X.prog X.w) s.heap (isInstance (.ref a) (.type "object")) true := J.type.andThen (PySem.W.looks_mroIn KI q.top)
    refine wpAny_call (codeAny_call_builtin PySem.F.cmp_object.ne.plain PySem.F.cmpEntry_ne (PySem.W.check_slot PySem.F.cmpKind_ne PySem.F.cmpSplit_ne sub (PySem.F.cmpArgs_ne _ _) ?_))
    have inner : wpAny (model X.prog X.w) X.A.in1 (callSpecialIfBound? (.ref a) "__eq__" [.ref b]) (fun o s' => ∃ r : Bool, o = some (.bool r) ∧ EP X pins σ Q (.bool (!r)) s') X.xe s :=
      PySem.W.ifBound_K KI J q.eq q.fn (thn (call_in F ⟨hr.in1, rfl⟩ hb pass0 I r2 hs) fun w s' z => by
        obtain ⟨v, H', I', rv, r, rfl, qr⟩ := z
        cases rv
        exact ⟨r, rfl, .bl (!r), H', I', rfl, qr⟩)
    unfold Builtin.«object.__ne__»
    repeat (first | with_reducible refine wpAny_cRoomFor hu ?_ | (refine wpAny_bind (wpAny_mono inner (fun o s' z => ?_) fun _ _ e => e)) | wp_step)
    obtain ⟨r, rfl, ep⟩ := z
    refine wpAny_bind (wpAny_truthy_bool (wpAny_pure ?_))
    exact ⟨!r, rfl, ep⟩
  have one : wpAny (model X.prog X.w) X.A (tryCompare (.ref a) "__ne__" (.ref b)) (fun r s' => ∃ b, r = some (.bool b) ∧ EP X pins σ Q (.bool b) s') X.xe s := by
    simp only [tryCompare, callSpecialIfBound?, bindSpecialIfBound?]
    refine wpAny_bind (wpAny_holding (wpAny_bind (wpAny_bind (wpAny_bind (J.type.here ((PySem.W.looks_findIn KI q.ne).here ?_))))))
    refine wpAny_bind (wpAny_askSetting (wpAny_ite ?_))
    have fin : wpAny (model X.prog X.w) X.A (call (.builtin "object.__ne__") ([.ref a] ++ [.ref b]) >>= fun v => pure (some v)) (fun o s' => ∃ r : Bool, o = some (.bool r) ∧ EP X pins σ Q (.bool r) s') X.xe s :=
      wpAny_bind (wpAny_mono run (fun v s' z => wpAny_pure (by obtain ⟨r, rfl, ep⟩ := z; exact ⟨r, rfl, ep⟩)) fun _ _ e => e)
    have fin2 : wpAny (model X.prog X.w) X.A (call (.builtin "object.__ne__") ([.ref a] ++ [.ref b]) >>= fun v => pure (some v))
        (fun o s' => wpAny (model X.prog X.w) X.A (match o with | some .notImplemented => pure none | none => pure none | some v => pure (some v)) (fun r s' => ∃ b, r = some (.bool b) ∧ EP X pins σ Q (.bool b) s') X.xe s') X.xe s :=
      wpAny_mono fin (fun o s' z => by obtain ⟨r, rfl, ep⟩ := z; exact wpAny_pure ⟨r, rfl, ep⟩) fun _ _ e => e
    split
    · refine wpAny_bind ?_
      rw [ne_bind]
      exact wpAny_pure (wpAny_pure fin2)
    · refine wpAny_tryCatch (wpAny_bind ?_)
      rw [ne_bind]
      exact wpAny_pure (wpAny_pure fin2)
  show wpAny _ _ (richCompare .NotEq (.ref a) (.ref b)) _ _ _
  unfold richCompare
  simp only [PySem.oneThing_ref, PySem.cmpInfo_NotEq]
  refine wpAny_holding (wpAny_bind (wpAny_cRoomFor hu0 ?_))
  refine wpAny_bind (J.type.here (wpAny_bind (lk.here ?_)))
  have tail : wpAny (model X.prog X.w) X.A (tryCompare (.ref a) "__ne__" (.ref b)) (fun r s' => ∃ v, r = some v ∧ EP X pins σ Q v s') X.xe s := wpAny_mono one (fun o s' z => by obtain ⟨r, rfl, ep⟩ := z; exact ⟨_, rfl, ep⟩) fun _ _ e => e
  split
  · rename_i ne
    have no : PySem.W.subIn X.K tb (.ref C) = some false := by
      unfold PySem.W.notFirst at nf
      rw [Bool.or_eq_true] at nf
      rcases nf with e | e
      · rw [eq_of_beq e] at ne
        simp at ne
      · exact eq_of_beq e
    refine wpAny_bind ((PySem.W.looks_subIn KI no).here ?_)
    rw [if_neg (by decide)]
    exact wpAny_bind (wpAny_mono tail (fun o s' z => by obtain ⟨v, rfl, ep⟩ := z; exact wpAny_pure ep) fun _ _ e => e)
  · refine wpAny_bind (wpAny_pure ?_)
    rw [if_neg (by decide)]
    exact wpAny_bind (wpAny_mono tail (fun o s' z => by obtain ⟨v, rfl, ep⟩ := z; exact wpAny_pure ep) fun _ _ e => e)
end
end As

/-! ## H02 -/
namespace As
open PySem PySem.Spec PyProof.Rows L2
def top (i : Nat) : Stmt := PySem.Challenge.pw_asksold_k11_whole_agreement_decides_stor.main.body.getD i (.Pass ⟨0, 0, 0, 0⟩)
-- class AskError at 2
-- class BadPlan at 3
-- class BadFact at 4
-- class BadLook at 5
-- class BadStore at 6
abbrev s_is_number : Stmt := top 11
abbrev s_is_below : Stmt := top 12
abbrev s_is_name : Stmt := top 13
abbrev s_is_list : Stmt := top 14
abbrev s_is_pair : Stmt := top 15
abbrev s_is_column : Stmt := top 16
abbrev s_is_table : Stmt := top 17
abbrev s_have_distinct_names : Stmt := top 18
abbrev s_are_columns : Stmt := top 19
abbrev s_are_tables : Stmt := top 20
abbrev s_init : Stmt := inClass (top 21) 2
abbrev s_columns : Stmt := inClass (top 21) 3
abbrev s_tables : Stmt := inClass (top 21) 4
abbrev s_eq : Stmt := inClass (top 21) 5
abbrev s_size_of : Stmt := inClass (top 21) 6
abbrev s_sides : Stmt := inClass (top 21) 7
abbrev s_columns_of : Stmt := inClass (top 21) 8
abbrev s_spans : Stmt := inClass (top 21) 9
abbrev s_table_names : Stmt := inClass (top 21) 10
abbrev s_is_fact : Stmt := top 22
abbrev s_is_look : Stmt := top 23
abbrev s_check_fact : Stmt := top 24
abbrev s_check_looks : Stmt := top 25
abbrev s_looks_that_see : Stmt := top 26
abbrev s_seers : Stmt := top 27
abbrev s_are_facts : Stmt := top 29
-- class Store at 30
abbrev s_agree : Stmt := top 31
abbrev s_state : Stmt := top 33
abbrev s_draw : Stmt := top 34
abbrev s_pick : Stmt := top 35
abbrev s_mixed : Stmt := top 36
abbrev s_names : Stmt := top 37
abbrev s_lcolumns : Stmt := top 38
abbrev s_ltables : Stmt := top 39
abbrev s_lfacts : Stmt := top 40
abbrev s_llooks : Stmt := top 41
abbrev s_lpresent : Stmt := top 42
abbrev s_lpair_right : Stmt := top 43
abbrev s_law : Stmt := top 44
end As

/-! ## B1 -/
namespace As
open PySem PySem.Spec PyProof.Rows L2
section
variable {P : Program} {w : World} {K : PySem.W.Frag} {mg : Str → Option Value} {base : Heap}

def spNumber (K : PySem.W.Frag) : Sp := fun vs H Q _ => ∃ x t b1 b2, vs = [x] ∧ TyX K H x t ∧ PySem.W.kitOne K t (.type "int") = some b1 ∧ PySem.W.kitOne K t (.type "bool") = some b2 ∧ Q (.bl (b1 && !b2)) H
theorem sc_number : FnScope ["thing"] ["thing"] (defScope s_is_number) := ⟨rfl, rfl, rfl, by decide +kernel, rfl, by decide +kernel, by decide +kernel⟩
theorem ok_number {f : Addr} {fd : FuncData} (D : Df K mg "is_number" s_is_number ["thing"] f fd) (T : Bi mg) : FnOk P w K mg base CX0 1 f fd ["thing"] (spNumber K) := by
  refine D.F.ok sc_number (fun vs H Q E h => ?_) (fun cdv A outer s H vs Q E hr h => ?_)
  · obtain ⟨x, t, b1, b2, rfl, _⟩ := h; rfl
  · obtain ⟨x, t, b1, b2, rfl, ty, k1, k2, q⟩ := h
    refine ⟨_, pss_one (ps_ret (pe_and (pe_callB call_isi (by rfl) T.isinst (by decide +kernel) (pa_cons (pv 0) (pa_cons (pe_bltn (v := .ty "int") (by rfl) T.int (by decide +kernel) rfl) pa_nil)))
      (pe_one (pe_not (pe_callB call_isi (by rfl) T.isinst (by decide +kernel) (pa_cons (pv 0) (pa_cons (pe_bltn (v := .ty "bool") (by rfl) T.bool (by decide +kernel) rfl) pa_nil))))))), ?_⟩
    refine ⟨_, rfl, x, .ty "int", t, _, b1, rfl, .ty "int", ty, k1, b1, rfl, ?_⟩
    cases b1 with
    | false => exact iteF q
    | true => exact iteT ⟨_, rfl, x, .ty "bool", t, _, b2, rfl, .ty "bool", ty, k2, b2, rfl, q⟩
end
end As

/-! ## B2 -/
namespace As
open PySem PySem.Spec PyProof.Rows L2
section
variable {P : Program} {w : World} {K : PySem.W.Frag} {mg : Str → Option Value} {base : Heap}

def spName (K : PySem.W.Frag) : Sp := fun vs H Q _ => ∃ z, vs = [.str z] ∧ z.length ≤ sizeLine ∧ ∀ H', Same H H' → Q (.bl (nameB z)) H'
theorem sc_name : FnScope ["thing", "letter"] ["thing"] (defScope s_is_name) := ⟨rfl, rfl, rfl, by decide +kernel, rfl, by decide +kernel, by decide +kernel⟩
theorem ok_name {f : Addr} {fd : FuncData} (D : Df K mg "is_name" s_is_name ["thing"] f fd) (T : Bi mg) {t8 : Tok} (m8 : mg "MOST_LETTERS" = some (.int 8 t8)) : FnOk P w K mg base CX0 1 f fd ["thing"] (spName K) := by
  refine D.F.ok sc_name (fun vs H Q E h => ?_) (fun cdv A outer s H vs Q E hr h => ?_)
  · obtain ⟨z, rfl, _⟩ := h; rfl
  · obtain ⟨z, rfl, hz, q⟩ := h
    refine ⟨_, pss_cons (ps_if (PW.pt (pw_or (pt_not (pt_val (pe_callB call_isi (by rfl) T.isinst (by decide +kernel) (pa_cons (pv 0) (pa_cons (pe_bltn (v := .ty "str") (by rfl) T.str (by decide +kernel) rfl) pa_nil)))))
        (pw_or1 (pt_not (pt_chain op_le op_le pe_int (pe_callB call_len_str (by rfl) T.len PySem.boot_len (pa_cons (pv 0) pa_nil)) (pe_glob (v := .int 8) rfl m8 ⟨_, rfl⟩)))))) (pss_one (ps_ret pe_bl)) pss_nil)
      (pss_one (ps_ret (pe_callB (cr_all rfl) (by rfl) T.all (by decide +kernel) (pa_cons (pe_lc (own := [("letter", 1)]) (g := gName 1) (tt := tYes) rfl sc_name.nd (pi_str (pv 0)) (blkOk_by (N := ["thing", "letter"]) (sc := defScope s_is_name) (by decide +kernel))
        (fun _ _ _ _ _ => pg_name (i := 1) sc_name.nd rfl (Or.inl rfl)) (fun _ _ _ _ _ => pts_nil) (fun _ _ _ _ _ => pe_chain op_le_str op_le_str pe_str (pv 1) pe_str)) pa_nil)))), ?_⟩
    refine ⟨_, rfl, _, _, _, _, true, rfl, .ty "str", .base (.str z), kstr_str, true, rfl, ?_⟩
    refine iteF ?_
    refine ⟨_, rfl, z, rfl, hz, 1, _, rfl, rfl, _, rfl, ?_⟩
    have sq := @Same.refl H
    by_cases h1 : (1 : Int) ≤ z.length
    · rw [decide_eq_true h1]
      refine iteT ⟨_, _, rfl, rfl, _, rfl, ?_⟩
      by_cases h8 : (z.length : Int) ≤ 8
      · rw [decide_eq_true h8]
        refine iteF ⟨_, rfl, z, rfl, fun D hD => lc_same (B := H) walk_sign signs_length.symm (Same.refl H) hD (fun _ _ => trivial) (by rw [signs_length]; exact Nat.lt_of_le_of_lt (show z.cps.size ≤ 8 by have := @str_len z; omega) (by decide))
          (fun x => match x with | .str y => some (V.bl (y.cps.toList.all letter)) | _ => none) (fun x H2 Q1 Q2 hx s2 k1 k2 => ?_) (fun H' s' hD' => ?_)⟩
        · obtain ⟨c, hc, rfl⟩ := List.mem_map.mp hx
          refine ⟨rfl, ?_⟩
          refine iteT (B := Q2 H2) ?_
          refine ⟨_, rfl, _, _, rfl, rfl, _, rfl, ?_⟩
          have e1 : (!decide ((⟨#[c]⟩ : Str).cps.toList < (Str.ofString "a").cps.toList)) = decide (97 ≤ c) := one_le
          have e2 : (!decide ((Str.ofString "z").cps.toList < (⟨#[c]⟩ : Str).cps.toList)) = decide (c ≤ 122) := one_le
          rw [e1]
          by_cases ha : 97 ≤ c
          · rw [decide_eq_true ha]
            refine iteT ⟨_, _, rfl, rfl, ?_⟩
            rw [e2]
            refine k1 _ _ ?_ (Same.refl _)
            show some (V.bl (letter c && true)) = _
            unfold letter
            rw [decide_eq_true ha]; simp
          · rw [decide_eq_false ha]
            refine iteF (k1 _ _ ?_ (Same.refl _))
            show some (V.bl (letter c && true)) = _
            unfold letter
            rw [decide_eq_false ha]; simp
        · refine ⟨D, z.cps.toList.map letter, rfl, lof ?_, ?_⟩
          · rw [hD']
            congr 2
            unfold signs
            rw [List.filterMap_map, List.map_map, ← filterMap_some]
            congr 1
            funext c
            show some (V.bl (letter c && true)) = _
            rw [Bool.and_true]; rfl
          · rw [all_map]
            have e : nameB z = z.cps.toList.all letter := by
              unfold nameB
              rw [decide_eq_true (by omega)]; rfl
            rw [← e]
            exact q _ s'
      · rw [decide_eq_false h8]
        refine iteT ?_
        have e : nameB z = false := by
          unfold nameB
          rw [decide_eq_false (by omega)]; rfl
        rw [← e]
        exact q _ sq
    · rw [decide_eq_false h1]
      refine iteF ⟨_, rfl, ?_⟩
      refine iteT ?_
      have e : nameB z = false := by
        unfold nameB
        rw [decide_eq_false (by omega)]; rfl
      rw [← e]
      exact q _ sq
end
end As

/-! ## B3 -/
namespace As
open PySem PySem.Spec PyProof.Rows L2
/-- a list or a tuple -/
def Sq (H : Hp) (a : Addr) (xs : List V) : Prop := H a = some (.lst xs) ∨ H a = some (.tup xs)
theorem Sq.same {H H' : Hp} {a : Addr} {xs : List V} (h : Sq H a xs) (e : Same H H') : Sq H' a xs := h.elim (fun h => .inl (e _ _ h)) fun h => .inr (e _ _ h)
theorem Sq.or {K : PySem.W.Frag} {H : Hp} {a : Addr} {xs : List V} (h : Sq H a xs) : SqL K H a xs ∨ SqT K H a xs := h.elim (fun h => .inl (lof h)) fun h => .inr (tof h)
theorem kany1 {K : PySem.W.Frag} : PySem.W.kitAny K (.type "list") [.type "list", .type "tuple"] = some true := kitAny_cons klist_list (fun z => nomatch z) fun _ => rfl
theorem kany2 {K : PySem.W.Frag} : PySem.W.kitAny K (.type "tuple") [.type "list", .type "tuple"] = some true := kitAny_cons ktup_list (fun _ => kitAny_cons ktup_tup (fun z => nomatch z) fun _ => rfl) fun z => nomatch z

theorem bl_true {p : Prop} [Decidable p] (h : p) : V.bl (decide p) = V.bl true := by rw [decide_eq_true h]
abbrev CRow := Addr × Str × Int
def cv (r : CRow) : V := .ref r.1
structure ColsOk (H : Hp) (rs : List CRow) : Prop where
  row : ∀ r ∈ rs, H r.1 = some (.tup [.str r.2.1, .int r.2.2])
  len : 1 ≤ rs.length ∧ rs.length ≤ 6
  nm : ∀ r ∈ rs, nameB r.2.1 = true
  sz : ∀ r ∈ rs, 1 ≤ r.2.2 ∧ r.2.2 ≤ 6
  nd : (rs.map (·.2.1)).Nodup
abbrev TRow := Addr × Str × Addr × List Str
def tv (r : TRow) : V := .ref r.1
structure TabsOk (H : Hp) (cs : List Str) (rs : List TRow) : Prop where
  row : ∀ r ∈ rs, H r.1 = some (.tup [.str r.2.1, .ref r.2.2.1])
  prt : ∀ r ∈ rs, H r.2.2.1 = some (.tup (r.2.2.2.map V.str))
  len : 1 ≤ rs.length ∧ rs.length ≤ 8
  nm : ∀ r ∈ rs, nameB r.2.1 = true
  two : ∀ r ∈ rs, 1 ≤ r.2.2.2.length ∧ r.2.2.2.length ≤ 2
  own : ∀ r ∈ rs, ∀ x ∈ r.2.2.2, x ∈ cs
  nd : (rs.map (·.2.1)).Nodup
theorem ColsOk.same {H H' : Hp} {rs : List CRow} (h : ColsOk H rs) (e : Same H H') : ColsOk H' rs := ⟨fun r hr => e _ _ (h.row r hr), h.len, h.nm, h.sz, h.nd⟩
theorem TabsOk.same {H H' : Hp} {cs : List Str} {rs : List TRow} (h : TabsOk H cs rs) (e : Same H H') : TabsOk H' cs rs := ⟨fun r hr => e _ _ (h.row r hr), fun r hr => e _ _ (h.prt r hr), h.len, h.nm, h.two, h.own, h.nd⟩
theorem name_len {z : Str} (h : nameB z = true) : 1 ≤ z.length ∧ z.length ≤ 8 := by
  unfold nameB at h
  rw [Bool.and_eq_true] at h
  exact of_decide_eq_true h.1
theorem name_line {z : Str} (h : nameB z = true) : z.length ≤ sizeLine := Nat.le_trans (name_len h).2 (by decide)
theorem inV_str {x : Str} {xs : List Str} : inV (.str x) (xs.map V.str) = decide (x ∈ xs) := by
  unfold inV
  induction xs with
  | nil => rfl
  | cons y r ih =>
    rw [List.map_cons, List.any_cons, ih]
    show ((y == x) || decide (x ∈ r)) = decide (x ∈ y :: r)
    by_cases h : y = x
    · subst h; simp
    · have h' : ¬ x = y := fun e => h e.symm
      rw [(beq_eq_false_iff_ne).mpr h]; simp [h']
theorem flat_strs {xs : List Str} : (xs.map V.str).all flatV = true := by
  rw [List.all_map]; induction xs with
  | nil => rfl
  | cons a r ih => rw [List.all_cons, ih]; rfl

section
variable {P : Program} {w : World} {K : PySem.W.Frag} {mg : Str → Option Value} {base : Heap}

def spList (K : PySem.W.Frag) : Sp := fun vs H Q _ => ∃ a xs, vs = [.ref a] ∧ Sq H a xs ∧ ∀ H', Same H H' → Q (.bl true) H'
theorem sc_list : FnScope ["thing"] ["thing"] (defScope s_is_list) := ⟨rfl, rfl, rfl, by decide +kernel, rfl, by decide +kernel, by decide +kernel⟩
theorem ok_list {f : Addr} {fd : FuncData} (D : Df K mg "is_list" s_is_list ["thing"] f fd) (T : Bi mg) : FnOk P w K mg base CX0 1 f fd ["thing"] (spList K) := by
  refine D.F.ok sc_list (fun vs H Q E h => ?_) (fun cdv A outer s H vs Q E hr h => ?_)
  · obtain ⟨a, xs, rfl, _⟩ := h; rfl
  · obtain ⟨a, xs, rfl, hs, q⟩ := h
    refine ⟨_, pss_one (ps_ret (pe_callB call_isiT (by rfl) T.isinst (by decide +kernel) (pa_cons (pv 0) (pa_cons (pe_tup (pa_cons (pe_bltn (v := .ty "list") (by rfl) T.list (by decide +kernel) rfl)
      (pa_cons (pe_bltn (v := .ty "tuple") (by rfl) T.tuple (by decide +kernel) rfl) pa_nil))) pa_nil)))), ?_⟩
    refine ⟨_, rfl, by show 2 ≤ sizeLine; decide, fun p hp => ?_⟩
    have s1 : Same H (upd H p (.tup [.ty "list", .ty "tuple"])) := same_new hp
    rcases hs with hs | hs
    · exact ⟨_, p, _, .type "list", _, true, rfl, upd_same, .cons (.ty _) (.cons (.ty _) .nil), .base (.lst (s1 _ _ hs)), kany1, q _ s1⟩
    · exact ⟨_, p, _, .type "tuple", _, true, rfl, upd_same, .cons (.ty _) (.cons (.ty _) .nil), .base (.tup (s1 _ _ hs)), kany2, q _ s1⟩

def spPair (K : PySem.W.Frag) : Sp := fun vs H Q _ => ∃ a xs, vs = [.ref a] ∧ H a = some (.tup xs) ∧ Q (.bl (decide (xs.length = 2))) H
theorem sc_pair : FnScope ["thing"] ["thing"] (defScope s_is_pair) := ⟨rfl, rfl, rfl, by decide +kernel, rfl, by decide +kernel, by decide +kernel⟩
theorem ok_pair {f : Addr} {fd : FuncData} (D : Df K mg "is_pair" s_is_pair ["thing"] f fd) (T : Bi mg) : FnOk P w K mg base CX0 1 f fd ["thing"] (spPair K) := by
  refine D.F.ok sc_pair (fun vs H Q E h => ?_) (fun cdv A outer s H vs Q E hr h => ?_)
  · obtain ⟨a, xs, rfl, _⟩ := h; rfl
  · obtain ⟨a, xs, rfl, hs, q⟩ := h
    refine ⟨_, pss_one (ps_ret (pe_and (pe_callB call_isi (by rfl) T.isinst (by decide +kernel) (pa_cons (pv 0) (pa_cons (pe_bltn (v := .ty "tuple") (by rfl) T.tuple (by decide +kernel) rfl) pa_nil)))
      (pe_one (pe_cmpR op_eq (pe_callB call_len_seq (by rfl) T.len PySem.boot_len (pa_cons (pv 0) pa_nil)) pe_int (nomark _))))), ?_⟩
    refine ⟨_, rfl, _, _, _, _, true, rfl, .ty "tuple", .base (.tup hs), ktup_tup, true, rfl, iteT ?_⟩
    refine ⟨_, rfl, a, xs, rfl, .inr (tof hs), rfl, ?_⟩
    have e : decide (V.int (xs.length : Int) = V.int 2) = decide (xs.length = 2) := by
      by_cases h : xs.length = 2
      · rw [h]; rfl
      · rw [decide_eq_false h]; exact decide_eq_false fun z => h (by injection z with z; omega)
    rw [e]
    exact q

def spColumn (K : PySem.W.Frag) : Sp := fun vs H Q _ => ∃ t n m, vs = [.ref t] ∧ H t = some (.tup [.str n, .int m]) ∧ nameB n = true ∧ (1 ≤ m ∧ m ≤ 6) ∧ ∀ H', Same H H' → Q (.bl true) H'
theorem sc_column : FnScope ["thing"] ["thing"] (defScope s_is_column) := ⟨rfl, rfl, rfl, by decide +kernel, rfl, by decide +kernel, by decide +kernel⟩
theorem ok_column {f fn fp fu : Addr} {fd dn dp du : FuncData} (D : Df K mg "is_column" s_is_column ["thing"] f fd) (T : Bi mg) {t6 : Tok} (m6 : mg "MOST_VALUES" = some (.int 6 t6))
    (Dp : Df K mg "is_pair" s_is_pair ["thing"] fp dp) (Gp : FnOk P w K mg base CX0 1 fp dp ["thing"] (spPair K)) (Dn : Df K mg "is_name" s_is_name ["thing"] fn dn) (Gn : FnOk P w K mg base CX0 1 fn dn ["thing"] (spName K))
    (Du : Df K mg "is_number" s_is_number ["thing"] fu du) (Gu : FnOk P w K mg base CX0 1 fu du ["thing"] (spNumber K)) : FnOk P w K mg base CX0 2 f fd ["thing"] (spColumn K) := by
  refine D.F.ok sc_column (fun vs H Q E h => ?_) (fun cdv A outer s H vs Q E hr h => ?_)
  · obtain ⟨t, n, m, rfl, _⟩ := h; rfl
  · obtain ⟨t, n, m, rfl, ht, hn, hm, q⟩ := h
    refine ⟨_, pss_cons (ps_if (PW.pt (pw_or (pt_not (pt_val (pcall Dp Gp hr (pa_cons (pv 0) pa_nil)))) (pw_or1 (pt_not (pt_val (pcall Dn Gn hr (pa_cons (pe_ix ix_tup (pv 0) pe_int (fun _ _ => rfl)) pa_nil)))))))
        (pss_one (ps_ret pe_bl)) pss_nil)
      (pss_one (ps_ret (pe_and (pcall Du Gu hr (pa_cons (pe_ix ix_tup (pv 0) pe_int (fun _ _ => rfl)) pa_nil)) (pe_one (pe_chain op_le op_le pe_int (pe_ix ix_tup (pv 0) pe_int (fun _ _ => rfl)) (pe_glob (v := .int 6) rfl m6 ⟨_, rfl⟩)))))), ?_⟩
    refine ⟨_, rfl, t, _, rfl, ht, true, rfl, iteF ?_⟩
    refine ⟨_, rfl, t, _, 0, .str n, rfl, rfl, tof ht, rfl, n, rfl, name_line hn, fun H1 s1 => ?_⟩
    rw [hn]
    refine ⟨true, rfl, iteF ?_⟩
    have h1 := s1 _ _ ht
    refine ⟨_, rfl, t, _, 1, .int m, rfl, rfl, tof h1, rfl, .int m, .type "int", true, false, rfl, .base (.int m), kint_int, kint_bool, true, rfl, iteT ?_⟩
    refine ⟨_, rfl, t, _, 1, .int m, rfl, rfl, tof h1, rfl, 1, m, rfl, rfl, true, bl_true hm.1, iteT ?_⟩
    refine ⟨m, 6, rfl, rfl, ?_⟩
    show Q (.bl (decide (m ≤ 6))) H1
    rw [decide_eq_true hm.2]
    exact q _ s1

def spTable (K : PySem.W.Frag) : Sp := fun vs H Q _ => ∃ (t : Addr) (n : Str) (p : Addr) (ps : List Str) (c : Addr) (cs : List Str), vs = [.ref t, .ref c] ∧ H t = some (.tup [.str n, .ref p]) ∧ H p = some (.tup (ps.map V.str)) ∧ H c = some (.lst (cs.map V.str)) ∧ nameB n = true ∧
  (1 ≤ ps.length ∧ ps.length ≤ 2) ∧ (∀ x ∈ ps, x ∈ cs) ∧ ∀ H', Same H H' → Q (.bl true) H'
theorem sc_table : FnScope ["thing", "column_names", "names", "name"] ["thing", "column_names"] (defScope s_is_table) := ⟨rfl, rfl, rfl, by decide +kernel, rfl, by decide +kernel, by decide +kernel⟩
theorem ok_table {f fn fp : Addr} {fd dn dp : FuncData} (D : Df K mg "is_table" s_is_table ["thing", "column_names"] f fd) (T : Bi mg) {t2 : Tok} (m2 : mg "MOST_SIDES" = some (.int 2 t2))
    (Dp : Df K mg "is_pair" s_is_pair ["thing"] fp dp) (Gp : FnOk P w K mg base CX0 1 fp dp ["thing"] (spPair K)) (Dn : Df K mg "is_name" s_is_name ["thing"] fn dn) (Gn : FnOk P w K mg base CX0 1 fn dn ["thing"] (spName K)) :
    FnOk P w K mg base CX0 2 f fd ["thing", "column_names"] (spTable K) := by
  refine D.F.ok sc_table (fun vs H Q E h => ?_) (fun cdv A outer s H vs Q E hr h => ?_)
  · obtain ⟨t, n, p, ps, c, cs, rfl, _⟩ := h; rfl
  · obtain ⟨t, n, p, ps, c, cs, rfl, ht, hp, hc, hn, hl, ho, q⟩ := h
    refine ⟨_, pss_cons (ps_if (PW.pt (pw_or (pt_not (pt_val (pcall Dp Gp hr (pa_cons (pv 0) pa_nil)))) (pw_or1 (pt_not (pt_val (pcall Dn Gn hr (pa_cons (pe_ix ix_tup (pv 0) pe_int (fun _ _ => rfl)) pa_nil)))))))
        (pss_one (ps_ret pe_bl)) pss_nil)
      (pss_cons (ps_set (i := 2) sc_table.nd rfl (Or.inl rfl) (pe_ix ix_tup (pv 0) pe_int (fun _ _ => rfl)))
      (pss_cons (ps_if (PW.pt (pw_or (pt_not (pt_val (pe_callB call_isi (by rfl) T.isinst (by decide +kernel) (pa_cons (pv 2) (pa_cons (pe_bltn (v := .ty "tuple") (by rfl) T.tuple (by decide +kernel) rfl) pa_nil)))))
          (pw_or1 (pt_not (pt_chain op_le op_le pe_int (pe_callB call_len_seq (by rfl) T.len PySem.boot_len (pa_cons (pv 2) pa_nil)) (pe_glob (v := .int 2) rfl m2 ⟨_, rfl⟩)))))) (pss_one (ps_ret pe_bl)) pss_nil)
      (pss_one (ps_ret (pe_callB (cr_all rfl) (by rfl) T.all (by decide +kernel) (pa_cons (pe_lc (own := [("name", 3)]) (g := gName 3) (tt := tYes) rfl sc_table.nd (pi_tup (pv 2)) (blkOk_by (N := ["thing", "column_names", "names", "name"]) (sc := defScope s_is_table) (by decide +kernel))
        (fun _ _ _ _ _ => pg_name (i := 3) sc_table.nd rfl (Or.inl rfl)) (fun _ _ _ _ _ => pts_nil) (fun _ _ _ _ _ => pe_cmpR (inK K) (pv 3) (pv 1) rfl)) pa_nil)))))), ?_⟩
    refine ⟨_, rfl, t, _, rfl, ht, true, rfl, iteF ?_⟩
    refine ⟨_, rfl, t, _, 0, .str n, rfl, rfl, tof ht, rfl, n, rfl, name_line hn, fun H1 s1 => ?_⟩
    rw [hn]
    refine ⟨true, rfl, iteF ?_⟩
    refine ⟨_, rfl, t, _, 1, .ref p, rfl, rfl, tof (s1 _ _ ht), rfl, ?_⟩
    have hp1 := s1 _ _ hp
    refine ⟨_, rfl, _, _, _, _, true, rfl, .ty "tuple", .base (.tup hp1), ktup_tup, true, rfl, iteF ?_⟩
    refine ⟨_, rfl, p, _, rfl, .inr (tof hp1), 1, _, rfl, rfl, true, bl_true (by rw [List.length_map]; omega), iteT ?_⟩
    refine ⟨_, _, rfl, rfl, true, bl_true (by rw [List.length_map]; omega), iteF ?_⟩
    refine ⟨_, rfl, p, rfl, ⟨_, tof hp1⟩, fun D hD => lc_same (B := H1) walk_tup rfl (Same.refl H1) hD (fun H e => tof (e _ _ hp1)) (by rw [List.length_map]; exact Nat.lt_of_le_of_lt hl.2 (by decide)) (fun _ => some (.bl true)) (fun x H2 Q1 Q2 hx s2 k1 k2 => ?_) (fun H' s' hD' => ?_)⟩
    · obtain ⟨y, hy, rfl⟩ := List.mem_map.mp hx
      refine ⟨rfl, ?_⟩
      refine iteT (B := Q2 H2) ?_
      refine ⟨_, rfl, _, rfl, c, _, rfl, .inl (lof (s2 _ _ (s1 _ _ hc))), rfl, flat_strs, ?_⟩
      show Q1 (.bl (inV (.str y) (cs.map V.str))) H2
      rw [inV_str, decide_eq_true (ho y hy)]
      exact k1 _ _ rfl (Same.refl _)
    · refine ⟨D, ps.map fun _ => true, rfl, lof ?_, ?_⟩
      · rw [hD']
        congr 2
        rw [filterMap_some, List.map_map, List.map_map]; rfl
      · have e : (ps.map fun _ => true).all id = true := by
          rw [List.all_map]; simp
        rw [e]
        exact q _ (s1.trans s')
end
end As

/-! ## B4 -/
namespace As
open PySem PySem.Spec PyProof.Rows L2
/-- the class Plan as the module has it -/
structure PlC (K : PySem.W.Frag) (mg : Str → Option Value) (C : Addr) : Prop where
  m : mg "Plan" = some (.ref C)
  cls : ∃ mc u6 u8, ClX.CRead K C mc ∧ ClX.CVal K C mc "MOST_COLUMNS" (.int 6) u6 ∧ ClX.CVal K C mc "MOST_TABLES" (.int 8) u8
section
variable {P : Program} {w : World} {K : PySem.W.Frag} {mg : Str → Option Value} {base : Heap}

/-- rows: the place of a pair, its first item, its second -/
abbrev PRow := Addr × Str × V
def rv (r : PRow) : V := .ref r.1
def spDist (K : PySem.W.Frag) : Sp := fun vs H Q _ => ∃ (a : Addr) (rs : List PRow), vs = [.ref a] ∧ Sq H a (rs.map rv) ∧ (∀ r ∈ rs, H r.1 = some (.tup [.str r.2.1, r.2.2])) ∧ (rs.map (·.2.1)).Nodup ∧ rs.length ≤ 8 ∧ ∀ H', Same H H' → Q (.bl true) H'
theorem sc_dist : FnScope ["pairs", "pair"] ["pairs"] (defScope s_have_distinct_names) := ⟨rfl, rfl, rfl, by decide +kernel, rfl, by decide +kernel, by decide +kernel⟩
theorem nodup_key : ∀ {xs : List Str}, xs.Nodup → (xs.map (Sum.inr : Str → Key)).Nodup := fun h => by
  rw [List.Nodup, List.pairwise_map]
  exact h.imp fun h e => h (by injection e)
theorem ok_dist {f : Addr} {fd : FuncData} (D : Df K mg "have_distinct_names" s_have_distinct_names ["pairs"] f fd) (T : Bi mg) : FnOk P w K mg base CX0 1 f fd ["pairs"] (spDist K) := by
  refine D.F.ok sc_dist (fun vs H Q E h => ?_) (fun cdv A outer s H vs Q E hr h => ?_)
  · obtain ⟨a, rs, rfl, _⟩ := h; rfl
  · obtain ⟨a, rs, rfl, hs, hrow, nd, hl, q⟩ := h
    refine ⟨_, pss_one (ps_ret (pe_cmpR op_eq (pe_callB call_lenK (by rfl) T.len PySem.boot_len (pa_cons (pe_scK (own := [("pair", 1)]) (g := gName 1) (tt := tYes) rfl sc_dist.nd (pi_either (pi_list (pv 0)) (pi_tup (pv 0)))
        (blkOk_by (N := ["pairs", "pair"]) (sc := defScope s_have_distinct_names) (by decide +kernel)) (fun _ _ _ _ _ => pg_name (i := 1) sc_dist.nd rfl (Or.inl rfl)) (fun _ _ _ _ _ => pts_nil) (fun _ _ _ _ _ => pe_ix (ixT K) (pv 1) pe_int (fun _ _ => rfl))) pa_nil))
      (pe_callB call_len_seq (by rfl) T.len PySem.boot_len (pa_cons (pv 0) pa_nil)) (nomark _))), ?_⟩
    have turn : ∀ (x : V) (H1 : Hp) (Q1 : VK) (Q2 : Hp → Prop), x ∈ rs.map rv → Same H H1 → (∀ H4, Same H1 H4 → Q1 (kV (match rs.find? (fun r => decide (rv r = x)) with | some r => (.inr r.2.1 : Key) | none => .inl 0)) H4) →
        gName 1 x (wipe (L2.start ["pairs", "pair"] [.ref a]) [1]) H1 fun σ2 H2 => wipe σ2 [1] = wipe (L2.start ["pairs", "pair"] [.ref a]) [1] ∧ tYes σ2 H2 fun b H3 => if b = true then tOp (rIxT K) (tVar 1) (tC (.int 0)) σ2 H3 Q1 else Q2 H3 := by
      intro x H1 Q1 Q2 hx s1 k
      refine ⟨rfl, ?_⟩
      refine iteT (B := Q2 H1) ?_
      cases hf : rs.find? (fun r => decide (rv r = x)) with
      | none =>
        obtain ⟨r, hr', e⟩ := List.mem_map.mp hx
        exact absurd (List.find?_eq_none.mp hf r hr') (by simp [e])
      | some r =>
        have hm := List.mem_of_find?_eq_some hf
        have he : rv r = x := by have z := List.find?_some hf; simpa using z
        subst he
        rw [hf] at k
        exact ⟨_, rfl, r.1, _, 0, .str r.2.1, rfl, rfl, tof (s1 _ _ (hrow r hm)), rfl, k _ (Same.refl _)⟩
    have keys : ((rs.map rv).map (fun x => match rs.find? (fun r => decide (rv r = x)) with | some r => (.inr r.2.1 : Key) | none => .inl 0)).Nodup := by
      have e : (rs.map rv).map (fun x => match rs.find? (fun r => decide (rv r = x)) with | some r => (.inr r.2.1 : Key) | none => .inl 0) = (rs.map (·.2.1)).map Sum.inr := by
        rw [List.map_map, List.map_map]
        refine List.map_congr_left fun r hm => ?_
        show (match rs.find? (fun r' => decide (rv r' = rv r)) with | some r => (.inr r.2.1 : Key) | none => .inl 0) = .inr r.2.1
        cases hf : rs.find? (fun r' => decide (rv r' = rv r)) with
        | none => exact absurd (List.find?_eq_none.mp hf r hm) (by simp)
        | some r' =>
          have hm' := List.mem_of_find?_eq_some hf
          have he : rv r' = rv r := by have z := List.find?_some hf; simpa using z
          have h1 := hrow r hm
          have h2 := hrow r' hm'
          have ha : r'.1 = r.1 := by injection he
          rw [ha, h1] at h2
          injection h2 with h2; injection h2 with h2; injection h2 with h2; injection h2 with h2
          show Sum.inr r'.2.1 = _
          rw [h2]
      rw [e]; exact nodup_key nd
    have fin : ∀ (D : Addr) (H' : Hp) (S : Key → Bool), Same H H' → H' D = some (SetK P w D S (rs.map rv).length) →
        tCons (tVar 0) tNil (L2.start ["pairs", "pair"] [.ref a]) H' (fun vs H1 => ∃ p ys, vs = [V.ref p] ∧ (SqL K H1 p ys ∨ SqT K H1 p ys) ∧ rEq (.int ((rs.map rv).length : Nat)) (.int (ys.length : Nat)) H1 Q) := fun D H' S s' hD => by
      refine ⟨_, rfl, a, rs.map rv, rfl, (hs.same s').or, rfl, ?_⟩
      rw [decide_eq_true rfl]
      exact q _ s'
    have small : (rs.map rv).length + 1 < scanBound := by rw [List.length_map]; exact Nat.lt_of_le_of_lt (Nat.succ_le_succ hl) (by decide)
    rcases hs with hs | hs
    · refine .inl ⟨_, rfl, a, rfl, ⟨_, lof hs⟩, fun D hD => sc_same walk_list rfl (Same.refl H) hD (fun H e => lof (e _ _ hs)) small _ keys turn (fun H' S s' hD' => ?_)⟩
      exact ⟨D, S, _, rfl, hD', fin D H' S s' hD'⟩
    · refine .inr ⟨_, rfl, a, rfl, ⟨_, tof hs⟩, fun D hD => sc_same walk_tup rfl (Same.refl H) hD (fun H e => tof (e _ _ hs)) small _ keys turn (fun H' S s' hD' => ?_)⟩
      exact ⟨D, S, _, rfl, hD', fin D H' S s' hD'⟩

def colRow (r : CRow) : PRow := (r.1, r.2.1, .int r.2.2)
def tabRow (r : TRow) : PRow := (r.1, r.2.1, .ref r.2.2.1)
def spColumns (K : PySem.W.Frag) : Sp := fun vs H Q _ => ∃ (a : Addr) (rs : List CRow), vs = [.ref a] ∧ Sq H a (rs.map cv) ∧ ColsOk H rs ∧ ∀ H', Same H H' → Q (.bl true) H'
theorem sc_columns : FnScope ["thing", "item"] ["thing"] (defScope s_are_columns) := ⟨rfl, rfl, rfl, by decide +kernel, rfl, by decide +kernel, by decide +kernel⟩
theorem ok_columns {f fl fc fh C : Addr} {fd dl dc dh : FuncData} (D : Df K mg "are_columns" s_are_columns ["thing"] f fd) (T : Bi mg) (L : PlC K mg C)
    (Dl : Df K mg "is_list" s_is_list ["thing"] fl dl) (Gl' : FnOk P w K mg base CX0 1 fl dl ["thing"] (spList K)) (Dc : Df K mg "is_column" s_is_column ["thing"] fc dc) (Gc : FnOk P w K mg base CX0 2 fc dc ["thing"] (spColumn K))
    (Dh : Df K mg "have_distinct_names" s_have_distinct_names ["pairs"] fh dh) (Gh : FnOk P w K mg base CX0 1 fh dh ["pairs"] (spDist K)) : FnOk P w K mg base CX0 3 f fd ["thing"] (spColumns K) := by
  refine D.F.ok sc_columns (fun vs H Q E h => ?_) (fun cdv A outer s H vs Q E hr h => ?_)
  · obtain ⟨a, rs, rfl, _⟩ := h; rfl
  · obtain ⟨a, rs, rfl, hs, ok, q⟩ := h
    obtain ⟨mc, u6, u8, rd, c6, c8⟩ := L.cls
    have hr1 : Room 1 _ := hr.mono (by decide)
    refine ⟨_, pss_cons (ps_if (PW.pt (pw_or (pt_not (pt_val (pcall Dl Gl' hr1 (pa_cons (pv 0) pa_nil)))) (pw_or1 (pt_not (pt_chain op_le op_le pe_int (pe_callB call_len_seq (by rfl) T.len PySem.boot_len (pa_cons (pv 0) pa_nil)) (ClX.pe_cval (pe_glob (v := .ref C) rfl L.m rfl)))))))
        (pss_one (ps_ret pe_bl)) pss_nil)
      (pss_one (ps_ret (pe_and (pe_callB (cr_all rfl) (by rfl) T.all (by decide +kernel) (pa_cons (pe_lc (own := [("item", 1)]) (g := gName 1) (tt := tYes) rfl sc_columns.nd (pi_either (pi_list (pv 0)) (pi_tup (pv 0)))
          (blkOk_by (N := ["thing", "item"]) (sc := defScope s_are_columns) (by decide +kernel)) (fun _ _ _ _ _ => pg_name (i := 1) sc_columns.nd rfl (Or.inl rfl)) (fun _ _ _ _ _ => pts_nil) (fun _ _ _ _ _ => pcall Dc Gc hr (pa_cons (pv 1) pa_nil))) pa_nil))
        (pe_one (pcall Dh Gh hr1 (pa_cons (pv 0) pa_nil)))))), ?_⟩
    refine ⟨_, rfl, a, _, rfl, hs, fun H1 s1 => ⟨true, rfl, iteF ?_⟩⟩
    have hs1 := hs.same s1
    refine ⟨_, rfl, a, _, rfl, hs1.or, 1, _, rfl, rfl, true, bl_true (by rw [List.length_map]; have := ok.len; omega), iteT ?_⟩
    refine ⟨C, mc, .int 6, u6, rfl, rd, c6, _, _, rfl, rfl, true, bl_true (by rw [List.length_map]; have := ok.len; omega), iteF ?_⟩
    have ok1 := ok.same s1
    have turn : ∀ (x : V) (H2 : Hp) (Q1 : VK) (Q2 : Hp → Prop), x ∈ rs.map cv → Same H1 H2 → (∀ y H4, some (V.bl true) = some y → Same H2 H4 → Q1 y H4) → (∀ H3, some (V.bl true) = none → Same H2 H3 → Q2 H3) →
        gName 1 x (wipe (L2.start ["thing", "item"] [.ref a]) [1]) H2 fun σ2 H3 => wipe σ2 [1] = wipe (L2.start ["thing", "item"] [.ref a]) [1] ∧ tYes σ2 H3 fun b H4 => if b = true then tCall (spColumn K) [] E0 (tCons (tVar 1) tNil) σ2 H4 Q1 else Q2 H4 := by
      intro x H2 Q1 Q2 hx s2 k1 k2
      obtain ⟨r, hm, rfl⟩ := List.mem_map.mp hx
      refine ⟨rfl, ?_⟩
      refine iteT (B := Q2 H2) ?_
      exact ⟨_, rfl, r.1, r.2.1, r.2.2, rfl, s2 _ _ (ok1.row r hm), ok.nm r hm, ok.sz r hm, fun H4 s4 => k1 _ _ rfl s4⟩
    have fin : ∀ (D : Addr) (H' : Hp), Same H1 H' → H' D = some (.lst ((rs.map cv).filterMap fun _ => some (V.bl true))) →
        rAll K [.ref D] H' (fun x H2 => ∃ c, x = .bl c ∧ if c = true then tCall (spDist K) [] E0 (tCons (tVar 0) tNil) (L2.start ["thing", "item"] [.ref a]) H2 Q else Q (.bl false) H2) := by
      intro D H' s' hD
      refine ⟨D, rs.map fun _ => true, rfl, lof ?_, ?_⟩
      · rw [hD]; congr 2; rw [filterMap_some, List.map_map, List.map_map]; rfl
      · have e : (rs.map fun _ => true).all id = true := by rw [List.all_map]; simp
        rw [e]
        refine ⟨true, rfl, iteT ⟨_, rfl, a, rs.map colRow, rfl, ?_, ?_, ?_, ?_, fun H2 s2 => q _ ((s1.trans s').trans s2)⟩⟩
        · have e : (rs.map colRow).map rv = rs.map cv := by rw [List.map_map]; rfl
          rw [e]; exact hs1.same s'
        · intro r hm
          obtain ⟨r0, hm0, rfl⟩ := List.mem_map.mp hm
          exact s' _ _ (ok1.row r0 hm0)
        · rw [List.map_map]; exact ok.nd
        · rw [List.length_map]; have := ok.len; omega
    have small : (rs.map cv).length < sizeLine := by rw [List.length_map]; exact Nat.lt_of_le_of_lt ok.len.2 (by decide)
    rcases hs1 with hs1 | hs1
    · exact .inl ⟨_, rfl, a, rfl, ⟨_, lof hs1⟩, fun D hD => lc_same walk_list rfl (Same.refl H1) hD (fun H e => lof (e _ _ hs1)) small (fun _ => some (.bl true)) turn fun H' s' hD' => fin D H' s' hD'⟩
    · exact .inr ⟨_, rfl, a, rfl, ⟨_, tof hs1⟩, fun D hD => lc_same walk_tup rfl (Same.refl H1) hD (fun H e => tof (e _ _ hs1)) small (fun _ => some (.bl true)) turn fun H' s' hD' => fin D H' s' hD'⟩

def spTables (K : PySem.W.Frag) : Sp := fun vs H Q _ => ∃ (a c : Addr) (rs : List TRow) (cs : List CRow), vs = [.ref a, .ref c] ∧ Sq H a (rs.map tv) ∧ Sq H c (cs.map cv) ∧ ColsOk H cs ∧ TabsOk H (cs.map (·.2.1)) rs ∧ ∀ H', Same H H' → Q (.bl true) H'
theorem sc_tables : FnScope ["thing", "columns", "column_names", "name", "many", "item"] ["thing", "columns"] (defScope s_are_tables) := ⟨rfl, rfl, rfl, by decide +kernel, rfl, by decide +kernel, by decide +kernel⟩
theorem ok_tables {f fl fc fh C : Addr} {fd dl dc dh : FuncData} (D : Df K mg "are_tables" s_are_tables ["thing", "columns"] f fd) (T : Bi mg) (L : PlC K mg C)
    (Dl : Df K mg "is_list" s_is_list ["thing"] fl dl) (Gl' : FnOk P w K mg base CX0 1 fl dl ["thing"] (spList K)) (Dc : Df K mg "is_table" s_is_table ["thing", "column_names"] fc dc) (Gc : FnOk P w K mg base CX0 2 fc dc ["thing", "column_names"] (spTable K))
    (Dh : Df K mg "have_distinct_names" s_have_distinct_names ["pairs"] fh dh) (Gh : FnOk P w K mg base CX0 1 fh dh ["pairs"] (spDist K)) : FnOk P w K mg base CX0 3 f fd ["thing", "columns"] (spTables K) := by
  refine D.F.ok sc_tables (fun vs H Q E h => ?_) (fun cdv A outer s H vs Q E hr h => ?_)
  · obtain ⟨a, c, rs, cs, rfl, _⟩ := h; rfl
  · obtain ⟨a, c, rs, cs, rfl, hs, hcs, okc, ok, q⟩ := h
    obtain ⟨mc, u6, u8, rd, c6, c8⟩ := L.cls
    have hr1 : Room 1 _ := hr.mono (by decide)
    refine ⟨_, pss_cons (ps_if (PW.pt (pw_or (pt_not (pt_val (pcall Dl Gl' hr1 (pa_cons (pv 0) pa_nil)))) (pw_or1 (pt_not (pt_chain op_le op_le pe_int (pe_callB call_len_seq (by rfl) T.len PySem.boot_len (pa_cons (pv 0) pa_nil)) (ClX.pe_cval (pe_glob (v := .ref C) rfl L.m rfl)))))))
        (pss_one (ps_ret pe_bl)) pss_nil)
      (pss_cons (ps_set (i := 2) sc_tables.nd rfl (Or.inr rfl) (pe_lc (own := [("name", 3), ("many", 4)]) (g := gTup K 2 (gCons (gName 3) (gCons (gName 4) gNil))) (tt := tYes) rfl sc_tables.nd (pi_either (pi_list (pv 1)) (pi_tup (pv 1)))
          (blkOk_by (N := ["thing", "columns", "column_names", "name", "many", "item"]) (sc := defScope s_are_tables) (by decide +kernel)) (fun _ _ _ _ _ => pgT K (pg_tup rfl (pgs_cons (pg_name (i := 3) sc_tables.nd rfl (Or.inl rfl)) (pgs_cons (pg_name (i := 4) sc_tables.nd rfl (Or.inl rfl)) pgs_nil))))
          (fun _ _ _ _ _ => pts_nil) (fun _ _ _ _ _ => pv 3)))
      (pss_one (ps_ret (pe_and (pe_callB (cr_all rfl) (by rfl) T.all (by decide +kernel) (pa_cons (pe_lc (own := [("item", 5)]) (g := gName 5) (tt := tYes) rfl sc_tables.nd (pi_either (pi_list (pv 0)) (pi_tup (pv 0)))
          (blkOk_by (N := ["thing", "columns", "column_names", "name", "many", "item"]) (sc := defScope s_are_tables) (by decide +kernel)) (fun _ _ _ _ _ => pg_name (i := 5) sc_tables.nd rfl (Or.inl rfl)) (fun _ _ _ _ _ => pts_nil)
          (fun _ _ _ _ _ => pcall Dc Gc hr (pa_cons (pv 5) (pa_cons (pv 2) pa_nil)))) pa_nil))
        (pe_one (pcall Dh Gh hr1 (pa_cons (pv 0) pa_nil))))))), ?_⟩
    refine ⟨_, rfl, a, _, rfl, hs, fun H1 s1 => ⟨true, rfl, iteF ?_⟩⟩
    have hs1 := hs.same s1
    refine ⟨_, rfl, a, _, rfl, hs1.or, 1, _, rfl, rfl, true, bl_true (by rw [List.length_map]; have := ok.len; omega), iteT ?_⟩
    refine ⟨C, mc, .int 8, u8, rfl, rd, c8, _, _, rfl, rfl, true, bl_true (by rw [List.length_map]; have := ok.len; omega), iteF ?_⟩
    have hcs1 := hcs.same s1
    -- the rest, behind the names' list at N
    have rest : ∀ (N : Addr) (H2 : Hp), Same H1 H2 → H2 N = some (.lst ((cs.map (·.2.1)).map V.str)) →
        tRet (tAndV (tCB (rAll K) (tCons (tLc (fun σ H R => iList K (tVar 0) σ H R ∨ iTup K (tVar 0) σ H R) (gName 5) tYes (tCall (spTable K) [] E0 (tCons (tVar 5) (tCons (tVar 2) tNil))) [5]) tNil)) (tCall (spDist K) [] E0 (tCons (tVar 0) tNil)))
          { nx := fun _ H' => Q .non H', rt := Q } ((L2.start ["thing", "columns", "column_names", "name", "many", "item"] [.ref a, .ref c]).set 2 (some (.ref N))) H2 := by
      intro N H2 s2 hN
      have hs2 := hs1.same s2
      have ok2 := ok.same (s1.trans s2)
      have turn : ∀ (x : V) (H3 : Hp) (Q1 : VK) (Q2 : Hp → Prop), x ∈ rs.map tv → Same H2 H3 → (∀ y H4, some (V.bl true) = some y → Same H3 H4 → Q1 y H4) → (∀ H4, some (V.bl true) = none → Same H3 H4 → Q2 H4) →
          gName 5 x (wipe ((L2.start ["thing", "columns", "column_names", "name", "many", "item"] [.ref a, .ref c]).set 2 (some (.ref N))) [5]) H3 fun σ2 H4 => wipe σ2 [5] = wipe ((L2.start ["thing", "columns", "column_names", "name", "many", "item"] [.ref a, .ref c]).set 2 (some (.ref N))) [5] ∧
            tYes σ2 H4 fun b H5 => if b = true then tCall (spTable K) [] E0 (tCons (tVar 5) (tCons (tVar 2) tNil)) σ2 H5 Q1 else Q2 H5 := by
        intro x H3 Q1 Q2 hx s3 k1 k2
        obtain ⟨r, hm, rfl⟩ := List.mem_map.mp hx
        refine ⟨rfl, ?_⟩
        refine iteT (B := Q2 H3) ?_
        exact ⟨_, rfl, _, rfl, r.1, r.2.1, r.2.2.1, r.2.2.2, N, cs.map (·.2.1), rfl, s3 _ _ (ok2.row r hm), s3 _ _ (ok2.prt r hm), s3 _ _ hN, ok.nm r hm, ok.two r hm, ok.own r hm, fun H4 s4 => k1 _ _ rfl s4⟩
      have fin : ∀ (D : Addr) (H' : Hp), Same H2 H' → H' D = some (.lst ((rs.map tv).filterMap fun _ => some (V.bl true))) →
          rAll K [.ref D] H' (fun x H3 => ∃ c', x = .bl c' ∧ if c' = true then tCall (spDist K) [] E0 (tCons (tVar 0) tNil) ((L2.start ["thing", "columns", "column_names", "name", "many", "item"] [.ref a, .ref c]).set 2 (some (.ref N))) H3 Q else Q (.bl false) H3) := by
        intro D H' s' hD
        refine ⟨D, rs.map fun _ => true, rfl, lof ?_, ?_⟩
        · rw [hD]; congr 2; rw [filterMap_some, List.map_map, List.map_map]; rfl
        · have e : (rs.map fun _ => true).all id = true := by rw [List.all_map]; simp
          rw [e]
          refine ⟨true, rfl, iteT ⟨_, rfl, a, rs.map tabRow, rfl, ?_, ?_, ?_, ?_, fun H3 s3 => q _ (((s1.trans s2).trans s').trans s3)⟩⟩
          · have e : (rs.map tabRow).map rv = rs.map tv := by rw [List.map_map]; rfl
            rw [e]; exact hs2.same s'
          · intro r hm
            obtain ⟨r0, hm0, rfl⟩ := List.mem_map.mp hm
            exact s' _ _ (ok2.row r0 hm0)
          · rw [List.map_map]; exact ok.nd
          · rw [List.length_map]; exact ok.len.2
      have small : (rs.map tv).length < sizeLine := by rw [List.length_map]; exact Nat.lt_of_le_of_lt ok.len.2 (by decide)
      rcases hs2 with hs2 | hs2
      · exact .inl ⟨_, rfl, a, rfl, ⟨_, lof hs2⟩, fun D hD => lc_same walk_list rfl (Same.refl H2) hD (fun H e => lof (e _ _ hs2)) small (fun _ => some (.bl true)) turn fun H' s' hD' => fin D H' s' hD'⟩
      · exact .inr ⟨_, rfl, a, rfl, ⟨_, tof hs2⟩, fun D hD => lc_same walk_tup rfl (Same.refl H2) hD (fun H e => tof (e _ _ hs2)) small (fun _ => some (.bl true)) turn fun H' s' hD' => fin D H' s' hD'⟩
    have okc1 := okc.same s1
    let nameOf : V → Option V := fun x => match cs.find? (fun r => decide (cv r = x)) with | some r => some (.str r.2.1) | none => none
    have nameAt : ∀ r ∈ cs, nameOf (cv r) = some (.str r.2.1) := fun r hm => by
      show (match cs.find? (fun r' => decide (cv r' = cv r)) with | some r => some (V.str r.2.1) | none => none) = _
      cases hf : cs.find? (fun r' => decide (cv r' = cv r)) with
      | none => exact absurd (List.find?_eq_none.mp hf r hm) (by simp)
      | some r' =>
        have he : cv r' = cv r := by have z := List.find?_some hf; simpa using z
        have ha : r'.1 = r.1 := by injection he
        have h2 := okc.row r' (List.mem_of_find?_eq_some hf)
        rw [ha, okc.row r hm] at h2
        injection h2 with h2; injection h2 with h2; injection h2 with h2; injection h2 with h2
        show some (V.str r'.2.1) = _
        rw [h2]
    have names : (cs.map cv).filterMap nameOf = (cs.map (·.2.1)).map V.str := by
      rw [List.filterMap_map, List.map_map, ← filterMap_some]
      exact filterMap_same fun r hm => nameAt r hm
    have turn : ∀ (x : V) (H3 : Hp) (Q1 : VK) (Q2 : Hp → Prop), x ∈ cs.map cv → Same H1 H3 → (∀ y H4, nameOf x = some y → Same H3 H4 → Q1 y H4) → (∀ H4, nameOf x = none → Same H3 H4 → Q2 H4) →
        gTup K 2 (gCons (gName 3) (gCons (gName 4) gNil)) x (wipe (L2.start ["thing", "columns", "column_names", "name", "many", "item"] [.ref a, .ref c]) [3, 4]) H3 fun σ2 H4 => wipe σ2 [3, 4] = wipe (L2.start ["thing", "columns", "column_names", "name", "many", "item"] [.ref a, .ref c]) [3, 4] ∧
          tYes σ2 H4 fun b H5 => if b = true then tVar 3 σ2 H5 Q1 else Q2 H5 := by
      intro x H3 Q1 Q2 hx s3 k1 k2
      obtain ⟨r, hm, rfl⟩ := List.mem_map.mp hx
      refine ⟨r.1, _, rfl, tof (s3 _ _ (okc1.row r hm)), rfl, _, _, rfl, _, _, rfl, rfl, rfl, ?_⟩
      refine iteT (B := Q2 H3) ?_
      exact ⟨_, rfl, k1 _ _ (nameAt r hm) (Same.refl _)⟩
    have small : (cs.map cv).length < sizeLine := by rw [List.length_map]; exact Nat.lt_of_le_of_lt okc.len.2 (by decide)
    rcases hcs1 with hc1 | hc1
    · exact .inl ⟨_, rfl, c, rfl, ⟨_, lof hc1⟩, fun D hD => lc_same walk_list rfl (Same.refl H1) hD (fun H e => lof (e _ _ hc1)) small nameOf turn fun H' s' hD' => rest D H' s' (by rw [hD', names])⟩
    · exact .inr ⟨_, rfl, c, rfl, ⟨_, tof hc1⟩, fun D hD => lc_same walk_tup rfl (Same.refl H1) hD (fun H e => tof (e _ _ hc1)) small nameOf turn fun H' s' hD' => rest D H' s' (by rw [hD', names])⟩
end
end As

/-! ## B5 -/
namespace As
open PySem PySem.Spec PyProof.Rows L2

/-! what a row's place tells -/
def rowFn {ρ α : Type} (rows : List ρ) (at_ : ρ → Addr) (φ : ρ → α) (d : α) : V → α := fun x => match rows.find? (fun r => decide (V.ref (at_ r) = x)) with | some r => φ r | none => d
theorem rowFn_at {ρ α : Type} {rows : List ρ} {at_ : ρ → Addr} {φ : ρ → α} {d : α} (u : ∀ r ∈ rows, ∀ r' ∈ rows, at_ r = at_ r' → φ r = φ r') {r : ρ} (hr : r ∈ rows) : rowFn rows at_ φ d (.ref (at_ r)) = φ r := by
  unfold rowFn
  cases hf : rows.find? (fun r' => decide (V.ref (at_ r') = V.ref (at_ r))) with
  | none => exact absurd (List.find?_eq_none.mp hf r hr) (by simp)
  | some r' =>
    have z := List.find?_some hf
    have he : at_ r' = at_ r := by simpa using z
    exact u r' (List.mem_of_find?_eq_some hf) r hr he
theorem ColsOk.det {H : Hp} {cs : List CRow} (ok : ColsOk H cs) : ∀ r ∈ cs, ∀ r' ∈ cs, r.1 = r'.1 → r.2 = r'.2 := fun r hr r' hr' e => by
  have h1 := ok.row r hr
  have h2 := ok.row r' hr'
  rw [e, h2] at h1
  injection h1 with h1; injection h1 with h1; injection h1 with h1 h3; injection h3 with h3
  injection h1 with h1; injection h3 with h3
  exact Prod.ext h1.symm h3.symm
theorem map_str_inj : ∀ {xs ys : List Str}, xs.map V.str = ys.map V.str → xs = ys
  | [], [], _ => rfl
  | [], _ :: _, h => nomatch h
  | _ :: _, [], h => nomatch h
  | x :: xs, y :: ys, h => by
    injection h with h1 h2
    injection h1 with h1
    rw [h1, map_str_inj h2]
theorem TabsOk.det {H : Hp} {cs : List Str} {ts : List TRow} (ok : TabsOk H cs ts) : ∀ r ∈ ts, ∀ r' ∈ ts, r.1 = r'.1 → r.2 = r'.2 := fun r hr r' hr' e => by
  have h1 := ok.row r hr
  have h2 := ok.row r' hr'
  rw [e, h2] at h1
  injection h1 with h1; injection h1 with h1; injection h1 with h1 h3; injection h3 with h3
  injection h1 with h1; injection h3 with h3
  have p1 := ok.prt r hr
  have p2 := ok.prt r' hr'
  rw [← h3, p2] at p1
  injection p1 with p1; injection p1 with p1
  exact Prod.ext h1.symm (Prod.ext h3.symm (map_str_inj p1).symm)

/-! the plan as an object -/
theorem nCT : ¬ (Str.ofString "_columns") = (Str.ofString "_tables") := by decide +kernel
theorem nCS : ¬ (Str.ofString "_columns") = (Str.ofString "_sizes") := by decide +kernel
theorem nCP : ¬ (Str.ofString "_columns") = (Str.ofString "_spans") := by decide +kernel
theorem nTS : ¬ (Str.ofString "_tables") = (Str.ofString "_sizes") := by decide +kernel
theorem nTP : ¬ (Str.ofString "_tables") = (Str.ofString "_spans") := by decide +kernel
theorem nSP : ¬ (Str.ofString "_sizes") = (Str.ofString "_spans") := by decide +kernel
def pf3 (ct tt sz : Addr) : List (Str × V) := putF (Str.ofString "_sizes") (.ref sz) (putF (Str.ofString "_tables") (.ref tt) (putF (Str.ofString "_columns") (.ref ct) []))
theorem nCH : ¬ (Str.ofString "_columns") = (Str.ofString "_shapes") := by decide +kernel
theorem nTH : ¬ (Str.ofString "_tables") = (Str.ofString "_shapes") := by decide +kernel
theorem nSH : ¬ (Str.ofString "_sizes") = (Str.ofString "_shapes") := by decide +kernel
theorem nHP : ¬ (Str.ofString "_shapes") = (Str.ofString "_spans") := by decide +kernel
def pf4 (ct tt sz sh : Addr) : List (Str × V) := putF (Str.ofString "_shapes") (.ref sh) (pf3 ct tt sz)
def pf (ct tt sz sp sh : Addr) : List (Str × V) := putF (Str.ofString "_spans") (.ref sp) (pf4 ct tt sz sh)
theorem pf_C {ct tt sz sp sh : Addr} : (pf ct tt sz sp sh).lookup (Str.ofString "_columns") = some (.ref ct) := by
  unfold pf pf4 pf3; rw [lookup_putF, if_neg nCP, lookup_putF, if_neg nCH, lookup_putF, if_neg nCS, lookup_putF, if_neg nCT, lookup_putF, if_pos rfl]
theorem pf_T {ct tt sz sp sh : Addr} : (pf ct tt sz sp sh).lookup (Str.ofString "_tables") = some (.ref tt) := by
  unfold pf pf4 pf3; rw [lookup_putF, if_neg nTP, lookup_putF, if_neg nTH, lookup_putF, if_neg nTS, lookup_putF, if_pos rfl]
theorem pf_S {ct tt sz sp sh : Addr} : (pf ct tt sz sp sh).lookup (Str.ofString "_sizes") = some (.ref sz) := by
  unfold pf pf4 pf3; rw [lookup_putF, if_neg nSP, lookup_putF, if_neg nSH, lookup_putF, if_pos rfl]
theorem pf_P {ct tt sz sp sh : Addr} : (pf ct tt sz sp sh).lookup (Str.ofString "_spans") = some (.ref sp) := by
  unfold pf; rw [lookup_putF, if_pos rfl]
theorem pf_H {ct tt sz sp sh : Addr} : (pf ct tt sz sp sh).lookup (Str.ofString "_shapes") = some (.ref sh) := by
  unfold pf pf4; rw [lookup_putF, if_neg nHP, lookup_putF, if_pos rfl]
theorem pf4_S {ct tt sz sh : Addr} : (pf4 ct tt sz sh).lookup (Str.ofString "_sizes") = some (.ref sz) := by
  unfold pf4 pf3; rw [lookup_putF, if_neg nSH, lookup_putF, if_pos rfl]
theorem pf_no {ct tt sz sp sh : Addr} {m : Str} (h1 : ¬ m = (Str.ofString "_columns")) (h2 : ¬ m = (Str.ofString "_tables")) (h3 : ¬ m = (Str.ofString "_sizes")) (h4 : ¬ m = (Str.ofString "_spans")) (h5 : ¬ m = (Str.ofString "_shapes")) : (pf ct tt sz sp sh).lookup m = none := by
  unfold pf pf4 pf3; rw [lookup_putF, if_neg h4, lookup_putF, if_neg h5, lookup_putF, if_neg h3, lookup_putF, if_neg h2, lookup_putF, if_neg h1]; rfl

def colsD (cs : List CRow) : List (Key × V) := cs.map fun r => (.inr r.2.1, .int r.2.2)
/-- the number of values of a column, or None -/
def sizeV (cs : List CRow) (z : Str) : V := (valV (colsD cs) (.inr z)).getD .non
def spanVs (cs : List CRow) (r : TRow) : List V := r.2.2.2.map (sizeV cs)
/-- at p a plan of these columns and tables -/
def shapesD (ts : List TRow) : List (Key × V) := ts.map fun r => (.inr r.2.1, .ref r.2.2.1)
def PlanAt (H : Hp) (C p : Addr) (cs : List CRow) (ts : List TRow) : Prop := ∃ (dx ct tt sz sp sh : Addr) (ks : List (Key × V)), H p = some (.ins C dx (pf ct tt sz sp sh)) ∧ H ct = some (.tup (cs.map cv)) ∧ H tt = some (.tup (ts.map tv)) ∧
  H sz = some (.dK (colsD cs)) ∧ H sp = some (.dK ks) ∧ H sh = some (.dK (shapesD ts)) ∧ Paired (fun (r : TRow) (kv : Key × V) => kv.1 = .inr r.2.1 ∧ ∃ q, kv.2 = .ref q ∧ H q = some (.tup (spanVs cs r))) ts ks
theorem PlanAt.same {H H' : Hp} {C p : Addr} {cs : List CRow} {ts : List TRow} (h : PlanAt H C p cs ts) (e : Same H H') : PlanAt H' C p cs ts := by
  obtain ⟨dx, ct, tt, sz, sp, sh, ks, h1, h2, h3, h4, h5, hs, h6⟩ := h
  exact ⟨dx, ct, tt, sz, sp, sh, ks, e _ _ h1, e _ _ h2, e _ _ h3, e _ _ h4, e _ _ h5, e _ _ hs, paired_imp (fun _ _ r => ⟨r.1, r.2.elim fun q z => ⟨q, z.1, e _ _ z.2⟩⟩) h6⟩

theorem kTup_seq {K : PySem.W.Frag} {H : Hp} {a : Addr} {xs : List V} {Q : VK} (h : Sq H a xs) (k : ∀ q H', Same H H' → H' q = some (.tup xs) → Q (.ref q) H') : kTup K (.ref a) H Q := by
  rcases h with h | h
  · exact .inl ⟨a, xs, rfl, lof h, fun q hq => k q _ (same_new hq) upd_same⟩
  · exact .inr ⟨a, xs, rfl, tof h, k a H (Same.refl H) h⟩
theorem pfl {f : Str} {v : V} {fs : List (Str × V)} {n : Nat} (h : fs.length ≤ n) : (putF f v fs).length ≤ n + 1 := Nat.le_trans (length_putF f v fs) (Nat.succ_le_succ h)
theorem valV_cols {cs : List CRow} {c : Str} (h : c ∈ cs.map (·.2.1)) : ∃ v, valV (colsD cs) (.inr c) = some v := by
  unfold valV colsD
  cases hf : (cs.map fun r => ((.inr r.2.1 : Key), V.int r.2.2)).find? (fun kv => decide (kv.1 = .inr c)) with
  | some kv => exact ⟨_, rfl⟩
  | none =>
    obtain ⟨r, hr, e⟩ := List.mem_map.mp h
    exact absurd (List.find?_eq_none.mp hf (.inr r.2.1, .int r.2.2) (List.mem_map.mpr ⟨r, hr, rfl⟩)) (by simp [e])
section
variable {H : Hp} {p C dx : Addr} {fs : List (Str × V)}
theorem ne_ins {b : Addr} {o : HO} (hp : H p = some (.ins C dx fs)) (h : H b = some o) (n : ∀ C dx fs, o ≠ .ins C dx fs) : b ≠ p := fun e => by
  subst e; rw [hp] at h; injection h with h; exact n _ _ _ h.symm
theorem Sq.rem {a : Addr} {xs : List V} (hp : H p = some (.ins C dx fs)) (h : Sq H a xs) : Sq (As.rem H p) a xs := by
  rcases h with h | h
  · exact .inl (by rw [rem_ne (ne_ins hp h (fun _ _ _ z => nomatch z))]; exact h)
  · exact .inr (by rw [rem_ne (ne_ins hp h (fun _ _ _ z => nomatch z))]; exact h)
theorem ColsOk.rem {cs : List CRow} (hp : H p = some (.ins C dx fs)) (h : ColsOk H cs) : ColsOk (As.rem H p) cs :=
  ⟨fun r hr => by rw [rem_ne (ne_ins hp (h.row r hr) (fun _ _ _ z => nomatch z))]; exact h.row r hr, h.len, h.nm, h.sz, h.nd⟩
theorem TabsOk.rem {cs : List Str} {ts : List TRow} (hp : H p = some (.ins C dx fs)) (h : TabsOk H cs ts) : TabsOk (As.rem H p) cs ts :=
  ⟨fun r hr => by rw [rem_ne (ne_ins hp (h.row r hr) (fun _ _ _ z => nomatch z))]; exact h.row r hr, fun r hr => by rw [rem_ne (ne_ins hp (h.prt r hr) (fun _ _ _ z => nomatch z))]; exact h.prt r hr, h.len, h.nm, h.two, h.own, h.nd⟩
end
theorem paired_cols {cs cs0 : List CRow} {f g : V → V} {key : V → Key} : (∀ r ∈ cs, key (cv r) = .inr r.2.1 ∧ g (cv r) = .int r.2.2) → ∀ {kvs : List (Key × V)}, Paired (fun x (kv : Key × V) => kv.1 = key x ∧ kv.2 = g x) (cs.map cv) kvs → kvs = colsD cs := by
  induction cs with
  | nil => intro _ kvs h; cases h; rfl
  | cons r t ih =>
    intro hk kvs h
    rw [List.map_cons] at h
    cases h with
    | @cons a kv l1 l2 h1 h2 =>
      have e := ih (fun r hr => hk r (List.mem_cons_of_mem _ hr)) h2
      have z := hk r List.mem_cons_self
      show kv :: l2 = (.inr r.2.1, .int r.2.2) :: colsD t
      rw [e]
      congr 1
      exact Prod.ext (h1.1.trans z.1) (h1.2.trans z.2)
theorem paired_rows {ts : List TRow} {R : V → V → Prop} {S : TRow → V → Prop} {key : V → Key} : (∀ r ∈ ts, key (tv r) = .inr r.2.1 ∧ ∀ v, R (tv r) v → S r v) → ∀ {kvs : List (Key × V)}, Paired (fun x (kv : Key × V) => kv.1 = key x ∧ R x kv.2) (ts.map tv) kvs →
    Paired (fun (r : TRow) (kv : Key × V) => kv.1 = .inr r.2.1 ∧ S r kv.2) ts kvs := by
  induction ts with
  | nil => intro _ kvs h; cases h; exact .nil
  | cons r t ih =>
    intro hk kvs h
    rw [List.map_cons] at h
    cases h with
    | @cons a kv l1 l2 h1 h2 => exact .cons ⟨h1.1.trans (hk r List.mem_cons_self).1, (hk r List.mem_cons_self).2 _ h1.2⟩ (ih (fun r hr => hk r (List.mem_cons_of_mem _ hr)) h2)
/-- the class: its fields are no attributes of it -/
structure PlF (K : PySem.W.Frag) (C : Addr) : Prop where
  cl : Cls K C
  aC : NoAttr K C (Str.ofString "_columns")
  aT : NoAttr K C (Str.ofString "_tables")
  aS : NoAttr K C (Str.ofString "_sizes")
  aP : NoAttr K C (Str.ofString "_spans")
  aH : NoAttr K C (Str.ofString "_shapes")
/-- a dict comprehension over a list or a tuple -/
theorem dcE {K : PySem.W.Frag} {b : Addr} {i : Nat} {xs : List V} {g : TG} {tt : TT} {tk tv : TE} {vs : List Nat} {σ : L2.St} {H1 : Hp} {Q : VK} (hb : Sq H1 b xs) (hσ : σ[i]? = some (some (.ref b))) (hl : xs.length < sizeLine) (f : V → Key) (nd : (xs.map f).Nodup)
    (R : V → V → Hp → Prop) (mono : ∀ x v H H', Imm H H' → R x v H → R x v H')
    (hs : ∀ x H (Q1 : V → V → Hp → Prop) (Q2 : Hp → Prop), x ∈ xs → Same H1 H → (∀ v H5, Same H H5 → R x v H5 → Q1 (kV (f x)) v H5) →
      g x (wipe σ vs) H fun σ2 H2 => wipe σ2 vs = wipe σ vs ∧ tt σ2 H2 fun b H3 => if b = true then tk σ2 H3 (fun y H4 => tv σ2 H4 fun z H5 => Q1 y z H5) else Q2 H3)
    (hd : ∀ D H' kvs, Same H1 H' → H' D = some (.dK kvs) → Paired (fun x kv => kv.1 = f x ∧ R x kv.2 H') xs kvs → Q (.ref D) H') :
    tDc (fun σ H R => iList K (tVar i) σ H R ∨ iTup K (tVar i) σ H R) g tt tk tv vs σ H1 Q := by
  rcases hb with hb | hb
  · exact .inl ⟨_, hσ, b, rfl, ⟨_, lof hb⟩, fun D hD => dc_same walk_list rfl (Same.refl H1) hD (fun H e => lof (e _ _ hb)) hl f nd R mono hs fun H' ks s' h1 h2 => hd D H' ks s' h1 h2⟩
  · exact .inr ⟨_, hσ, b, rfl, ⟨_, tof hb⟩, fun D hD => dc_same walk_tup rfl (Same.refl H1) hD (fun H e => tof (e _ _ hb)) hl f nd R mono hs fun H' ks s' h1 h2 => hd D H' ks s' h1 h2⟩
theorem paired_shapes {ts : List TRow} {g : V → V} {key : V → Key} : (∀ r ∈ ts, key (tv r) = .inr r.2.1 ∧ g (tv r) = .ref r.2.2.1) → ∀ {kvs : List (Key × V)}, Paired (fun x (kv : Key × V) => kv.1 = key x ∧ kv.2 = g x) (ts.map tv) kvs → kvs = shapesD ts := by
  induction ts with
  | nil => intro _ kvs h; cases h; rfl
  | cons r t ih =>
    intro hk kvs h
    rw [List.map_cons] at h
    cases h with
    | @cons a kv l1 l2 h1 h2 =>
      have e := ih (fun r hr => hk r (List.mem_cons_of_mem _ hr)) h2
      have z := hk r List.mem_cons_self
      show kv :: l2 = (.inr r.2.1, .ref r.2.2.1) :: shapesD t
      rw [e]
      congr 1
      exact Prod.ext (h1.1.trans z.1) (h1.2.trans z.2)
theorem TabsOk.detA {H : Hp} {cs : List Str} {ts : List TRow} (ok : TabsOk H cs ts) : ∀ r ∈ ts, ∀ r' ∈ ts, r.1 = r'.1 → r.2.2.1 = r'.2.2.1 := fun r hr r' hr' e => by rw [ok.det r hr r' hr' e]
section
variable {P : Program} {w : World} {K : PySem.W.Frag} {mg : Str → Option Value} {base : Heap}

def spInit (K : PySem.W.Frag) (C : Addr) : Sp := fun vs H Q _ => ∃ (p dx a b : Addr) (cs : List CRow) (ts : List TRow), vs = [.ref p, .ref a, .ref b] ∧ H p = some (.ins C dx []) ∧ Sq H a (cs.map cv) ∧ Sq H b (ts.map tv) ∧ ColsOk H cs ∧ TabsOk H (cs.map (·.2.1)) ts ∧
  ∀ H', (∀ c o, c ≠ p → H c = some o → H' c = some o) → PlanAt H' C p cs ts → Q .non H'
abbrev scSpans : Scope := { kind := .function, names := [(".0", .local), ("name", .local), ("names", .local), ("tuple", .globalImplicit), ("self", .free)], isGenerator := false, isCoroutine := false }
abbrev nInit : List Str := ["self", "columns", "tables", "name", "many", "names", "column"]
theorem sc_init : FnScope nInit ["self", "columns", "tables"] (defScope s_init) := ⟨rfl, rfl, rfl, by decide +kernel, rfl, by decide +kernel, by decide +kernel⟩
theorem ok_init {f fc ft C : Addr} {fd dc dt : FuncData} (F : Fun K "__init__" "Plan.__init__" s_init f fd) (T : Bi mg) (L : PlF K C)
    (Dc : Df K mg "are_columns" s_are_columns ["thing"] fc dc) (Gc : FnOk P w K mg base CX0 3 fc dc ["thing"] (spColumns K)) (Dt : Df K mg "are_tables" s_are_tables ["thing", "columns"] ft dt) (Gt : FnOk P w K mg base CX0 3 ft dt ["thing", "columns"] (spTables K)) :
    FnOk P w K mg base CX0 4 f fd ["self", "columns", "tables"] (spInit K C) := by
  refine F.ok sc_init (fun vs H Q E h => ?_) (fun cdv A outer s H vs Q E hr h => ?_)
  · obtain ⟨p, dx, a, b, cs, ts, rfl, _⟩ := h; rfl
  · obtain ⟨p, dx, a, b, cs, ts, rfl, hp, ha, hb, okc, okt, q⟩ := h
    have ht := T.tuple
    refine ⟨_, pss_cons (ps_if (pt_not (pt_val (pcall Dc Gc hr (pa_cons (pv 1) pa_nil)))) (pss_one ps_dead) pss_nil)
      (pss_cons (ps_if (pt_not (pt_val (pcall Dt Gt hr (pa_cons (pv 2) (pa_cons (pv 1) pa_nil))))) (pss_one ps_dead) pss_nil)
      (pss_cons (ps_fld (pv 0) (tupK K (pv 1)) rfl) (pss_cons (ps_fld (pv 0) (tupK K (pv 2)) rfl)
      (pss_cons (ps_fld (pv 0) (pe_dc (own := [("name", 3), ("many", 4)]) (g := gTup K 2 (gCons (gName 3) (gCons (gName 4) gNil))) (tt := tYes) rfl sc_init.nd (pi_either (piL K (pv 1)) (piT K (pv 1)))
          (blkOk_by (N := nInit) (sc := defScope s_init) (by decide +kernel)) (fun _ _ _ _ _ => pgT K (pg_tup rfl (pgs_cons (pg_name (i := 3) sc_init.nd rfl (Or.inl rfl)) (pgs_cons (pg_name (i := 4) sc_init.nd rfl (Or.inl rfl)) pgs_nil))))
          (fun _ _ _ _ _ => pts_nil) (fun _ _ _ _ _ => pv 3) (fun _ _ _ _ _ => pv 4)) rfl)
      (pss_cons (ps_fld (pv 0) (pe_dc (own := [("name", 3), ("names", 5)]) (g := gTup K 2 (gCons (gName 3) (gCons (gName 5) gNil))) (tt := tYes) rfl sc_init.nd (pi_either (piL K (pv 2)) (piT K (pv 2)))
          (blkOk_by (N := nInit) (sc := defScope s_init) (by decide +kernel)) (fun _ _ _ _ _ => pgT K (pg_tup rfl (pgs_cons (pg_name (i := 3) sc_init.nd rfl (Or.inl rfl)) (pgs_cons (pg_name (i := 5) sc_init.nd rfl (Or.inl rfl)) pgs_nil))))
          (fun _ _ _ _ _ => pts_nil) (fun _ _ _ _ _ => pv 3) (fun _ _ _ _ _ => pv 5)) rfl)
      (pss_one (ps_fld (pv 0) (pe_dc (own := [("name", 3), ("names", 5)]) (g := gTup K 2 (gCons (gName 3) (gCons (gName 5) gNil))) (tt := tYes) rfl sc_init.nd (pi_either (piL K (pv 2)) (piT K (pv 2)))
          (blkOk_by (N := nInit) (sc := defScope s_init) (by decide +kernel)) (fun _ _ _ _ _ => pgT K (pg_tup rfl (pgs_cons (pg_name (i := 3) sc_init.nd rfl (Or.inl rfl)) (pgs_cons (pg_name (i := 5) sc_init.nd rfl (Or.inl rfl)) pgs_nil))))
          (fun _ _ _ _ _ => pts_nil) (fun _ _ _ _ _ => pv 3)
          (fun _ _ _ _ _ => tupK K (pe_lc (own := [("column", 6)]) (g := gName 6) (tt := tYes) rfl sc_init.nd (piT K (pv 5)) (blkOk_by (N := nInit) (sc := relS scSpans (defScope s_init)) (by decide +kernel)) (fun _ _ _ _ _ => pg_name (i := 6) sc_init.nd rfl (Or.inl rfl))
            (fun _ _ _ _ _ => pts_nil) (fun _ _ _ _ _ => pe_dget (hu_of hr) (fldK K (pv 0)) (pv 6) (fun _ _ => rfl))))) rfl))))))), ?_⟩
    refine ⟨_, rfl, a, cs, rfl, ha, okc, fun H1 s1 => ⟨true, rfl, iteF ?_⟩⟩
    refine ⟨_, rfl, _, rfl, b, a, ts, cs, rfl, hb.same s1, ha.same s1, okc.same s1, okt.same s1, fun H2 s2 => ⟨true, rfl, iteF ?_⟩⟩
    have s12 := s1.trans s2
    -- what stands for good
    have sB : Same (As.rem H p) H2 := same_rem.trans s12
    have bp : As.rem H p p = none := rem_self
    have aB := ha.rem hp
    have bB := hb.rem hp
    have cB := okc.rem hp
    have tB := okt.rem hp
    have p2 := s12 _ _ hp
    generalize hBe : As.rem H p = B at sB bp aB bB cB tB
    -- self._columns, self._tables
    refine ⟨_, rfl, kTup_seq (aB.same sB) fun ct H3 s3 hct => ?_⟩
    refine ⟨_, rfl, p, C, dx, [], rfl, s3 _ _ p2, L.cl, L.aC, by decide, ?_⟩
    have ct3 := ne_ins (s3 _ _ p2) hct (fun _ _ _ z => nomatch z)
    have sB4 : Same B (upd H3 p (.ins C dx (putF (Str.ofString "_columns") (.ref ct) []))) := same_mut (sB.trans s3) bp
    have hct4 : (upd H3 p (.ins C dx (putF (Str.ofString "_columns") (.ref ct) []))) ct = some (.tup (cs.map cv)) := by rw [upd_ne ct3]; exact hct
    have p4 : (upd H3 p (.ins C dx (putF (Str.ofString "_columns") (.ref ct) []))) p = some (.ins C dx (putF (Str.ofString "_columns") (.ref ct) [])) := upd_same
    generalize (upd H3 p (.ins C dx (putF (Str.ofString "_columns") (.ref ct) []))) = H4 at sB4 hct4 p4 ⊢
    refine ⟨_, rfl, kTup_seq (bB.same sB4) fun tt H5 s5 htt => ?_⟩
    refine ⟨_, rfl, p, C, dx, _, rfl, s5 _ _ p4, L.cl, L.aT, Nat.lt_of_le_of_lt (pfl (Nat.le_refl 0)) (by decide), ?_⟩
    have tt5 := ne_ins (s5 _ _ p4) htt (fun _ _ _ z => nomatch z)
    have sB6 : Same B (upd H5 p (.ins C dx (putF (Str.ofString "_tables") (.ref tt) (putF (Str.ofString "_columns") (.ref ct) [])))) := same_mut (sB4.trans s5) bp
    have hct6 : (upd H5 p (.ins C dx (putF (Str.ofString "_tables") (.ref tt) (putF (Str.ofString "_columns") (.ref ct) [])))) ct = some (.tup (cs.map cv)) := by rw [upd_ne ct3]; exact s5 _ _ hct4
    have htt6 : (upd H5 p (.ins C dx (putF (Str.ofString "_tables") (.ref tt) (putF (Str.ofString "_columns") (.ref ct) [])))) tt = some (.tup (ts.map tv)) := by rw [upd_ne tt5]; exact htt
    have p6 : (upd H5 p (.ins C dx (putF (Str.ofString "_tables") (.ref tt) (putF (Str.ofString "_columns") (.ref ct) [])))) p = some (.ins C dx (putF (Str.ofString "_tables") (.ref tt) (putF (Str.ofString "_columns") (.ref ct) []))) := upd_same
    generalize (upd H5 p (.ins C dx (putF (Str.ofString "_tables") (.ref tt) (putF (Str.ofString "_columns") (.ref ct) [])))) = H6 at sB6 hct6 htt6 p6 ⊢
    have c6 := cB.same sB6
    have smallC : (cs.map cv).length < sizeLine := by rw [List.length_map]; exact Nat.lt_of_le_of_lt okc.len.2 (by decide)
    have smallT : (ts.map tv).length < sizeLine := by rw [List.length_map]; exact Nat.lt_of_le_of_lt okt.len.2 (by decide)
    have keyAt : ∀ r ∈ cs, rowFn cs (·.1) (fun r => (Sum.inr r.2.1 : Key)) (.inl 0) (cv r) = .inr r.2.1 := fun r hr => rowFn_at (fun r hr r' hr' e => by rw [okc.det r hr r' hr' e]) hr
    have valAt : ∀ r ∈ cs, rowFn cs (·.1) (fun r => V.int r.2.2) .non (cv r) = .int r.2.2 := fun r hr => rowFn_at (fun r hr r' hr' e => by rw [okc.det r hr r' hr' e]) hr
    have keyT : ∀ r ∈ ts, rowFn ts (·.1) (fun r => (Sum.inr r.2.1 : Key)) (.inl 0) (tv r) = .inr r.2.1 := fun r hr => rowFn_at (fun r hr r' hr' e => by rw [okt.det r hr r' hr' e]) hr
    have spanT : ∀ r ∈ ts, rowFn ts (·.1) (fun r => spanVs cs r) [] (tv r) = spanVs cs r := fun r hr => rowFn_at (fun r hr r' hr' e => by unfold spanVs; rw [okt.det r hr r' hr' e]) hr
    have ndC : ((cs.map cv).map (rowFn cs (·.1) (fun r => (Sum.inr r.2.1 : Key)) (.inl 0))).Nodup := by
      have e : (cs.map cv).map (rowFn cs (·.1) (fun r => (Sum.inr r.2.1 : Key)) (.inl 0)) = (cs.map (·.2.1)).map Sum.inr := by
        rw [List.map_map, List.map_map]; exact List.map_congr_left keyAt
      rw [e]; exact nodup_key okc.nd
    have ndT : ((ts.map tv).map (rowFn ts (·.1) (fun r => (Sum.inr r.2.1 : Key)) (.inl 0))).Nodup := by
      have e : (ts.map tv).map (rowFn ts (·.1) (fun r => (Sum.inr r.2.1 : Key)) (.inl 0)) = (ts.map (·.2.1)).map Sum.inr := by
        rw [List.map_map, List.map_map]; exact List.map_congr_left keyT
      rw [e]; exact nodup_key okt.nd
    have valT : ∀ r ∈ ts, rowFn ts (·.1) (fun r => V.ref r.2.2.1) .non (tv r) = .ref r.2.2.1 := fun r hr => rowFn_at (fun r hr r' hr' e => by rw [okt.det r hr r' hr' e]) hr
    -- self._sizes
    dsimp only [tSeq, sFld]
    refine dcE (K := K) (i := 1) (σ := L2.start nInit [.ref p, .ref a, .ref b]) (aB.same sB6) rfl smallC _ ndC (fun x v H => v = rowFn cs (·.1) (fun r => V.int r.2.2) .non x) (fun _ _ _ _ _ h => h) (fun x H7 Q1 Q2 hx s7 k => ?_) (fun sz H7 ks s7 hsz hks => ?_)
    · obtain ⟨r, hr, rfl⟩ := List.mem_map.mp hx
      refine ⟨r.1, _, rfl, tof (s7 _ _ (c6.row r hr)), rfl, _, _, rfl, _, _, rfl, rfl, rfl, ?_⟩
      refine iteT (B := Q2 H7) ⟨_, rfl, _, rfl, ?_⟩
      have key : kV (rowFn cs (·.1) (fun r => (Sum.inr r.2.1 : Key)) (.inl 0) (cv r)) = V.str r.2.1 := by rw [keyAt r hr]; rfl
      rw [← key]
      exact k _ _ (Same.refl _) (valAt r hr).symm
    rw [paired_cols (cs0 := cs) (f := fun x => x) (fun r hr => ⟨keyAt r hr, valAt r hr⟩) hks] at hsz
    refine ⟨_, rfl, p, C, dx, _, rfl, s7 _ _ p6, L.cl, L.aS, Nat.lt_of_le_of_lt (pfl (pfl (Nat.le_refl 0))) (by decide), ?_⟩
    have z7 := ne_ins (s7 _ _ p6) hsz (fun _ _ _ z => nomatch z)
    have sB8 : Same B (upd H7 p (.ins C dx (pf3 ct tt sz))) := same_mut (sB6.trans s7) bp
    have hct8 : (upd H7 p (.ins C dx (pf3 ct tt sz))) ct = some (.tup (cs.map cv)) := by rw [upd_ne ct3]; exact s7 _ _ hct6
    have htt8 : (upd H7 p (.ins C dx (pf3 ct tt sz))) tt = some (.tup (ts.map tv)) := by rw [upd_ne tt5]; exact s7 _ _ htt6
    have hsz8 : (upd H7 p (.ins C dx (pf3 ct tt sz))) sz = some (.dK (colsD cs)) := by rw [upd_ne z7]; exact hsz
    have p8 : (upd H7 p (.ins C dx (pf3 ct tt sz))) p = some (.ins C dx (pf3 ct tt sz)) := upd_same
    have e8 : upd H7 p (.ins C dx (putF (Str.ofString "_sizes") (.ref sz) (putF (Str.ofString "_tables") (.ref tt) (putF (Str.ofString "_columns") (.ref ct) [])))) = upd H7 p (.ins C dx (pf3 ct tt sz)) := rfl
    rw [e8]
    generalize (upd H7 p (.ins C dx (pf3 ct tt sz))) = H8 at sB8 hct8 htt8 hsz8 p8 ⊢
    -- self._shapes
    have t8 := tB.same sB8
    refine dcE (K := K) (i := 2) (σ := L2.start nInit [.ref p, .ref a, .ref b]) (bB.same sB8) rfl smallT _ ndT (fun x v H => v = rowFn ts (·.1) (fun r => V.ref r.2.2.1) .non x) (fun _ _ _ _ _ h => h) (fun x H9 Q1 Q2 hx s9 k => ?_) (fun sh H9 ks9 s9 hsh hks9 => ?_)
    · obtain ⟨r, hr, rfl⟩ := List.mem_map.mp hx
      refine ⟨r.1, _, rfl, tof (s9 _ _ (t8.row r hr)), rfl, _, _, rfl, _, _, rfl, rfl, rfl, ?_⟩
      refine iteT (B := Q2 H9) ⟨_, rfl, _, rfl, ?_⟩
      have key : kV (rowFn ts (·.1) (fun r => (Sum.inr r.2.1 : Key)) (.inl 0) (tv r)) = V.str r.2.1 := by rw [keyT r hr]; rfl
      rw [← key]
      exact k _ _ (Same.refl _) (valT r hr).symm
    rw [paired_shapes (fun r hr => ⟨keyT r hr, valT r hr⟩) hks9] at hsh
    refine ⟨_, rfl, p, C, dx, _, rfl, s9 _ _ p8, L.cl, L.aH, Nat.lt_of_le_of_lt (pfl (pfl (pfl (Nat.le_refl 0)))) (by decide), ?_⟩
    have z9 := ne_ins (s9 _ _ p8) hsh (fun _ _ _ z => nomatch z)
    have z8 := ne_ins p8 hsz8 (fun _ _ _ z => nomatch z)
    have sBA : Same B (upd H9 p (.ins C dx (pf4 ct tt sz sh))) := same_mut (sB8.trans s9) bp
    have hctA : (upd H9 p (.ins C dx (pf4 ct tt sz sh))) ct = some (.tup (cs.map cv)) := by rw [upd_ne ct3]; exact s9 _ _ hct8
    have httA : (upd H9 p (.ins C dx (pf4 ct tt sz sh))) tt = some (.tup (ts.map tv)) := by rw [upd_ne tt5]; exact s9 _ _ htt8
    have hszA : (upd H9 p (.ins C dx (pf4 ct tt sz sh))) sz = some (.dK (colsD cs)) := by rw [upd_ne z8]; exact s9 _ _ hsz8
    have hshA : (upd H9 p (.ins C dx (pf4 ct tt sz sh))) sh = some (.dK (shapesD ts)) := by rw [upd_ne z9]; exact hsh
    have pA : (upd H9 p (.ins C dx (pf4 ct tt sz sh))) p = some (.ins C dx (pf4 ct tt sz sh)) := upd_same
    have eA : upd H9 p (.ins C dx (putF (Str.ofString "_shapes") (.ref sh) (pf3 ct tt sz))) = upd H9 p (.ins C dx (pf4 ct tt sz sh)) := rfl
    rw [eA]
    generalize (upd H9 p (.ins C dx (pf4 ct tt sz sh))) = HA at sBA hctA httA hszA hshA pA ⊢
    -- self._spans
    have tA := tB.same sBA
    refine dcE (K := K) (i := 2) (σ := L2.start nInit [.ref p, .ref a, .ref b]) (bB.same sBA) rfl smallT _ ndT (fun x v H => ∃ q, v = V.ref q ∧ H q = some (.tup (rowFn ts (·.1) (fun r => spanVs cs r) [] x))) (fun x v H H' e ⟨q, h1, h2⟩ => ⟨q, h1, e _ _ h2⟩) (fun x H9 Q1 Q2 hx s9 k => ?_) (fun sp H9 ks s9 hsp hks => ?_)
    · obtain ⟨r, hr, rfl⟩ := List.mem_map.mp hx
      have t9 := tA.same s9
      refine ⟨r.1, _, rfl, tof (t9.row r hr), rfl, _, _, rfl, _, _, rfl, rfl, rfl, ?_⟩
      refine iteT (B := Q2 H9) ⟨_, rfl, ?_⟩
      have hq := t9.prt r hr
      have key : kV (rowFn ts (·.1) (fun r => (Sum.inr r.2.1 : Key)) (.inl 0) (tv r)) = V.str r.2.1 := by rw [keyT r hr]; rfl
      refine ⟨_, rfl, r.2.2.1, rfl, ⟨_, tof hq⟩, fun D hD => lc_same (B := H9) walk_tup rfl (Same.refl H9) hD (fun H e => tof (e _ _ hq)) (by rw [List.length_map]; exact Nat.lt_of_le_of_lt (okt.two r hr).2 (by decide))
        (fun y => match y with | .str c => some (sizeV cs c) | _ => none) (fun y H10 Q3 Q4 hy s10 k1 k2 => ?_) (fun H10 s10 hD10 => ?_)⟩
      · obtain ⟨c, hc, rfl⟩ := List.mem_map.mp hy
        refine ⟨rfl, ?_⟩
        refine iteT (B := Q4 H10) ?_
        obtain ⟨v, hv⟩ := valV_cols (okt.own r hr c hc)
        have sv : sizeV cs c = v := by unfold sizeV; rw [hv]; rfl
        refine ⟨_, rfl, p, C, dx, _, _, rfl, s10 _ _ (s9 _ _ pA), L.cl, L.aS, pf4_S, _, rfl, sz, v, rfl, ?_, k1 v _ (by show some (sizeV cs c) = _; rw [sv]) (Same.refl _)⟩
        have g := DGet.k (k := Sum.inr c) (s10 _ _ (s9 _ _ hszA))
        rw [hv] at g
        exact g
      · refine kTup_seq (.inl hD10) fun q H11 s11 hq11 => ?_
        rw [← key]
        refine k _ _ (s10.trans s11) ⟨q, rfl, ?_⟩
        rw [hq11, spanT r hr]
        congr 2
        rw [List.filterMap_map]
        unfold spanVs
        rw [← filterMap_some]; rfl
    refine ⟨_, rfl, p, C, dx, _, rfl, s9 _ _ pA, L.cl, L.aP, Nat.lt_of_le_of_lt (pfl (pfl (pfl (pfl (Nat.le_refl 0))))) (by decide), q _ (fun c o hc e => ?_) ?_⟩
    · rw [upd_ne hc]
      exact (sBA.trans s9) _ _ (by rw [← hBe, rem_ne hc]; exact e)
    · have p9 := s9 _ _ pA
      have up : ∀ {c : Addr} {o : HO}, H9 c = some o → (∀ C dx fs, o ≠ .ins C dx fs) → (upd H9 p (.ins C dx (pf ct tt sz sp sh))) c = some o := fun {c o} h n => by rw [upd_ne (ne_ins p9 h n)]; exact h
      refine ⟨dx, ct, tt, sz, sp, sh, ks, upd_same, up (s9 _ _ hctA) (fun _ _ _ z => nomatch z), up (s9 _ _ httA) (fun _ _ _ z => nomatch z), up (s9 _ _ hszA) (fun _ _ _ z => nomatch z), up hsp (fun _ _ _ z => nomatch z), up (s9 _ _ hshA) (fun _ _ _ z => nomatch z), ?_⟩
      refine paired_rows (R := fun x v => ∃ q, v = .ref q ∧ H9 q = some (.tup (rowFn ts (·.1) (fun r => spanVs cs r) [] x))) (S := fun r v => ∃ q, v = .ref q ∧ (upd H9 p (.ins C dx (pf ct tt sz sp sh))) q = some (.tup (spanVs cs r))) (fun r hr => ⟨keyT r hr, fun v hv => ?_⟩) hks
      obtain ⟨q, e, hq⟩ := hv
      rw [spanT r hr] at hq
      exact ⟨q, e, up hq (fun _ _ _ z => nomatch z)⟩
end
end As

/-! ## B6 -/
namespace As
open PySem PySem.Spec PyProof.Rows L2
theorem dk_get {H : Hp} {d : Addr} {kvs : List (Key × V)} {z : Str} (h : H d = some (.dK kvs)) : DGet H d (.str z) (valV kvs (.inr z)) := DGet.k (k := Sum.inr z) h
section
variable {P : Program} {w : World} {K : PySem.W.Frag} {mg : Str → Option Value} {base : Heap}
/-- a value of another type than str -/
def NoStr (K : PySem.W.Frag) (H : Hp) (x : V) : Prop := ∃ t, TyX K H x t ∧ PySem.W.kitOne K t (.type "str") = some false
def spSizeOf (K : PySem.W.Frag) (C : Addr) : Sp := fun vs H Q _ => ∃ (p : Addr) (x : V) (cs : List CRow) (ts : List TRow), vs = [.ref p, x] ∧ PlanAt H C p cs ts ∧ ((∃ z, x = .str z ∧ Q (sizeV cs z) H) ∨ (NoStr K H x ∧ Q .non H))
/-- the row of a table -/
def tabOf (ts : List TRow) (z : Str) : Option TRow := ts.find? fun r => decide (r.2.1 = z)
theorem paired_find {ts : List TRow} {S : TRow → V → Prop} {z : Str} : ∀ {kvs : List (Key × V)}, Paired (fun (r : TRow) (kv : Key × V) => kv.1 = .inr r.2.1 ∧ S r kv.2) ts kvs →
    (tabOf ts z = none ∧ valV kvs (.inr z) = none) ∨ ∃ r v, tabOf ts z = some r ∧ valV kvs (.inr z) = some v ∧ S r v := by
  induction ts with
  | nil => intro kvs h; cases h; exact .inl ⟨rfl, rfl⟩
  | cons r t ih =>
    intro kvs h
    cases h with
    | @cons a kv l1 l2 h1 h2 =>
      obtain ⟨k, v⟩ := kv
      obtain ⟨rfl, hv⟩ := h1
      by_cases e : r.2.1 = z
      · refine .inr ⟨r, v, ?_, ?_, hv⟩
        · unfold tabOf; rw [List.find?_cons]; simp [e]
        · unfold valV; rw [List.find?_cons]; simp [e]
      · have e1 : tabOf (r :: t) z = tabOf t z := by unfold tabOf; rw [List.find?_cons]; simp [e]
        have e2 : valV ((.inr r.2.1, v) :: l2) (.inr z : Key) = valV l2 (.inr z) := by
          unfold valV; rw [List.find?_cons]
          have : ¬ ((.inr r.2.1 : Key) = .inr z) := fun q => e (by injection q)
          simp [this]
        rw [e1, e2]
        exact ih h2
def spSpans (K : PySem.W.Frag) (C : Addr) : Sp := fun vs H Q _ => ∃ (p : Addr) (x : V) (cs : List CRow) (ts : List TRow), vs = [.ref p, x] ∧ PlanAt H C p cs ts ∧
  ((∃ z, x = .str z ∧ (tabOf ts z = none → Q .non H) ∧ ∀ r q, tabOf ts z = some r → H q = some (.tup (spanVs cs r)) → Q (.ref q) H) ∨ (NoStr K H x ∧ Q .non H))
theorem sc_spans : FnScope ["self", "table"] ["self", "table"] (defScope s_spans) := ⟨rfl, rfl, rfl, by decide +kernel, rfl, by decide +kernel, by decide +kernel⟩
theorem ok_spans {f C : Addr} {fd : FuncData} (F : Fun K "spans" "Plan.spans" s_spans f fd) (T : Bi mg) (L : PlF K C) : FnOk P w K mg base CX0 1 f fd ["self", "table"] (spSpans K C) := by
  refine F.ok sc_spans (fun vs H Q E h => ?_) (fun cdv A outer s H vs Q E hr h => ?_)
  · obtain ⟨p, x, cs, ts, rfl, _⟩ := h; rfl
  · obtain ⟨p, x, cs, ts, rfl, ⟨dx, ct, tt, sz, sp, sh, ks, h1, h2, h3, h4, h5, hs, h6⟩, q⟩ := h
    refine ⟨_, pss_cons (ps_if (pt_not (pt_val (pe_callB call_isi (by rfl) T.isinst (by decide +kernel) (pa_cons (pv 1) (pa_cons (pe_bltn (v := .ty "str") (by rfl) T.str (by decide +kernel) rfl) pa_nil))))) (pss_one (ps_ret pe_non)) pss_nil)
      (pss_one (ps_ret (pe_dget1 (hu_of hr) (pe_fld (pv 0) rfl) (pv 1) ⟨rfl, rfl, rfl, rfl⟩))), ?_⟩
    rcases q with ⟨z, rfl, q0, q1⟩ | ⟨⟨t, ty, k⟩, q⟩
    · refine ⟨_, rfl, _, _, _, _, true, rfl, .ty "str", .base (.str z), kstr_str, true, rfl, iteF ?_⟩
      refine ⟨_, rfl, p, C, dx, _, _, rfl, h1, L.cl, L.aP, pf_P, sp, rfl, .inl ⟨_, .inl h5⟩, _, rfl, _, dk_get h5, ?_⟩
      rcases paired_find (z := z) (S := fun r v => ∃ q, v = .ref q ∧ H q = some (.tup (spanVs cs r))) h6 with ⟨e1, e2⟩ | ⟨r, v, e1, e2, q, rfl, hq⟩
      · rw [e2]; exact q0 e1
      · rw [e2]; exact q1 r q e1 hq
    · exact ⟨_, rfl, _, _, t, _, false, rfl, .ty "str", ty, k, false, rfl, iteT q⟩

/-- the number of sides of a table, or None -/
def sidesV (ts : List TRow) (z : Str) : V := match tabOf ts z with | some r => .int (r.2.2.2.length : Nat) | none => .non
def spSides (K : PySem.W.Frag) (C : Addr) : Sp := fun vs H Q _ => ∃ (p : Addr) (x : V) (cs : List CRow) (ts : List TRow), vs = [.ref p, x] ∧ PlanAt H C p cs ts ∧ ((∃ z, x = .str z ∧ Q (sidesV ts z) H) ∨ (NoStr K H x ∧ Q .non H))
end
end As

/-! ## A6 -/
namespace As
open PySem PySem.Spec PyProof.Rows L2
theorem name_ok {z : Str} (h : nameB z = true) : PyData.strOk z = true := by
  unfold nameB at h
  rw [Bool.and_eq_true] at h
  have h2 := h.2
  rw [List.all_eq_true] at h2
  unfold PyData.strOk
  rw [Array.all_eq_true_iff_forall_mem]
  intro c hc
  have h3 := h2 c (Array.mem_toList_iff.mpr hc)
  unfold letter at h3
  rw [Bool.and_eq_true] at h3
  have h4 := of_decide_eq_true h3.2
  exact decide_eq_true (by omega)
def colD (c : Str × Int) : PyData := .tuple [.str c.1, .int c.2]
def tabD (c : Str × List Str) : PyData := .tuple [.str c.1, .tuple (c.2.map .str)]
section
open PyData
theorem strs_lay : ∀ {xs : List Str}, (∀ x ∈ xs, strOk x = true) → canLayAll0 (xs.map .str) = true
  | [], _ => by simp [canLayAll0]
  | x :: xs, h => by
    have h1 := strs_lay fun y hy => h y (List.mem_cons_of_mem _ hy)
    have h2 := h x List.mem_cons_self
    simp [canLayAll0, canLay0, h1, h2]
theorem strs_depth : ∀ {xs : List Str}, depthAll (xs.map .str) = 0
  | [] => by simp [depthAll]
  | x :: xs => by simp [depthAll, depth, strs_depth (xs := xs)]
theorem cols_lay : ∀ {xs : List (Str × Int)}, (∀ x ∈ xs, strOk x.1 = true) → canLayAll0 (xs.map colD) = true
  | [], _ => by simp [canLayAll0]
  | x :: xs, h => by
    have h1 := cols_lay fun y hy => h y (List.mem_cons_of_mem _ hy)
    have h2 := h x List.mem_cons_self
    simp [canLayAll0, canLay0, colD, h2] at h1 ⊢
    exact h1
theorem cols_depth : ∀ {xs : List (Str × Int)}, depthAll (xs.map colD) ≤ 1
  | [] => by simp [depthAll]
  | x :: xs => by
    have h1 := cols_depth (xs := xs)
    have h2 : depth (colD x) = 1 := by simp [depth, depthAll, colD]
    simp only [List.map_cons, depthAll]
    omega
theorem tabs_lay : ∀ {xs : List (Str × List Str)}, (∀ x ∈ xs, strOk x.1 = true ∧ ∀ y ∈ x.2, strOk y = true) → canLayAll0 (xs.map tabD) = true
  | [], _ => by simp [canLayAll0]
  | x :: xs, h => by
    have h1 := tabs_lay fun y hy => h y (List.mem_cons_of_mem _ hy)
    have h2 := h x List.mem_cons_self
    have h3 := strs_lay h2.2
    have e : canLay0 (tabD x) = true := by
      show canLay0 (.tuple [.str x.1, .tuple (x.2.map .str)]) = true
      simp only [canLay0, canLayAll0, h2.1, h3, Bool.and_true]
    simp only [List.map_cons, canLayAll0, e, h1, Bool.and_true]
theorem tabs_depth : ∀ {xs : List (Str × List Str)}, depthAll (xs.map tabD) ≤ 2
  | [] => by simp [depthAll]
  | x :: xs => by
    have h1 := tabs_depth (xs := xs)
    have h2 : depth (tabD x) ≤ 2 := by
      have h3 := strs_depth (xs := x.2)
      show depth (.tuple [.str x.1, .tuple (x.2.map .str)]) ≤ 2
      simp only [depth, depthAll, h3]
      omega
    simp only [List.map_cons, depthAll]
    omega
theorem shaped_tup {ds : List PyData} (h1 : canLayAll0 ds = true) (h2 : depthAll ds ≤ 2) : SeqAt.shaped (.tuple ds) = true := by
  show (canLay0 (.tuple ds) && decide (depth (.tuple ds) ≤ 64)) = true
  rw [Bool.and_eq_true]
  exact ⟨by simp only [canLay0]; exact h1, decide_eq_true (by simp only [depth]; omega)⟩
theorem shaped_lst {ds : List PyData} (h1 : canLayAll0 ds = true) (h2 : depthAll ds ≤ 2) : SeqAt.shaped (.list ds) = true := by
  show (canLay0 (.list ds) && decide (depth (.list ds) ≤ 64)) = true
  rw [Bool.and_eq_true]
  exact ⟨by simp only [canLay0]; exact h1, decide_eq_true (by simp only [depth]; omega)⟩
theorem eqvAll_dec {α : Type} [DecidableEq α] {f : α → PyData} (h : ∀ a b, eqv (f a) (f b) = decide (a = b)) : ∀ {xs ys : List α}, eqvAll (xs.map f) (ys.map f) = decide (xs = ys)
  | [], [] => by simp [eqvAll]
  | [], _ :: _ => by simp [eqvAll]
  | _ :: _, [] => by simp [eqvAll]
  | x :: xs, y :: ys => by
    simp only [List.map_cons, eqvAll, h, eqvAll_dec h]
    by_cases e : x = y
    · subst e; simp
    · simp [e]
theorem eqv_str (a b : Str) : eqv (.str a) (.str b) = decide (a = b) := by
  simp only [eqv]
  by_cases h : a = b
  · subst h; simp
  · rw [decide_eq_false h]; exact beq_eq_false_iff_ne.mpr h
theorem eqv_col (a b : Str × Int) : eqv (colD a) (colD b) = decide (a = b) := by
  obtain ⟨x, i⟩ := a
  obtain ⟨y, j⟩ := b
  have e : eqv (colD (x, i)) (colD (y, j)) = (eqv (.str x) (.str y) && ((i == j) && true)) := by simp only [colD, eqv, eqvAll]
  rw [e, eqv_str]
  by_cases h : x = y
  · subst h
    by_cases h2 : i = j
    · subst h2; simp
    · simp [h2]
  · simp [h]
theorem eqv_tab (a b : Str × List Str) : eqv (tabD a) (tabD b) = decide (a = b) := by
  obtain ⟨x, xs⟩ := a
  obtain ⟨y, ys⟩ := b
  have e : eqv (tabD (x, xs)) (tabD (y, ys)) = (eqv (.str x) (.str y) && (eqvAll (xs.map .str) (ys.map .str) && true)) := by simp only [tabD, eqv, eqvAll]
  rw [e, eqv_str, eqvAll_dec eqv_str]
  by_cases h : x = y
  · subst h
    by_cases h2 : xs = ys
    · subst h2; simp
    · simp [h2]
  · simp [h]
theorem eqv_tup {α : Type} [DecidableEq α] {f : α → PyData} (h : ∀ a b, eqv (f a) (f b) = decide (a = b)) {xs ys : List α} : eqv (.tuple (xs.map f)) (.tuple (ys.map f)) = decide (xs = ys) := by
  simp only [eqv]; exact eqvAll_dec h
theorem eqv_lst {α : Type} [DecidableEq α] {f : α → PyData} (h : ∀ a b, eqv (f a) (f b) = decide (a = b)) {xs ys : List α} : eqv (.list (xs.map f)) (.list (ys.map f)) = decide (xs = ys) := by
  simp only [eqv]; exact eqvAll_dec h
end
section
variable {K : PySem.W.Frag} {H : Hp}
theorem dp_strs : ∀ {xs : List Str}, DpAll K H (xs.map V.str) (xs.map .str)
  | [] => .nil
  | x :: _ => .cons (.str x) dp_strs
theorem dp_cols : ∀ {cs : List CRow}, (∀ r ∈ cs, H r.1 = some (.tup [.str r.2.1, .int r.2.2])) → DpAll K H (cs.map cv) ((cs.map (·.2)).map colD)
  | [], _ => .nil
  | r :: _, h => .cons (.tup (tof (h r List.mem_cons_self)) (.cons (.str _) (.cons (.int _) .nil))) (dp_cols fun x hx => h x (List.mem_cons_of_mem _ hx))
def tkey (r : TRow) : Str × List Str := (r.2.1, r.2.2.2)
theorem dp_tabs : ∀ {ts : List TRow}, (∀ r ∈ ts, H r.1 = some (.tup [.str r.2.1, .ref r.2.2.1])) → (∀ r ∈ ts, H r.2.2.1 = some (.tup (r.2.2.2.map V.str))) → DpAll K H (ts.map tv) ((ts.map tkey).map tabD)
  | [], _, _ => .nil
  | r :: _, h, h2 => .cons (.tup (tof (h r List.mem_cons_self)) (.cons (.str _) (.cons (.tup (tof (h2 r List.mem_cons_self)) dp_strs) .nil))) (dp_tabs (fun x hx => h x (List.mem_cons_of_mem _ hx)) fun x hx => h2 x (List.mem_cons_of_mem _ hx))
theorem cols_ok {cs : List CRow} (ok : ColsOk H cs) : PyData.canLayAll0 ((cs.map (·.2)).map colD) = true := cols_lay fun x hx => by
  obtain ⟨r, hr, rfl⟩ := List.mem_map.mp hx
  exact name_ok (ok.nm r hr)
theorem tabs_ok {cs : List CRow} {ts : List TRow} (okc : ColsOk H cs) (ok : TabsOk H (cs.map (·.2.1)) ts) : PyData.canLayAll0 ((ts.map tkey).map tabD) = true := tabs_lay fun x hx => by
  obtain ⟨r, hr, rfl⟩ := List.mem_map.mp hx
  refine ⟨name_ok (ok.nm r hr), fun y hy => ?_⟩
  obtain ⟨c, hc, rfl⟩ := List.mem_map.mp (ok.own r hr y hy)
  exact name_ok (okc.nm c hc)
/-- two tuples of columns, two lists of columns, compared -/
theorem cmp_colsT {cs cs' : List CRow} {a b : Addr} {Q : VK} (h : H a = some (.tup (cs.map cv))) (h' : H b = some (.tup (cs'.map cv))) (ok : ColsOk H cs) (ok' : ColsOk H cs') (q : Q (.bl (decide (cs.map (·.2) = cs'.map (·.2)))) H) : rEqD K (.ref a) (.ref b) H Q :=
  ⟨_, _, .tup (tof h) (dp_cols ok.row), .tup (tof h') (dp_cols ok'.row), shaped_tup (cols_ok ok) (Nat.le_trans cols_depth (by decide)), shaped_tup (cols_ok ok') (Nat.le_trans cols_depth (by decide)), by rw [eqv_tup eqv_col]; exact q⟩
theorem cmp_tabsT {cs cs' : List CRow} {ts ts' : List TRow} {a b : Addr} {Q : VK} (h : H a = some (.tup (ts.map tv))) (h' : H b = some (.tup (ts'.map tv))) (okc : ColsOk H cs) (okc' : ColsOk H cs') (ok : TabsOk H (cs.map (·.2.1)) ts) (ok' : TabsOk H (cs'.map (·.2.1)) ts')
    (q : Q (.bl (decide (ts.map tkey = ts'.map tkey))) H) : rEqD K (.ref a) (.ref b) H Q :=
  ⟨_, _, .tup (tof h) (dp_tabs ok.row ok.prt), .tup (tof h') (dp_tabs ok'.row ok'.prt), shaped_tup (tabs_ok okc ok) tabs_depth, shaped_tup (tabs_ok okc' ok') tabs_depth, by rw [eqv_tup eqv_tab]; exact q⟩
end
end As

/-! ## B7p -/
namespace As
open PySem PySem.Spec PyProof.Rows L2
section
variable {P : Program} {w : World} {K : PySem.W.Frag} {mg : Str → Option Value} {base : Heap}
/-- the two properties -/
theorem sc_pcols : FnScope ["self"] ["self"] (defScope s_columns) := ⟨rfl, rfl, rfl, by decide +kernel, rfl, by decide +kernel, by decide +kernel⟩
theorem sc_ptabs : FnScope ["self"] ["self"] (defScope s_tables) := ⟨rfl, rfl, rfl, by decide +kernel, rfl, by decide +kernel, by decide +kernel⟩
theorem ok_pcols {f C : Addr} {fd : FuncData} (F : Fun K "columns" "Plan.columns" s_columns f fd) (L : PlF K C) : FnOk P w K mg base CX0 1 f fd ["self"] (getSp C (Str.ofString "_columns")) := by
  refine F.ok sc_pcols (fun vs H Q E h => ?_) (fun cdv A outer s H vs Q E hr h => ?_)
  · obtain ⟨a, dx, fs, v, rfl, _⟩ := h; rfl
  · obtain ⟨a, dx, fs, v, rfl, ea, l, q⟩ := h
    exact ⟨_, pss_one (ps_ret (pe_fld (pv 0) rfl)), _, rfl, a, C, dx, fs, v, rfl, ea, L.cl, L.aC, l, q⟩
theorem ok_ptabs {f C : Addr} {fd : FuncData} (F : Fun K "tables" "Plan.tables" s_tables f fd) (L : PlF K C) : FnOk P w K mg base CX0 1 f fd ["self"] (getSp C (Str.ofString "_tables")) := by
  refine F.ok sc_ptabs (fun vs H Q E h => ?_) (fun cdv A outer s H vs Q E hr h => ?_)
  · obtain ⟨a, dx, fs, v, rfl, _⟩ := h; rfl
  · obtain ⟨a, dx, fs, v, rfl, ea, l, q⟩ := h
    exact ⟨_, pss_one (ps_ret (pe_fld (pv 0) rfl)), _, rfl, a, C, dx, fs, v, rfl, ea, L.cl, L.aT, l, q⟩
end
end As

/-! ## B6t -/
namespace As
open PySem PySem.Spec PyProof.Rows L2
section
variable {P : Program} {w : World} {K : PySem.W.Frag} {mg : Str → Option Value} {base : Heap}
theorem sc_sides : FnScope ["self", "table", "spans"] ["self", "table"] (defScope s_sides) := ⟨rfl, rfl, rfl, by decide +kernel, rfl, by decide +kernel, by decide +kernel⟩
theorem ok_sides {f fs C : Addr} {fd ds : FuncData} (F : Fun K "sides" "Plan.sides" s_sides f fd) (T : Bi mg) (L : PlF K C) (Fs : Fun K "spans" "Plan.spans" s_spans fs ds) (bs : Binds K ds ["self", "table"] []) (ms : Meth K C "spans" fs) :
    FnOk P w K mg base CX0 2 f fd ["self", "table"] (spSides K C) := by
  have Gs : FnOk P w K mg base CX0 1 fs ds ["self", "table"] (spSpans K C) := ok_spans Fs T L
  refine F.ok sc_sides (fun vs H Q E h => ?_) (fun cdv A outer s H vs Q E hr h => ?_)
  · obtain ⟨p, x, cs, ts, rfl, _⟩ := h; rfl
  · obtain ⟨p, x, cs, ts, rfl, pl, q⟩ := h
    obtain ⟨dx, ct, tt, sz, sp, sh, ks, h1, _⟩ := id pl
    refine ⟨_, pss_cons (ps_set (i := 2) sc_sides.nd rfl (Or.inl rfl) (pe_meth (pv 0) L.cl ms Gs hr bs .nil pass0 (pa_cons (pv 1) pa_nil)))
      (pss_cons (ps_if (pt_cmp (pc_isN (pv 2))) (pss_one (ps_ret pe_non)) pss_nil)
      (pss_one (ps_ret (pe_callB call_len_seq (by rfl) T.len PySem.boot_len (pa_cons (pv 2) pa_nil))))), ?_⟩
    have no : (pf ct tt sz sp sh).lookup (Str.ofString "spans") = none := pf_no (by decide +kernel) (by decide +kernel) (by decide +kernel) (by decide +kernel) (by decide +kernel)
    refine ⟨_, rfl, p, dx, _, rfl, h1, no, _, rfl, p, x, cs, ts, rfl, pl, ?_⟩
    rcases q with ⟨z, rfl, q⟩ | ⟨ns, q⟩
    · refine .inl ⟨z, rfl, fun e => ?_, fun r a e ha => ?_⟩
      · refine ⟨_, rfl, true, rfl, iteT ?_⟩
        have z' : sidesV ts z = .non := by unfold sidesV; rw [e]
        rw [z'] at q
        exact q
      · refine ⟨_, rfl, false, rfl, iteF ⟨_, rfl, a, _, rfl, .inr (tof ha), ?_⟩⟩
        have z' : sidesV ts z = .int ((spanVs cs r).length : Nat) := by unfold sidesV; rw [e]; unfold spanVs; rw [List.length_map]
        rw [z'] at q
        exact q
    · exact .inr ⟨ns, _, rfl, true, rfl, iteT q⟩
end
end As

/-! ## B7 -/
namespace As
open PySem PySem.Spec PyProof.Rows L2
/-- isinstance of the class -/
structure IsC (K : PySem.W.Frag) (C : Addr) : Prop where
  ha : PySem.W.findIn K (.ref C) "__class__" = some (some (.builtin "object.__class__"))
  hn : PySem.W.specialIn K (.builtin "object.__class__") "__get__" = some (some (.builtin "getset_descriptor.__get__"))
  htk : PySem.W.takesIn K (.builtin "object.__class__") = some true
  hm : PySem.W.mroIn K C (.type "object") = some true
  lst : PySem.W.kitOne K (.type "list") (.ref C) = some false
theorem kit_self {K : PySem.W.Frag} {C : Addr} : PySem.W.kitOne K (.ref C) (.ref C) = some true := by
  unfold PySem.W.kitOne
  rw [if_pos (by simp)]
section
variable {P : Program} {w : World} {K : PySem.W.Frag} {mg : Str → Option Value} {base : Heap}
/-- two plans compared, or a plan and a list -/
def spEqP (C : Addr) : Sp := fun vs H Q _ => ∃ (p b : Addr) (cs : List CRow) (ts : List TRow), vs = [.ref p, .ref b] ∧ PlanAt H C p cs ts ∧ ColsOk H cs ∧ TabsOk H (cs.map (·.2.1)) ts ∧
  ((∃ cs' ts', PlanAt H C b cs' ts' ∧ ColsOk H cs' ∧ TabsOk H (cs'.map (·.2.1)) ts' ∧ Q (.bl (decide (cs.map (·.2) = cs'.map (·.2)) && decide (ts.map tkey = ts'.map tkey))) H) ∨ ((∃ zs, H b = some (.lst zs)) ∧ Q (.bl false) H))
theorem sc_eq : FnScope ["self", "other"] ["self", "other"] (defScope s_eq) := ⟨rfl, rfl, rfl, by decide +kernel, rfl, by decide +kernel, by decide +kernel⟩
theorem ok_eq {f C : Addr} {fd : FuncData} (F : Fun K "__eq__" "Plan.__eq__" s_eq f fd) (T : Bi mg) (L : PlF K C) (G : IsC K C) (hC : mg "Plan" = some (.ref C)) : FnOk P w K mg base CX0 1 f fd ["self", "other"] (spEqP C) := by
  refine F.ok sc_eq (fun vs H Q E h => ?_) (fun cdv A outer s H vs Q E hr h => ?_)
  · obtain ⟨p, b, cs, ts, rfl, _⟩ := h; rfl
  · obtain ⟨p, b, cs, ts, rfl, ⟨dx, ct, tt, sz, sp, sh, ks, h1, h2, h3, h4, h5, hs, h6⟩, okc, okt, q⟩ := h
    refine ⟨_, pss_one (ps_ret (pe_and (pe_callB call_isi (by rfl) T.isinst (by decide +kernel) (pa_cons (pv 1) (pa_cons (pe_glob (v := .ref C) rfl hC rfl) pa_nil)))
      (pe_and (pe_cmpR (op_eqD (hu64 hr)) (pe_fld (pv 0) rfl) (pe_fld (pv 1) rfl) (nomark _)) (pe_one (pe_cmpR (op_eqD (hu64 hr)) (pe_fld (pv 0) rfl) (pe_fld (pv 1) rfl) (nomark _)))))), ?_⟩
    rcases q with ⟨cs', ts', ⟨dx', ct', tt', sz', sp', sh', ks', g1, g2, g3, g4, g5, gs, g6⟩, okc', okt', q⟩ | ⟨⟨zs, hb⟩, q⟩
    · refine ⟨_, rfl, _, _, .ref C, _, true, rfl, .own C, .base (.ins g1 L.cl G.ha G.hn G.htk G.hm), kit_self, true, rfl, iteT ?_⟩
      refine ⟨_, rfl, p, C, dx, _, _, rfl, h1, L.cl, L.aC, pf_C, _, rfl, b, C, dx', _, _, rfl, g1, L.cl, L.aC, pf_C, cmp_colsT h2 g2 okc okc' ⟨_, rfl, ?_⟩⟩
      cases hd : decide (cs.map (·.2) = cs'.map (·.2)) with
      | false =>
        rw [hd] at q
        exact iteF q
      | true =>
        rw [hd, Bool.true_and] at q
        exact iteT ⟨_, rfl, p, C, dx, _, _, rfl, h1, L.cl, L.aT, pf_T, _, rfl, b, C, dx', _, _, rfl, g1, L.cl, L.aT, pf_T, cmp_tabsT h3 g3 okc okc' okt okt' q⟩
    · exact ⟨_, rfl, _, _, .type "list", _, false, rfl, .own C, .base (.lst hb), G.lst, false, rfl, iteF q⟩
end
end As

/-! ## A13 -/
set_option maxHeartbeats 2000000
namespace As
open PySem PySem.Spec PyProof.Rows L2
/-- an error of the class cls, with d as its own dict -/
def ExcO (a : Addr) (cls : Value) (d : Option Addr) : HO := .ext fun h => ∃ oe vs, h.get? a = some oe ∧ Zc cls d oe ∧ oe.data = .fields vs
section
variable {X : Cx} {pins : List (Addr × Obj)} {σ : List (Option V)} {H : Hp} {s : Shared}
theorem inv_tell {a : Addr} {oe : Obj} {cls : Value} {d : Option Addr} (I : Inv X ((a, oe) :: pins) σ H s) (hs0 : X.s_0.heap.get? a = none) (np : ∀ p ∈ X.pn ++ pins, p.1 ≠ a) (hz : Zc cls d oe) (hd : ∃ vs, oe.data = .fields vs) : Inv X pins σ (upd H a (ExcO a cls d)) s := by
  obtain ⟨g1, g2, g3, g4, g5⟩ := I.pin (a, oe) (List.mem_append_right _ List.mem_cons_self)
  dsimp only at g1 g2 g3 g4 g5
  refine ⟨I.ok, I.os, I.bare, ⟨I.base.keep, I.base.slot, fun b o e n hx => ?_, I.base.there, fun b xs e => ?_, fun b o u e => ?_, fun b ps e => ?_⟩, I.loc, I.cell, ?_, fun x c e => ?_, fun p hp => ?_, fun b o e => ?_, I.len⟩
  · rw [upd_ne (fun z => by subst z; rw [hs0] at e; cases e)]; exact I.base.free b o e n hx
  · have q := I.base.tups b xs e
    rw [upd_ne (ne_of_none q g2)]; exact q
  · have q := I.base.frzs b o u e
    rw [upd_ne (ne_of_none q g2)]; exact q
  · obtain ⟨more, q⟩ := I.base.tbls b ps e
    exact ⟨more, by rw [upd_ne (ne_of_none q g2)]; exact q⟩
  · rw [upd_ne (Ne.symm g3)]; exact I.free
  · have hne : c ≠ a := fun z => by
      subst z
      obtain ⟨v, o, ho, hv⟩ := I.cell x c e
      rw [g1] at ho; cases ho
      exact g5 _ hv
    rw [upd_ne hne]; exact I.freeC x c e
  · have q := I.pin p (by
      rcases List.mem_append.mp hp with z | z
      · exact List.mem_append_left _ z
      · exact List.mem_append_right _ (List.mem_cons_of_mem _ z))
    exact ⟨q.1, by rw [upd_ne (np p hp)]; exact q.2.1, q.2.2⟩
  · by_cases hb : b = a
    · subst hb
      rw [upd_same] at e; cases e
      obtain ⟨vs, hv⟩ := hd
      exact ⟨⟨oe, vs, g1, hz, hv⟩, ⟨_, g1⟩, fun h1 h2 ⟨oe', vs', e', r⟩ k => ⟨oe', vs', k _ e', r⟩⟩
    · rw [upd_ne hb] at e
      exact (I.hok b o e).stay (fun c v _ q => q) (fun c q => by rw [upd_ne (ne_of_none q g2)]; exact q) fun c xs q => by rw [upd_ne (ne_of_none q g2)]; exact q
end
/-- what an except clause with a name does; behind it the error is known -/
def wHold (K : PySem.W.Frag) (c : Value) (i : Nat) (ts : Addr → Value → Option Addr → TS) (Wout : WX) (D : Ends) : WX := fun cls d σ H =>
  ∃ b, PySem.W.exmOne K cls c = some b ∧ (b = true → ∀ a, H a = none → ts a cls d { nx := fun σ' H' => H' a = none → D.nx (σ'.set i none) (upd H' a (ExcO a cls d)), rt := D.rt, bk := fun σ' H' => D.bk (σ'.set i none) H', ct := fun σ' H' => D.ct (σ'.set i none) H' } (σ.set i (some (.ref a))) H) ∧
    (b = false → Wout cls d σ H)
section
variable {X : Cx} {pins : List (Addr × Obj)} {σ : List (Option V)} {H : Hp} {sI : Shared} {B : Heap} {a : Addr}
/-- the error at a came after the def began: nothing that the def knew of -/
structure Came (X : Cx) (pins : List (Addr × Obj)) (a : Addr) : Prop where
  start : X.s_0.heap.get? a = none
  pin : ∀ p ∈ X.pn ++ pins, p.1 ≠ a
  loc : a ≠ X.env.locals
  fs : a ∉ X.fs
theorem came (I : Inv X pins σ H sI) (hs : X.stack = X.env :: X.outer) (hf : X.env.frame = some X.env.locals) (hex : X.ex = []) (nb : ∀ b o, sI.heap.get? b = some o → b ∉ frs X.stack → B.get? b = some o) (nB : B.get? a = none) (nfr : a ∉ frs X.stack) : Came X pins a := by
  have never : ∀ o, sI.heap.get? a ≠ some o := fun o e => by
    have e' := nb a o e nfr
    rw [nB] at e'; cases e'
  have inl : ∀ env ∈ X.env :: X.outer, env.frame ≠ some a := fun env m e => nfr (by rw [hs]; exact List.mem_filterMap.mpr ⟨env, m, e⟩)
  refine ⟨?_, fun p hp e => never p.2 (e ▸ (I.pin p hp).1), fun e => inl _ List.mem_cons_self (e ▸ hf), fun m => ?_⟩
  · cases e : X.s_0.heap.get? a with
    | none => rfl
    | some o =>
      obtain ⟨o', e'⟩ := I.base.there a o e (by rw [hex]; simp)
      exact (never o' e').elim
  · obtain ⟨env, m', e⟩ := List.mem_filterMap.mp m
    exact inl env (List.mem_cons_of_mem _ m') e
/-- no frame is an error -/
theorem no_frame {l : List Env} {Z : Obj → Prop} {h : Heap} (fl : HandSPX.FlyingZ B l a Z h) : a ∉ frs l := fun m => by
  obtain ⟨oe, vs, he, _, hd⟩ := fl.there
  obtain ⟨_, o, ho, nf⟩ := fl.2.2.1.mem m
  cases he.symm.trans ho
  exact nf _ hd
/-- behind the suite its name goes, and the error is told of -/
theorem suite_end {i : Nat} {n : Str} {pos : Pos} {oe : Obj} {cls : Value} {d : Option Addr} {D : Ends} {f : Flow} {s6 : Shared} (ok : X.Ok) (C : Came X pins a) (hz : Zc cls d oe) (hd : ∃ vs, oe.data = .fields vs) (hN : X.N.Nodup) (hi : X.N[i]? = some n) (hl : X.env.kindOf n = some .local)
    (h : SP (X.suite a ((a, oe) :: (X.pn ++ pins))) [] { nx := fun σ' H' => H' a = none → D.nx (σ'.set i none) (upd H' a (ExcO a cls d)), rt := D.rt, bk := fun σ' H' => D.bk (σ'.set i none) H', ct := fun σ' H' => D.ct (σ'.set i none) H' } f s6) :
    wpAny (model X.prog X.w) X.A (do bindName X.env n .none; unbindBehindTheSuite X.env n pos) (fun _ s7 => SP X pins D f s7) X.xe s6 := by
  match f, h with
  | .next, ⟨σ6, H6, S6, q⟩ =>
    have told := S6.pin (a, oe) (List.mem_append_left _ List.mem_cons_self)
    have I6 : Inv X ((a, oe) :: pins) σ6 H6 s6 := (S6.unsuite ok).pins_of fun p hp => by
      rcases List.mem_cons.mp hp with rfl | m
      · exact ⟨told.1, told.2.1, C.loc, C.fs, told.2.2.2.2⟩
      · exact (S6.unsuite ok).pin p (List.mem_append_right _ m)
    exact gone_ok I6 hN hi hl fun s7 J => ⟨_, _, inv_tell J C.start C.pin hz hd, q told.2.1⟩
  | .brk, ⟨σ6, H6, S6, q⟩ => exact gone_ok (S6.unsuite ok) hN hi hl fun s7 J => ⟨_, _, J, q⟩
  | .cont, ⟨σ6, H6, S6, q⟩ => exact gone_ok (S6.unsuite ok) hN hi hl fun s7 J => ⟨_, _, J, q⟩
  | .ret u, ⟨v, σ6, H6, S6, rv, q⟩ => exact gone_ok (S6.unsuite ok) hN hi hl fun s7 J => ⟨_, _, _, J, rv, q⟩
end
section
variable {X : Cx} {x n : Str} {c : Value} {i : Nat} {body suite : List Stmt} {b₀ : Stmt} {np pos pos' : Pos} {tb : WX → TS} {ts : Addr → Value → Option Addr → TS} {Wout : WX}
theorem class_named {pins : List (Addr × Obj)} {σ : List (Option V)} {H : Hp} {s : Shared} {Q : Value → Shared → Prop} {E : Value → Shared → Prop} (I : Inv X pins σ H s) (hc : L2.Names X x c) (q : Q c s) : wpAny (model X.prog X.w) X.A (eval (.Name x np) X.env) Q E s := by
  rcases hc with ⟨g, nd, m | ⟨m, v, nn⟩⟩
  · exact ld_glob I g m q nd
  · exact ld_blt I g m v q nn nd
/-- try .. except x as n: .., and the error stays known behind it -/
theorem ps_try_hold (hs : X.stack = X.env :: X.outer) (hf : X.env.frame = some X.env.locals) (hex : X.ex = []) (hN : X.N.Nodup) (hi : X.N[i]? = some n) (hln : X.env.kindOf n = some .local) (hc : L2.Names X x c) (tk : Takes X Wout)
    (hb : ∀ (W : WX) (pn : List (Addr × Obj)) (xe : Value → Shared → Prop), Takes (X.tr pn xe) W → PassesOwn (model X.prog X.w) X.A X.env xe → PSs (X.tr pn xe) body (tb W))
    (hsu : ∀ (a : Addr) (oe : Obj) (cls : Value) (d : Option Addr) (pn : List (Addr × Obj)), Zc cls d oe → (∃ vs, oe.data = .fields vs) → PSs (X.suite a ((a, oe) :: pn)) (b₀ :: suite) (ts a cls d)) :
    PS X (.Try body [.ExceptHandler (some (.Name x np)) (some n) (b₀ :: suite) pos'] [] [] pos) (fun D σ H => tb (wHold X.K c i ts Wout D) D σ H) := by
  refine ⟨fun pins s σ H D I h => wpAny_Try_except ?_⟩
  have frames : X.A.frames = some (X.env :: X.outer) := I.ok.frames.trans (congrArg some hs)
  refine wpAny_mono ((hb (wHold X.K c i ts Wout D) (X.pn ++ pins) _ (fun u s1 out => ?caught) PassesOwn.looking).run [] s σ H D (I.toTry _) h) (fun f s1 done => ?through) fun e s1 z => z
  case through =>
    match f, done with
    | .next, ⟨σ1, H1, J, q⟩ => exact wpAny_execs_nil ⟨σ1, H1, J.ofTry I.ok, q⟩
    | .brk, ⟨σ1, H1, J, q⟩ => exact ⟨σ1, H1, J.ofTry I.ok, q⟩
    | .cont, ⟨σ1, H1, J, q⟩ => exact ⟨σ1, H1, J.ofTry I.ok, q⟩
    | .ret u, ⟨v, σ1, H1, J, rv, q⟩ => exact ⟨v, σ1, H1, J.ofTry I.ok, rv, q⟩
  case caught =>
    obtain ⟨a, B, sI, pins', σ1, H1, cls, d, rfl, J0, nb, up, sky, na, os, ag, b, fits, yes, no⟩ := out
    have J := J0.ofTry I.ok
    rw [show (X.tr (X.pn ++ pins) _).stack = X.env :: X.outer from hs] at sky
    refine Sky.land Zc.steady frames hf sky fun h2 fl2 up2 => ?_
    have nfr : a ∉ frs X.stack := by rw [hs]; exact no_frame fl2
    have C : Came X pins a := came J hs hf hex nb fl2.2.1 nfr
    have J2 : Inv X pins σ1 H1 { s1 with heap := h2 } := J.landed nb fl2.1 (up.trans up2) os ag
    obtain ⟨o2, v2, at2, z2, f2⟩ := fl2.there
    have S2 := J2.suite at2 f2 na C.loc C.fs
    refine wpAny_handleBy_cons (codeAny_handlers_test ?_) (fun z => nomatch z)
    refine class_named (X := X.suite a ((a, o2) :: (X.pn ++ pins))) S2 hc ?_
    refine (PySem.W.exm_one (M := model X.prog X.w) J2.kIn (fun A Q E s' k q => wpAny_typeOf_ref (k _ _ at2) (by rw [z2.1]; exact q)) fits).here ?_
    cases b with
    | true =>
      refine codeAny_handlers_suite_as (HandSPX.lands_againZ fl2 fun h3 fl3 up3 => ?_)
      have J3 : Inv X pins σ1 H1 { s1 with heap := h3 } := J.landed nb fl3.1 ((up.trans up2).trans up3) os ag
      obtain ⟨o3, v3, at3, z3, f3⟩ := fl3.there
      refine store_ok (X := X.suite a ((a, o3) :: (X.pn ++ pins))) (v := .ref a) (J3.suite at3 f3 na C.loc C.fs) hN hi (.inl hln) rfl (fun s4 S4 => ?_) (.inr hln)
      exact wpAny_mono ((hsu a o3 cls d (X.pn ++ pins) z3 ⟨_, f3⟩).run [] s4 _ H1 _ S4 (yes rfl a na)) (fun f s5 done => suite_end I.ok C z3 ⟨_, f3⟩ hN hi hln done) fun _ _ z => z.elim
    | false =>
      show wpAny _ X.A (handleBy (.ref a) X.env []) _ _ _
      refine wpAny_handleBy_nil ?_
      obtain ⟨_, _, _, oe, vs, T, _, _, he, _, hd, h1, _⟩ := id fl2
      unfold PySem.passOn
      refine wpAny_bind (wpAny_field he hd h1 ?_)
      rw [if_neg (by simp)]
      have out : ∀ h3, HandSPX.HeldZ B (X.env :: X.outer) a (Zc cls d) X.env.locals h3 → h2.UpToSlots h3 → X.xe (.ref a) { s1 with heap := h3 } := fun h3 held up3 =>
        tk _ _ ⟨a, B, sI, pins, σ1, H1, cls, d, rfl, J, nb, (up.trans up2).trans up3, .inr (.inr (hs ▸ held)), na, os, ag, no rfl⟩
      rw [hf]
      first
        | exact wpAny_bind (wpAny_pure (wpAny_bind (HandSPX.setFlight_upZ fl2 fun h3 held up3 => wpAny_throw (out h3 held up3))))
        | exact wpAny_bind (HandSPX.setFlight_upZ fl2 fun h3 held up3 => wpAny_throw (out h3 held up3))
end
/-- isinstance(e, c), e an error that is known -/
def rIsX (K : PySem.W.Frag) : List V → Hp → VK → Prop := fun xs H Q => ∃ (a D : Addr) (c : V) (cv : Value) (b : Bool), xs = [.ref a, c] ∧ H a = some (ExcO a (.ref D) none) ∧ ExcC K D ∧ (∀ u, RelV c u → u = cv) ∧ PySem.W.kitOne K (.ref D) cv = some b ∧ Q (.bl b) H
theorem inst_at {h : Heap} {a D : Addr} {oe : Obj} {vs : Array Value} (e : h.get? a = some oe) (z : Zc (.ref D) none oe) (f : oe.data = .fields vs) : PySem.W.InstAt h a oe D none := by
  rcases oe with ⟨k1, k2, k3, k4⟩
  cases (show k1 = _ from z.1)
  cases (show k2 = _ from z.2)
  cases (show k3 = _ from f)
  exact ⟨e, rfl, rfl, trivial⟩
theorem call_isX {X : Cx} : CallR X (.builtin "isinstance") (rIsX X.K) := by
  rintro pins s σ H xs us Q I r ⟨a, D, c, cv, b, rfl, ha, C, only, fits, q⟩
  obtain ⟨u1, u2, rfl, r1, r2⟩ := vals2 r
  cases (show u1 = Value.ref a from r1)
  cases only u2 r2
  obtain ⟨oe, vs, at_, z, f⟩ := (I.hok a _ ha).1
  exact PySem.W.kia_one (PySem.W.handS_kitx_exc C.hg C.hk C.hs C.hd C.ha C.hn C.ht C.hm) I.kIn (inst_at at_ z f) fits (fun z => nomatch z) fun tk => ⟨.bl b, H, I.tok tk, rfl, q⟩
end As

/-! ## A12 -/
namespace As
open PySem PySem.Spec PyProof.Rows L2 RZ
theorem walk_zipT {K : PySem.W.Frag} {a b : Addr} {xs ys : List V} {n : Nat} (hn : n = min xs.length ys.length) : Walk (ItzT K a b) n (fun H => SqT K H a xs ∧ SqT K H b ys) (YPair (fun i => xs[i]?) (fun i => ys[i]?)) := by
  subst hn
  constructor
  · rintro i H lt ⟨ha, hb⟩
    have l1 : i < xs.length := Nat.lt_of_lt_of_le lt (Nat.min_le_left _ _)
    have l2 : i < ys.length := Nat.lt_of_lt_of_le lt (Nat.min_le_right _ _)
    exact ⟨xs, ys, _, _, ha, hb, List.getElem?_eq_getElem l1, List.getElem?_eq_getElem l2⟩
  · rintro H ⟨ha, hb⟩
    exact ⟨xs, ys, ha, hb, by rcases Nat.le_total xs.length ys.length with h | h <;> omega⟩
  · rintro i H v H' _ ⟨ha, hb⟩ ⟨T, u, z, ev, nT, eH, fu, fz⟩
    exact ⟨T, u, z, ev, nT, eH, fu _ ha, fz _ hb⟩
section
variable {X : Cx} (K : PySem.W.Frag)
theorem zipK {e e2 : Expr} {ta : TA} {p pos tpos : Pos} {elts : List Expr} {kk : Nat} (hg : Gl X "zip") (hm : X.mg "zip" = none) (ha : PA X [e, e2] ta) (h : X.K = K := by rfl) (hs : starEach [e, e2] X.env = (false, eval e X.env) :: starEach [e2] X.env := by rfl) (hpl : (backTo pos (starEach [e2] X.env)).any (·.1) = false := by rfl) :
    PI X (.Tuple elts kk tpos) (.Call (.Name "zip" p) [e, e2] [] pos) (iZipA K ta) := h ▸ pi_zipA hg hm ha hs hpl
end
/-- the same over pairs: each turn's pair is a new tuple -/
theorem lc_pair {J : It} {n : Nat} {G : Hp → Prop} {xs ys : Nat → Option V} {g : TG} {tt : TT} {te : TE} {vs : List Nat} {σ : L2.St} {H1 : Hp} {D : Addr} {Qd : Hp → Prop}
    (w : Walk J n G (YPair xs ys)) (hD : H1 D = none) (hG : ∀ H, Same H1 H → G H) (hl : n < sizeLine) (P : Nat → List V → Hp → Prop) (h0 : P 0 [] H1) (hP : ∀ i acc H H', Imm H H' → P i acc H → P i acc H')
    (hs : ∀ i x y T H acc (Q1 : VK) (Q2 : Hp → Prop), i < n → xs i = some x → ys i = some y → Same H1 H → H T = some (.tup [x, y]) → P i acc H → (∀ y H4, Same H H4 → P (i + 1) (acc ++ [y]) H4 → Q1 y H4) → (∀ H3, Same H H3 → P (i + 1) acc H3 → Q2 H3) →
      g (.ref T) (wipe σ vs) H fun σ2 H2 => wipe σ2 vs = wipe σ vs ∧ tt σ2 H2 fun b H3 => if b = true then te σ2 H3 Q1 else Q2 H3)
    (hd : ∀ H' acc, Same H1 H' → H' D = some (.lst acc) → P n acc H' → Qd H') :
    ∃ W : Nat → Nat → Hp → Prop, (∃ m, W 0 m (upd H1 D (.lst []))) ∧ ∀ i m H, W i m H →
      (J.stop i H ∧ Qd H) ∨ (J.go i H ∧ ∃ Nx : Hp → Prop, (∀ H', Nx H' → ∃ m', m' < m ∧ W (i + 1) m' H') ∧ ∀ x H', J.yld i H x H' → g x (wipe σ vs) H' fun σ2 H2 => wipe σ2 vs = wipe σ vs ∧ tt σ2 H2 fun b H3 =>
        if b = true then te σ2 H3 fun y H4 => ∃ acc, H4 D = some (.lst acc) ∧ acc.length < sizeLine ∧ Nx (upd H4 D (.lst (acc ++ [y]))) else Nx H3) := by
  refine lc_it w (fun i H => ∃ acc, Same H1 H ∧ H D = some (.lst acc) ∧ acc.length ≤ i ∧ P i acc H) ⟨[], same_new hD, upd_same, Nat.le_refl _, hP _ _ _ _ (same_imm (same_new hD)) h0⟩
    (fun i H _ ⟨acc, s, _⟩ => hG H s) (fun i x H H' hi p y => ?_) (fun H ⟨acc, s, hd', _, p⟩ => hd H acc s hd' p)
  obtain ⟨T, a, b, rfl, nT, rfl, ea, eb⟩ := y
  obtain ⟨acc, s, hd', hlen, p⟩ := p
  have sT : Same H (upd H T (.tup [a, b])) := same_new nT
  refine hs i a b T _ acc _ _ hi ea eb (s.trans sT) upd_same (hP _ _ _ _ (same_imm sT) p) (fun y H4 s4 p4 => ?_) (fun H3 s3 p3 => ⟨acc, (s.trans sT).trans s3, s3 _ _ (sT _ _ hd'), Nat.le_succ_of_le hlen, p3⟩)
  have h4 := s4 _ _ (sT _ _ hd')
  refine ⟨acc, h4, by omega, acc ++ [y], same_mut ((s.trans sT).trans s4) hD, upd_same, ?_, hP _ _ _ _ (imm_lst' h4) p4⟩
  rw [List.length_append]; simp; omega
end As

/-! ## A9 -/
namespace As
open PySem PySem.Spec PyProof.Rows L2
open PySem.W (EachIs dataLe AllAlike Sortable dataLt alike dataKind sortVals)
/-- sorted(xs) of data of one form, any number of them -/
def rSortedD (K : PySem.W.Frag) : List V → Hp → VK → Prop := fun vs H Q => ∃ (β : Type) (a : Addr) (bs : List β) (v : β → V) (k : β → PyData), vs = [.ref a] ∧ SqL K H a (bs.map v) ∧ (∀ b ∈ bs, Dp K H (v b) (k b) ∧ PyData.depth (k b) ≤ 60) ∧ AllAlike (bs.map k) ∧ Sortable (bs.map k) ∧
  ∀ p, H p = none → Q (.ref p) (upd H p (.lst ((bs.mergeSort (dataLe false k)).map v)))
theorem vals_each {β : Type} {v : β → V} : ∀ {bs : List β} {us : List Value}, Vals (bs.map v) us → EachIs (fun u b => RelV (v b) u) us bs
  | [], _, r => by cases r; exact .nil
  | b :: bs, _, r => by
    rw [List.map_cons] at r
    cases r with
    | cons h t => exact .cons h (vals_each t)
theorem each_vals {β : Type} {v : β → V} : ∀ {bs : List β} {us : List Value}, EachIs (fun u b => RelV (v b) u) us bs → Vals (bs.map v) us
  | [], _, r => by cases r; exact .nil
  | b :: bs, _, r => by
    cases r with
    | cons h t => exact .cons h (each_vals t)
theorem each_map {α β γ : Type} {R : α → γ → Prop} (f : β → γ) : ∀ {as : List α} {bs : List β}, EachIs (fun a b => R a (f b)) as bs → EachIs R as (bs.map f)
  | _, [], r => by cases r; exact .nil
  | _, b :: bs, r => by
    cases r with
    | cons h t => exact .cons h (each_map f t)
section
variable {X : Cx}
theorem cr_sortedD (hu : X.A.units + 64 < cLine) : CallR X (.builtin "sorted") (rSortedD X.K) := by
  intro pins s σ H xs us Q I r h
  obtain ⟨β, a, bs, v, k, rfl, hs, hd, hal, hso, q⟩ := h
  obtain ⟨its, rv, hl, hz⟩ := I.list hs
  obtain ⟨u, rfl, ru⟩ := vals1 r
  obtain rfl : u = Value.ref a := ru
  have ev := vals_each rv
  have lz : its.length = bs.length := by rw [← rv.length, List.length_map]
  have hzs : its.length ≤ sizeLine := by rw [lz]; rw [List.length_map] at hz; exact hz
  -- the items as data, wherever the heap has grown
  obtain ⟨h', eh⟩ : ∃ h', PySem.W.sortingHeap (PySem.W.copyHeap s.heap its) (s.heap.objs.size + 1) its = h' := ⟨_, rfl⟩
  have keep : ∀ b o, s.heap.get? b = some o → h'.get? b = some o := fun b o e => by rw [← eh]; exact PySem.W.sorting_copy_old e
  have er : EachIs (fun u d => ∃ as, Reads h' u d as) its (bs.map k) := by
    refine each_map k ((PySem.W.each_mem ev).mono fun u b ⟨rb, hb⟩ => ?_)
    obtain ⟨as, rr⟩ := Dp.reads I (k b) (v b) u (hd b hb).1 rb
    exact ⟨as, Reads.keeps keep rr⟩
  have S : PySem.W.SortsAt X.prog X.w X.A.in1.in1 { s with heap := h' } (dataKind h' (bs.map k)) its := by
    refine PySem.W.SortsAt.data (s := { s with heap := h' }) er hal hso fun d hm => ?_
    obtain ⟨b, hb, rfl⟩ := List.mem_map.mp hm
    have := (hd b hb).2
    show X.A.units + 1 + 1 + (k b).depth < cLine
    omega
  have out := PySem.W.sortVals_each (κ := dataKind h' (bs.map k)) (rev := false) (fun b => PySem.W.keyToks (k b)) ev (PySem.W.each_of_map k (PySem.W.each_keys hal er))
  refine PySem.W.sorted_vals hl.isList (by rw [eh]; exact S) hzs ?_
  have rout : Vals ((bs.mergeSort (dataLe false k)).map v) (sortVals (dataKind h' (bs.map k)) false its its) := each_vals out
  obtain ⟨n, hn⟩ := sortedAll_at s.heap its (sortVals (dataKind h' (bs.map k)) false its its).toArray
  refine ⟨.ref (s.heap.objs.size + 1), upd H (s.heap.objs.size + 1) (.lst ((bs.mergeSort (dataLe false k)).map v)), I.laid (t' := s.toks) (fun b o e => sortedAll_old e) (Nat.le_succ _) ⟨?_, _, n, rout, hn⟩, rfl, q _ (I.hok.fresh (Nat.le_succ _))⟩
  rw [List.length_map, List.length_mergeSort]
  rw [List.length_map] at hz
  exact hz
/-- x < y of data of one form -/
def rLtD (K : PySem.W.Frag) : R2 := fun x y H Q => ∃ d e, Dp K H x d ∧ Dp K H y e ∧ alike d e = true ∧ d ≠ .none ∧ PyData.depth d ≤ 60 ∧ Q (.bl (dataLt d e)) H
theorem op_ltD (hu : X.A.units + 64 < cLine) : OpR X (compareOp .Lt) (rLtD X.K) := by
  intro pins s σ H x y v u Q I rx ry h
  obtain ⟨d, e, hd, he, ha, hn, hz, q⟩ := h
  obtain ⟨as, r1⟩ := Dp.reads I d x v hd rx
  obtain ⟨bs, r2⟩ := Dp.reads I e y u he ry
  exact PySem.W.lt_data r1 r2 ha hn (by omega) ⟨.bl _, H, I, rfl, q⟩
end
end As

/-! ## A10 -/
namespace As
open PySem PySem.Spec PyProof.Rows L2
/-! enumerate(t), t a tuple -/
/-- what the call makes: the walk over t, and the enumerate around it -/
abbrev walkO (t : Addr) : Obj := { cls := .type "tuple_iterator", data := .fields #[.ref t, .int 0 0] }
abbrev enumO (it : Addr) : Obj := { cls := .type "enumerate", data := .fields #[.none, .bool false, .ref it, rawInt 0, .none, .none] }
abbrev enumH (h : Heap) (t : Addr) : Heap := (h.push (walkO t)).push (enumO h.objs.size)
theorem enum_made {t : Addr} {o : Obj} {vs : Array Value} {n : Nat} (hc : o.cls = .type "tuple") (hd : o.data = .seq vs n) :
    Meets (Builtin.«enumerate.__new__» ⟨[.type "enumerate", .ref t], []⟩) (fun _ R s => s.heap.get? t = some o ∧ R (.ok (.ret (.ref (s.heap.push (walkO t)).objs.size))) { s with heap := enumH s.heap t }) := by
  refine .of_wp fun prog w A R s h => ?_
  have sub := sub_enumerate
  obtain ⟨at_, fin⟩ := h
  have tup : s.heap.IsTuple t vs := ⟨o, at_, hc, n, hd⟩
  wp_walk using AutoSeq1.wpAny_loadPart' at_
  refine wpAny_stack_any fun st => wpAny_pure ?_
  have last : ∀ b : Bool, True := fun _ => trivial
  split
  · rename_i c _ _ _ _ _
    cases (c == Value.type "enumerate") <;> (wp_walk using AutoSeq1.wpAny_loadPart' at_, wpAny_pyIter_tuple tup; exact ⟨_, rfl, fin⟩)
  · wp_walk using AutoSeq1.wpAny_loadPart' at_, wpAny_pyIter_tuple tup
    exact ⟨_, rfl, fin⟩
section
variable {prog : Program} {w : World} {A : Around} {E : Value → Shared → Prop} {s : Shared}
theorem enum_of {t : Addr} {vs : Array Value} {Q : Value → Shared → Prop} (tup : s.heap.IsTuple t vs) (q : Q (.ref (s.heap.objs.size + 1)) { s with heap := enumH s.heap t }) : wpAny (model prog w) A (call (.type "enumerate") [.ref t]) Q E s := by
  obtain ⟨o, at_, hc, n, hd⟩ := tup
  refine callType_new F.called_enumerate (by decide) (F.typeCall_enumerate_1 _) (F.newCall_enumerate_1 _) (fun x => F.args_object_init_2 x _) F.entry_enumerate_new (enum_made hc hd) ⟨at_, ?_⟩
  have sz : (s.heap.push (walkO t)).objs.size = s.heap.objs.size + 1 := Heap.size_push ..
  refine show _ ∧ _ from ⟨⟨enumO s.heap.objs.size, ?_, rfl⟩, sz ▸ q⟩
  exact Heap.get?_push_size (s.heap.push (walkO t)) rfl
end
theorem enumH_old {h : Heap} {t b : Addr} {o : Obj} (e : h.get? b = some o) : (enumH h t).get? b = some o := Heap.get?_push_of_some _ (Heap.get?_push_of_some _ e)
theorem enumH_enum {h : Heap} {t : Addr} : IsEnum (enumH h t) (h.objs.size + 1) h.objs.size 0 .none := by
  have e := Heap.get?_push_size (h.push (walkO t)) (o := enumO h.objs.size) rfl
  rw [Heap.size_push] at e
  exact e
theorem enumH_walk {h : Heap} {t : Addr} : (enumH h t).IsTupleIter h.objs.size t 0 := ⟨walkO t, Heap.get?_push_of_some _ (Heap.get?_push_size _ rfl), rfl, rfl⟩
/-- the walk: at each turn a new pair of the number and the item -/
def IteT (K : PySem.W.Frag) (a : Addr) : It where
  go i H := ∃ (xs : List V) (x : V), SqT K H a xs ∧ xs[i]? = some x
  yld i H v H' := ∃ T x, v = .ref T ∧ H T = none ∧ H' = upd H T (.tup [.int (i : Nat), x]) ∧ ∀ xs, SqT K H a xs → xs[i]? = some x
  stop i H := ∃ xs : List V, SqT K H a xs ∧ xs.length ≤ i
/-- the state of the walk after i turns -/
def EnS (a e it : Addr) (i : Nat) (h : Heap) : Prop := (∃ old, IsEnum h e it ((i : Nat) : Int) old) ∧ h.IsTupleIter it a i ∧ e ≠ it ∧ e ≠ a ∧ a ≠ it
theorem mem2 {b e it : Addr} (h : b ∈ [e, it]) : b = e ∨ b = it := by simpa using h
theorem turn_enumT {P : Program} {w : World} {K : PySem.W.Frag} {elts : List Expr} {kk : Nat} {tpos : Pos} (a e it : Addr) : Turn P w K (.Tuple elts kk tpos) (IteT K a) [e, it] e (EnS a e it) where
  mem := List.mem_cons_self
  obj i h st b hb := by
    obtain ⟨⟨old, at1⟩, ⟨o, at2, c2, d2⟩, _⟩ := st
    rcases mem2 hb with rfl | rfl
    · exact ⟨_, at1, fun v z => nomatch z⟩
    · exact ⟨o, at2, fun v z => nomatch (d2.symm.trans z)⟩
  keep i h h' st k := by
    obtain ⟨⟨old, at1⟩, w2, r⟩ := st
    exact ⟨⟨old, k e List.mem_cons_self _ at1⟩, w2.at fun o z => k it (by simp) o z, r⟩
  self A i s Q E st q := by
    obtain ⟨⟨old, at1⟩, _⟩ := st
    exact wpAny_pyIter_enum at1 q
  item := by
    rintro X rfl rfl rfl hc i pins s σ H E I hf ⟨⟨old, at1⟩, w2, ne1, ne2, ne3⟩ ⟨xs, x, hq, hx⟩
    obtain ⟨its, rv, tup, _⟩ := I.tuple hq
    obtain ⟨u, hu, ru⟩ := rv.get hx
    have lt : i < its.toArray.size := by
      have z := (List.getElem?_eq_some_iff.mp hu).1
      rwa [List.size_toArray]
    have old1 : e < s.heap.objs.size := Heap.lt_size at1
    have old2 : it < s.heap.objs.size := w2.elim fun _ z => Heap.lt_size z.1
    refine wpAny_pyNext_enum_itemD (PySem.Draws.tuple (A := X.A.in1) (I.ok.hd hc) it a ne3 its.toArray) at1 ⟨w2, tup⟩ lt ne1 (by simp [ne1, ne2]) fun y h1 tk drawn out st1 pair _ kept => ?_
    obtain rfl : y = u := by
      have z : its.toArray[i]? = some y := drawn
      rw [List.getElem?_toArray, hu] at z
      exact (Option.some.inj z).symm
    refine ⟨_, rfl, wpAny_letOwnedTupleGo_enum (s := { s with heap := h1, toks := tk + 1 }) out fun h2 en2 but => ?_⟩
    have pair2 := (but.2 s.heap.objs.size (Nat.ne_of_gt old1)).trans pair
    have ok : ObjOk X.prog X.w (upd H s.heap.objs.size (.tup [.int (i : Nat), x])) h2 s.heap.objs.size (.tup [.int (i : Nat), x]) := ⟨by show 2 ≤ sizeLine; decide, [.int i tk, y], .cons ⟨_, rfl⟩ (.cons ru .nil), _, pair2, rfl, _, rfl⟩
    have still : ∀ b o, b ∉ [e, it] → s.heap.get? b = some o → h2.get? b = some o := fun b o nb z => by
      have n1 : b ≠ e := fun q => nb (by simp [q])
      have n2 : b ≠ it := fun q => nb (by simp [q])
      exact (but.2 b n1).trans (kept b o n1 n2 z)
    refine ⟨.ref s.heap.objs.size, _, I.turnedNew (t' := tk + 1) still hf (Nat.le_refl _) ok, rfl, ⟨_, x, rfl, I.hok.fresh (Nat.le_refl _), rfl, fun ys hy => (I.tuple_inj hy hq) ▸ hx⟩, ⟨⟨y, ?_⟩, st1.1.at fun o z => (but.2 it (Ne.symm ne1)).trans z, ne1, ne2, ne3⟩, fun b hb => ?_⟩
    · rw [Int.natCast_succ]; exact en2
    · have lt' : b < s.heap.objs.size := by rcases mem2 hb with rfl | rfl <;> assumption
      rw [upd_ne (Nat.ne_of_lt lt')]
      exact (hf b hb).1
  done := by
    rintro X rfl rfl rfl hc i pins s σ H E I hf ⟨⟨old, at1⟩, w2, _⟩ ⟨xs, hq, all⟩
    obtain ⟨its, rv, tup, _⟩ := I.tuple hq
    have ty : s.TypeIs (.ref e) "enumerate" := ⟨_, at1, rfl⟩
    have none_ : its.toArray[i]? = none := by
      rw [List.getElem?_toArray]
      exact List.getElem?_eq_none (rv.length ▸ all)
    have pin := hf it (by simp)
    unfold pyNext
    refine wpAny_bind (wpAny_attempt (wpAny_callSpecial?_slot (name := Str.ofString "__next__") ty F.slot_enumerate_next (wpAny_call_entry F.slot_enumerate_next ty F.entry_enumerate_next ?_ (F.args_enumerate_next_1 _))))
    refine show wpAny _ _ (field (.ref e) 2 >>= _) _ _ _ from wpAny_bind (wpAny_field at1 rfl (x := .ref it) rfl (wpAny_bind (wpAny_nextOf_tuple_end (I.ok.hd hc) w2 tup none_ fun h1 x grown stop => ?_)))
    obtain ⟨o, ho, cl⟩ := stop
    exact wpAny_bind (wpAny_isInstance (T := "StopIteration") (b := true) ⟨o, ho, cl⟩ isSubtype_stop (wpAny_pure ⟨rfl, I.turned (t' := s.toks) (fun b o hb z => grown b o hb z) pin.1 pin.2.1 pin.2.2.2.1 pin.2.2.2.2.1 pin.2.2.2.2.2⟩))
def iEnumT (K : PySem.W.Frag) (ta : TA) : TI := fun σ H R => ta σ H fun vs H1 => ∃ a xs, vs = [.ref a] ∧ SqT K H1 a xs ∧ R (IteT K a) H1
theorem pi_enumT {X : Cx} {e : Expr} {ta : TA} {p pos tpos : Pos} {elts : List Expr} {kk : Nat} (hg : Gl X "enumerate") (hm : X.mg "enumerate" = none) (ha : PA X [e] ta) (hs : starEach [e] X.env = [(false, eval e X.env)] := by rfl) :
    PI X (.Tuple elts kk tpos) (.Call (.Name "enumerate" p) [e] [] pos) (iEnumT X.K ta) := by
  refine ⟨fun pins s σ H R I h => Call_ (ld_blt I hg hm boot_enumerate (PyProof.Rows.callWith_type1 (thn (ha.run pos pins s σ H _ I h) ?_) hs rfl))⟩
  rintro us s1 ⟨vs, H1, I1, r1, a, xs, rfl, hq, q⟩
  obtain ⟨u, rfl, ru⟩ := vals1 r1
  cases (show u = Value.ref a from ru)
  obtain ⟨its, rv, tup, _⟩ := I1.tuple hq
  have lt : a < s1.heap.objs.size := tup.elim fun _ z => Heap.lt_size z.1
  refine enum_of tup (wpAny_pyIter_enum enumH_enum ⟨s1.heap.objs.size + 1, [s1.heap.objs.size + 1, s1.heap.objs.size], _, _, H1, rfl, I1.kept (t' := s1.toks) fun b o z => enumH_old z, turn_enumT a (s1.heap.objs.size + 1) s1.heap.objs.size,
    ⟨⟨.none, enumH_enum⟩, enumH_walk, Nat.succ_ne_self _, Nat.ne_of_gt (Nat.lt_succ_of_lt lt), Nat.ne_of_lt lt⟩, fun b hb => ?_, q⟩)
  have le : s1.heap.objs.size ≤ b := by rcases mem2 hb with rfl | rfl <;> simp
  exact I1.fpOk le (I1.hok.fresh le)
theorem walk_enumT {K : PySem.W.Frag} {a : Addr} {xs : List V} : Walk (IteT K a) xs.length (fun H => SqT K H a xs) (YPair (fun i => some (.int (i : Nat))) (fun i => xs[i]?)) where
  goes i H lt q := ⟨xs, _, q, List.getElem?_eq_getElem lt⟩
  stops H q := ⟨xs, q, Nat.le_refl _⟩
  yields i H v H' _ q y := y.elim fun T z => z.elim fun x z => ⟨T, _, x, z.1, z.2.1, z.2.2.1, rfl, z.2.2.2 xs q⟩
end As

/-! ## A7 -/
namespace As
open PySem PySem.Spec PyProof.Rows L2 TL
theorem tl_len {z : Str} : z.length = (tl z).length := by show z.cps.size = z.cps.toList.length; rw [Array.length_toList]
theorem nameB_tl {z : Str} : nameB z = (decide (1 ≤ (tl z).length ∧ (tl z).length ≤ 8) && (tl z).all letter) := by
  unfold nameB; rw [tl_len]
theorem nameB_iff {z : Str} : nameB z = true ↔ (1 ≤ (tl z).length ∧ (tl z).length ≤ 8) ∧ ∀ c ∈ tl z, letter c = true := by
  rw [nameB_tl, Bool.and_eq_true, decide_eq_true_iff, List.all_eq_true]
def sg (c : Nat) : Str := ⟨#[c]⟩
theorem join_signs : ∀ cs : List Nat, tl (Txt.join (Str.ofString "") (cs.map sg)) = cs := fun cs => by
  rw [join_eq, tl_join]
  have e : tl (Str.ofString "") = [] := by decide +kernel
  rw [e]
  induction cs with
  | nil => rfl
  | cons c r ih =>
    cases r with
    | nil => rfl
    | cons d r =>
      show [c] ++ ([] ++ joinL [] ((List.map sg (d :: r)).map tl)) = c :: d :: r
      rw [ih]; rfl
theorem cut7 {z : Str} : tl (cutS z none (some 7)) = (tl z).take 7 := by
  unfold cutS
  show (((z.cps.toList.drop (HT.sIx z.length 0 none)).take (HT.sIx z.length z.length (some 7) - HT.sIx z.length 0 none)).toArray).toList = _
  rw [List.toList_toArray, HT.sIx_none, show (7 : Int) = ((7 : Nat) : Int) from rfl, HT.sIx_nat, List.drop_zero, Nat.sub_zero]
  by_cases h : 7 ≤ z.length
  · rw [Nat.min_eq_left h]
  · rw [Nat.min_eq_right (by omega), tl_len, List.take_length, List.take_of_length_le (by have := @tl_len z; omega)]
/-- z[:7] and one more sign -/
def longer (z : Str) (c : Nat) : Str := cutS z none (some 7) ++ sg c
theorem tl_longer {z : Str} {c : Nat} : tl (longer z c) = (tl z).take 7 ++ [c] := by
  unfold longer; rw [tl_append, cut7]; rfl
theorem longer_name {z : Str} {c : Nat} (h : nameB z = true) (hc : letter c = true) : nameB (longer z c) = true := by
  rw [nameB_iff] at h ⊢
  rw [tl_longer]
  refine ⟨?_, fun x hx => ?_⟩
  · rw [List.length_append, List.length_take]
    simp
    omega
  · rcases List.mem_append.mp hx with hx | hx
    · exact h.2 x (List.mem_of_mem_take hx)
    · rw [List.mem_singleton] at hx; rw [hx]; exact hc
theorem longer_inj {z : Str} {c d : Nat} (h : longer z c = longer z d) : c = d := by
  have e := congrArg tl h
  rw [tl_longer, tl_longer] at e
  have e2 := List.append_cancel_left e
  injection e2
theorem longer_len {z : Str} {c : Nat} : (longer z c).length ≤ 8 := by
  rw [tl_len, tl_longer, List.length_append, List.length_take]; simp; omega
def abc : Str := Str.ofString "abcdefghijklmnopqrstuvwxyz"
theorem abc_tl : tl abc = (List.range 26).map (· + 97) := by decide +kernel
theorem abc_letter : ∀ c ∈ tl abc, letter c = true := by decide +kernel
theorem abc_nodup : (tl abc).Nodup := by decide +kernel
theorem nodup_sub {α : Type} [DecidableEq α] : ∀ {xs ys : List α}, xs.Nodup → (∀ x ∈ xs, x ∈ ys) → xs.length ≤ ys.length
  | [], _, _, _ => Nat.zero_le _
  | x :: xs, ys, nd, h => by
    have n2 := List.nodup_cons.mp nd
    have ih := nodup_sub (ys := ys.erase x) n2.2 fun y hy => by
      have hne : y ≠ x := fun e => n2.1 (e ▸ hy)
      exact (List.mem_erase_of_ne hne).mpr (h y (List.mem_cons_of_mem _ hy))
    have hx := h x List.mem_cons_self
    rw [List.length_erase_of_mem hx] at ih
    have := List.length_pos_of_mem hx
    rw [List.length_cons]; omega
/-- of 27 words one is new -/
theorem some_new {z : Str} {fs : List Str} (h : fs.length < 26) : ∃ x r, (z :: (tl abc).map (longer z)).filter (fun y => !decide (y ∈ fs)) = x :: r ∧ x ∉ fs := by
  cases e : (z :: (tl abc).map (longer z)).filter (fun y => !decide (y ∈ fs)) with
  | cons x r =>
    have hx : x ∈ (z :: (tl abc).map (longer z)).filter (fun y => !decide (y ∈ fs)) := by rw [e]; exact List.mem_cons_self
    exact ⟨x, r, rfl, by have := (List.mem_filter.mp hx).2; simpa using this⟩
  | nil =>
    have all : ∀ x ∈ (tl abc).map (longer z), x ∈ fs := fun x hx => by
      have := List.filter_eq_nil_iff.mp e x (List.mem_cons_of_mem _ hx)
      simpa using this
    have nd : ((tl abc).map (longer z)).Nodup := by
      rw [List.Nodup, List.pairwise_map]
      exact abc_nodup.imp fun ne e => ne (longer_inj e)
    have l := nodup_sub nd all
    rw [List.length_map, abc_tl, List.length_map, List.length_range] at l
    omega
theorem new_name {z x : Str} {r fs : List Str} (hz : nameB z = true) (h : (z :: (tl abc).map (longer z)).filter (fun y => !decide (y ∈ fs)) = x :: r) : nameB x = true := by
  have hx : x ∈ (z :: (tl abc).map (longer z)).filter (fun y => !decide (y ∈ fs)) := by rw [h]; exact List.mem_cons_self
  rcases List.mem_cons.mp (List.mem_filter.mp hx).1 with e | e
  · rw [e]; exact hz
  · obtain ⟨c, hc, rfl⟩ := List.mem_map.mp e
    exact longer_name hz (abc_letter c hc)
end As

/-! ## B8 -/
namespace As
open PySem PySem.Spec PyProof.Rows L2
theorem dp_ints {K : PySem.W.Frag} {H : Hp} : ∀ {ns : List Int}, DpAll K H (ns.map V.int) (ns.map .int)
  | [] => .nil
  | n :: _ => .cons (.int n) dp_ints
theorem ints_lay : ∀ {ns : List Int}, PyData.canLayAll0 (ns.map .int) = true ∧ PyData.depthAll (ns.map .int) = 0
  | [] => by simp [PyData.canLayAll0, PyData.depthAll]
  | n :: ns => by
    have h := ints_lay (ns := ns)
    simp [PyData.canLayAll0, PyData.canLay0, PyData.depthAll, PyData.depth, h.1, h.2]
theorem ints_nil {ns : List Int} : PyData.eqv (.list (ns.map .int)) (.list []) = decide (ns = []) := by
  cases ns with
  | nil => simp [PyData.eqv, PyData.eqvAll]
  | cons n ns => simp [PyData.eqv, PyData.eqvAll]
theorem ixN_lt {n : Nat} {i : Int} (h0 : 0 ≤ i) (h1 : i < n) : ixN n i = some i.toNat := by
  unfold ixN; rw [if_pos h0, if_pos h1]
theorem atI_lt {α : Type} {xs : List α} {i : Int} {v : α} (h0 : 0 ≤ i) (h1 : i < xs.length) (h : xs[i.toNat]? = some v) : atI xs i = some v := by
  unfold atI; rw [ixN_lt h0 h1]; exact h
section
variable {P : Program} {w : World} {K : PySem.W.Frag} {mg : Str → Option Value} {base : Heap}
def spState (K : PySem.W.Frag) : Sp := fun vs H Q _ => ∃ (s : Addr) (ns : List Int), vs = [.ref s] ∧ SqL K H s (ns.map V.int) ∧ ns.length ≤ 63 ∧ ∀ a c H', Gd a c H H' → Q (.ref a) H'
abbrev nState : List Str := ["script", "cells", "cell"]
theorem sc_state : FnScope nState ["script"] (defScope s_state) := ⟨rfl, rfl, rfl, by decide +kernel, rfl, by decide +kernel, by decide +kernel⟩
theorem ok_state {f : Addr} {fd : FuncData} (D : Df K mg "_law_state" s_state ["script"] f fd) (T : Bi mg) : FnOk P w K mg base CX0 1 f fd ["script"] (spState K) := by
  refine D.F.ok sc_state (fun vs H Q E h => ?_) (fun cdv A outer s H vs Q E hr h => ?_)
  · obtain ⟨s, ns, rfl, _⟩ := h; rfl
  · obtain ⟨sa, ns, rfl, hs, hl, q⟩ := h
    refine ⟨_, pss_cons (ps_setLc (i := 1) (own := [("cell", 2)]) (g := gName 2) (tt := tYes) rfl sc_state.nd rfl rfl (sw_true rfl rfl rfl (by decide +kernel)) (pi_list (pe_slice sl_list (pv 0) po_none (po_some pe_int)))
        (blkOk_by (N := nState) (sc := defScope s_state) (by decide +kernel)) (fun _ _ _ _ _ => pg_name (i := 2) sc_state.nd rfl (Or.inl rfl)) (fun _ _ _ _ _ => pts_nil)
        (fun _ _ _ _ _ => pe_callB call_abs (by rfl) T.abs boot_abs (pa_cons (pv 2) pa_nil)))
      (pss_cons (ps_if (pt_cmpR (op_eqD (hu64 hr)) (pv 1) (pe_lst pa_nil) (nomark _)) (pss_one (ps_set (i := 1) sc_state.nd rfl (Or.inl rfl) (pe_lst (pa_cons pe_int pa_nil)))) pss_nil)
      (pss_one (ps_ret (pe_lst (pa_cons (pv 1) (pa_cons pe_int (pa_cons pe_int pa_nil))))))), ?_⟩
    have fin : ∀ (c : Addr) (ms : List Int) (H1 : Hp), Same H H1 → H c = none → H1 c = some (.lst (ms.map V.int)) → 0 < ms.length → ms.length ≤ 63 → ∀ a, H1 a = none → Q (.ref a) (upd H1 a (.lst [.ref c, .int 0, .int 1])) := by
      intro c ms H1 s1 nc hc h0 h1 a na
      have nac : a ≠ c := (ne_of_none hc na).symm
      refine q a c _ ⟨same_new' s1 na, s1.free na, nc, 0, 1, ms, nac, upd_same, by rw [upd_ne nac.symm]; exact hc, h0, h1, by decide, by decide⟩
    refine ⟨_, rfl, 63, rfl, sa, _, rfl, hs, fun p np => ⟨p, rfl, ⟨_, lof upd_same⟩, fun D hD => ?_⟩⟩
    have cut : cutV (ns.map V.int) none (some 63) = ns.map V.int := by
      unfold cutV
      rw [HT.sIx_none, show (63 : Int) = ((63 : Nat) : Int) from rfl, HT.sIx_nat, List.length_map]
      rw [List.drop_zero, Nat.min_eq_right hl, Nat.sub_zero, List.take_of_length_le (by rw [List.length_map]; exact Nat.le_refl _)]
    have s1 : Same H (upd H p (.lst (cutV (ns.map V.int) none (some 63)))) := same_new np
    rw [cut] at s1
    have hp : (upd H p (.lst (cutV (ns.map V.int) none (some 63)))) p = some (.lst (ns.map V.int)) := by rw [upd_same, cut]
    have nD := hD
    rw [cut] at hD ⊢
    rw [cut] at hp
    generalize upd H p (.lst (ns.map V.int)) = H1 at s1 hp hD ⊢
    refine lc_same (B := H1) walk_list rfl (Same.refl H1) hD (fun H e => lof (e _ _ hp)) (by rw [List.length_map]; exact Nat.lt_of_le_of_lt hl (by decide)) (fun x => match x with | .int i => some (.int (if i < 0 then -i else i)) | _ => none) (fun x H2 Q1 Q2 hx s2 k1 k2 => ?_) (fun H2 s2 hD2 => ?_)
    · obtain ⟨n, hn, rfl⟩ := List.mem_map.mp hx
      refine ⟨rfl, ?_⟩
      refine iteT (B := Q2 H2) ?_
      exact ⟨_, rfl, n, rfl, k1 _ _ rfl (Same.refl _)⟩
    · have e2 : H2 D = some (.lst ((ns.map fun i => if i < 0 then -i else i).map V.int)) := by
        rw [hD2]; congr 2
        rw [List.filterMap_map, List.map_map, ← filterMap_some]; rfl
      have nDH : H D = none := s1.free hD
      refine ⟨_, rfl, by decide, fun z nz => ?_⟩
      have s3 := same_new (o := .lst ([] : List V)) nz
      refine ⟨_, _, .lst (lof (s3 _ _ e2)) dp_ints, .lst (lof upd_same) .nil, shaped_lst ints_lay.1 (by rw [ints_lay.2]; decide), shaped_lst (by simp [PyData.canLayAll0]) (by simp [PyData.depthAll]), ?_⟩
      rw [ints_nil]
      refine ⟨_, rfl, ?_⟩
      have s4 := (s1.trans s2).trans s3
      refine ite2 (fun h => ?_) (fun h => ?_)
      · refine ⟨by decide, fun c nc => ?_⟩
        refine ⟨_, rfl, by show 3 ≤ sizeLine; decide, fun a na => ?_⟩
        exact fin c [1] _ (same_new' s4 nc) (s4.free nc) upd_same (by decide) (by decide) a na
      · refine ⟨_, rfl, by show 3 ≤ sizeLine; decide, fun a na => ?_⟩
        refine fin D _ _ s4 nDH (s3 _ _ e2) ?_ (by rw [List.length_map]; exact hl) a na
        have hne : ¬ (ns.map fun i => if i < 0 then -i else i) = [] := fun e => h (decide_eq_true e)
        exact List.length_pos_iff.mpr hne

/-- a draw below n -/
def spDraw : Sp := fun vs H Q _ => ∃ (a c : Addr) (n : Int), vs = [.ref a, .int n] ∧ StAt H a c ∧ 0 < n ∧ n < 1073741824 ∧ ∀ r H', 0 ≤ r → r < n → StAt H' a c → Fr a c H H' → Q (.int r) H'
abbrev nDraw : List Str := ["state", "size_most", "at", "cells", "cell"]
theorem sc_draw : FnScope nDraw ["state", "size_most"] (defScope s_draw) := ⟨rfl, rfl, rfl, by decide +kernel, rfl, by decide +kernel, by decide +kernel⟩
theorem ok_draw {f : Addr} {fd : FuncData} (D : Df K mg "_law_draw" s_draw ["state", "size_most"] f fd) (T : Bi mg) : FnOk P w K mg base CX0 1 f fd ["state", "size_most"] spDraw := by
  refine D.F.ok sc_draw (fun vs H Q E h => ?_) (fun cdv A outer s H vs Q E hr h => ?_)
  · obtain ⟨a, c, n, rfl, _⟩ := h; rfl
  · obtain ⟨a, c, n, rfl, ⟨i, h, cs, nac, ha, hc, c0, c63, h0, hm⟩, n0, n30, q⟩ := h
    refine ⟨_, pss_cons (ps_set (i := 2) sc_draw.nd rfl (Or.inl rfl) (pe_op op_mod (pe_ix ix_list (pv 0) pe_int (fun _ _ => rfl)) (pe_callB call_len_seq (by rfl) T.len PySem.boot_len (pa_cons (pe_ix ix_list (pv 0) pe_int (fun _ _ => rfl)) pa_nil))))
      (pss_cons (ps_set (i := 3) sc_draw.nd rfl (Or.inl rfl) (pe_ix ix_list (pv 0) pe_int (fun _ _ => rfl)))
      (pss_cons (ps_set (i := 4) sc_draw.nd rfl (Or.inl rfl) (pe_ix ix_list (pv 3) (pv 2) (fun _ _ => rfl)))
      (pss_cons (ps_if (pt_cmpR op_ge (pv 4) (pe_op op_pow pe_int pe_int) (nomark _))
        (pss_cons (ps_asg (pe_op op_fdivW (pv 4) (pv 1)) (pg_sub (pv 3) (pv 2) set_list (fun _ => rfl))) (pss_one (ps_ret (pe_op op_mod (pv 4) (pv 1))))) pss_nil)
      (pss_cons (ps_asg (pe_op op_add (pe_ix ix_list (pv 0) pe_int (fun _ _ => rfl)) pe_int) (pg_sub (pv 0) pe_int set_list (fun _ => rfl)))
      (pss_cons (ps_asg (pe_op op_mod (pe_op op_add (pe_op op_add (pe_op op_mul (pe_ix ix_list (pv 0) pe_int (fun _ _ => rfl)) pe_int) (pv 4)) pe_int) pe_int) (pg_sub (pv 0) pe_int set_list (fun _ => rfl)))
      (pss_one (ps_ret (pe_op op_mod (pe_op op_fdiv (pe_op op_mod (pe_op op_mul (pe_ix ix_list (pv 0) pe_int (fun _ _ => rfl)) (pe_ix ix_list (pv 0) pe_int (fun _ _ => rfl))) pe_int) pe_int) (pv 1))))))))), ?_⟩
    have lpos : (0 : Int) < ((cs.map V.int).length : Nat) := by rw [List.length_map]; omega
    have m0 : 0 ≤ i % ((cs.map V.int).length : Nat) := Int.emod_nonneg _ (by omega)
    have m1 : i % ((cs.map V.int).length : Nat) < ((cs.map V.int).length : Nat) := Int.emod_lt_of_pos _ lpos
    refine ⟨_, rfl, a, _, 1, .int i, rfl, rfl, lof ha, rfl, _, rfl, a, _, 0, .ref c, rfl, rfl, lof ha, rfl, c, _, rfl, .inl (lof hc), i, _, rfl, rfl, lpos, ?_⟩
    refine ⟨_, rfl, a, _, 0, .ref c, rfl, rfl, lof ha, rfl, ?_⟩
    let j := i % ((cs.map V.int).length : Nat)
    have jl : j.toNat < cs.length := by have m2 : j < ((cs.map V.int).length : Nat) := m1; rw [List.length_map] at m2; have m3 : 0 ≤ j := m0; omega
    have hget : (cs.map V.int)[j.toNat]? = some (.int cs[j.toNat]) := by rw [List.getElem?_map, List.getElem?_eq_getElem jl]; rfl
    obtain ⟨z, hz⟩ : ∃ z, cs[j.toNat] = z := ⟨_, rfl⟩
    rw [hz] at hget
    refine ⟨_, rfl, _, rfl, c, _, j, .int z, rfl, rfl, lof hc, atI_lt m0 m1 hget, ?_⟩
    refine ⟨_, rfl, 10, 18, rfl, rfl, ⟨by decide, by decide, by decide⟩, z, _, rfl, rfl, _, rfl, ?_⟩
    refine ite2 (fun _ => ?_) (fun _ => ?_)
    · -- a large cell gives its last digit
      refine ⟨_, rfl, _, rfl, z, n, rfl, rfl, wide_div n0 (b := 30) (by omega) (by decide) (by decide), _, rfl, _, rfl, c, _, j, _, rfl, rfl, hc, ixN_lt m0 m1, ?_⟩
      refine ⟨_, rfl, _, rfl, z, n, rfl, rfl, n0, q _ _ (Int.emod_nonneg _ (by omega)) (Int.emod_lt_of_pos _ n0) ⟨i, h, cs.set j.toNat (z / n), nac, by rw [upd_ne nac]; exact ha, ?_, by rw [List.length_set]; exact c0, by rw [List.length_set]; exact c63, h0, hm⟩ fun b o _ nb e => by rw [upd_ne nb]; exact e⟩
      rw [upd_same, List.map_set]
    · refine ⟨_, rfl, a, _, 1, .int i, rfl, rfl, lof ha, rfl, i, 1, rfl, rfl, _, rfl, a, _, 1, 1, rfl, rfl, ha, rfl, ?_⟩
      refine ⟨_, rfl, a, _, 2, .int h, rfl, rfl, lof upd_same, rfl, h, 48271, rfl, rfl, .inr ⟨by decide, by decide⟩, _, rfl, _, z, rfl, rfl, _, 12345, rfl, rfl, _, 2147483647, rfl, rfl, (show (0 : Int) < 2147483647 by decide), ?_⟩
      have g0 : 0 ≤ (h * 48271 + z + 12345) % 2147483647 := Int.emod_nonneg _ (by decide)
      have g1 : (h * 48271 + z + 12345) % 2147483647 < 2147483647 := Int.emod_lt_of_pos _ (by decide)
      let g := (h * 48271 + z + 12345) % 2147483647
      refine ⟨_, rfl, a, _, 2, 2, rfl, rfl, upd_same, rfl, ?_⟩
      refine ⟨_, rfl, a, _, 2, .int g, rfl, rfl, lof upd_same, rfl, _, rfl, a, _, 2, .int g, rfl, rfl, lof upd_same, rfl, g, g, rfl, rfl, .inl ⟨Int.lt_of_lt_of_le (by decide) g0, Int.lt_trans g1 (by decide)⟩, _, 2147483629, rfl, rfl, (show (0 : Int) < 2147483629 by decide), _, 16, rfl, rfl, ⟨by decide, by decide⟩, _, rfl, _, n, rfl, rfl, n0, ?_⟩
      refine q _ _ (Int.emod_nonneg _ (by omega)) (Int.emod_lt_of_pos _ n0) ⟨i + 1, g, cs, nac, upd_same, by rw [upd_ne nac.symm, upd_ne nac.symm]; exact hc, c0, c63, g0, g1⟩ fun b o na _ e => by rw [upd_ne na, upd_ne na]; exact e
end
end As

/-! ## B9 -/
namespace As
open PySem PySem.Spec PyProof.Rows L2
section
variable {P : Program} {w : World} {K : PySem.W.Frag} {mg : Str → Option Value} {base : Heap}
def spPick : Sp := fun vs H Q _ => ∃ (a c : Addr) (x : V), vs = [.ref a, x] ∧ StAt H a c ∧
  ((∃ (s : Addr) (xs : List V), x = .ref s ∧ s ≠ a ∧ s ≠ c ∧ H s = some (.lst xs) ∧ 0 < xs.length ∧ xs.length < 1000000 ∧ ∀ v H', v ∈ xs → StAt H' a c → Fr a c H H' → Q v H') ∨
   ∃ z : Str, x = .str z ∧ 0 < z.length ∧ z.length < 1000000 ∧ ∀ (k : Nat) H', k ∈ z.cps.toList → StAt H' a c → Fr a c H H' → Q (.str ⟨#[k]⟩) H')
theorem sc_pick : FnScope ["state", "some"] ["state", "some"] (defScope s_pick) := ⟨rfl, rfl, rfl, by decide +kernel, rfl, by decide +kernel, by decide +kernel⟩
theorem ok_pick {f fd' : Addr} {fd dd : FuncData} (D : Df K mg "_law_pick" s_pick ["state", "some"] f fd) (T : Bi mg) (Dd : Df K mg "_law_draw" s_draw ["state", "size_most"] fd' dd) (Gd' : FnOk P w K mg base CX0 1 fd' dd ["state", "size_most"] spDraw) :
    FnOk P w K mg base CX0 2 f fd ["state", "some"] spPick := by
  refine D.F.ok sc_pick (fun vs H Q E h => ?_) (fun cdv A outer s H vs Q E hr h => ?_)
  · obtain ⟨a, c, x, rfl, _⟩ := h; rfl
  · obtain ⟨a, c, x, rfl, st, q⟩ := h
    refine ⟨_, pss_one (ps_ret (pe_ix ix_seq (pv 1) (pcall Dd Gd' hr (pa_cons (pv 0) (pa_cons (pe_callB call_len (by rfl) T.len PySem.boot_len (pa_cons (pv 1) pa_nil)) pa_nil))) (fun _ _ => rfl))), ?_⟩
    rcases q with ⟨s, xs, rfl, na, nc, hs, l0, l1, q⟩ | ⟨z, rfl, l0, l1, q⟩
    · refine ⟨_, rfl, _, rfl, _, rfl, _, _, rfl, .inl ⟨xs, lof hs, rfl⟩, a, c, (xs.length : Nat), rfl, st, by omega, by omega, fun r H' r0 r1 st' fr => ?_⟩
      have hi : r.toNat < xs.length := by omega
      exact .inl ⟨s, xs, r, xs[r.toNat], rfl, rfl, lof (fr _ _ na nc hs), atI_lt r0 r1 (List.getElem?_eq_getElem hi), q _ _ (List.getElem_mem hi) st' fr⟩
    · refine ⟨_, rfl, _, rfl, _, rfl, .str z, _, rfl, ⟨Nat.le_of_lt (Nat.lt_trans l1 (by decide)), rfl⟩, a, c, (z.length : Nat), rfl, st, by omega, by omega, fun r H' r0 r1 st' fr => ?_⟩
      have hi : r.toNat < z.cps.toList.length := by rw [Array.length_toList]; have := @str_len z; omega
      exact .inr (.inr ⟨z, r, z.cps.toList[r.toNat], rfl, rfl, Nat.le_of_lt (Nat.lt_trans l1 (by decide)), atI_lt r0 (by rw [Array.length_toList]; exact r1) (List.getElem?_eq_getElem hi), q _ _ (List.getElem_mem hi) st' fr⟩)

/-- plain data, not deep -/
def Plain (K : PySem.W.Frag) (B : Hp) (x : V) : Prop := ∃ d, Dp K B x d ∧ PyData.canLay0 d = true ∧ PyData.depth d ≤ 2
mutual
theorem dp_same {K : PySem.W.Frag} {H H' : Hp} (e : Same H H') : ∀ {v : V} {d : PyData}, Dp K H v d → Dp K H' v d
  | _, _, .non => .non
  | _, _, .bl b => .bl b
  | _, _, .int i => .int i
  | _, _, .str x => .str x
  | _, _, .lst h a => .lst (e.seq h) (dpAll_same e a)
  | _, _, .tup h a => .tup (same_t e h) (dpAll_same e a)
theorem dpAll_same {K : PySem.W.Frag} {H H' : Hp} (e : Same H H') : ∀ {vs : List V} {ds : List PyData}, DpAll K H vs ds → DpAll K H' vs ds
  | _, _, .nil => .nil
  | _, _, .cons h a => .cons (dp_same e h) (dpAll_same e a)
end
theorem plain_all {B : Hp} : ∀ {xs : List V}, (∀ x ∈ xs, Plain K B x) → ∃ ds, DpAll K B xs ds ∧ PyData.canLayAll0 ds = true ∧ PyData.depthAll ds ≤ 2
  | [], _ => ⟨[], .nil, by simp [PyData.canLayAll0], by simp [PyData.depthAll]⟩
  | x :: xs, h => by
    obtain ⟨ds, h1, h2, h3⟩ := plain_all fun y hy => h y (List.mem_cons_of_mem _ hy)
    obtain ⟨d, g1, g2, g3⟩ := h x List.mem_cons_self
    refine ⟨d :: ds, .cons g1 h1, ?_, ?_⟩
    · simp only [PyData.canLayAll0, g2, h2, Bool.and_self]
    · simp only [PyData.depthAll]; omega
theorem dpAll_len {B : Hp} : ∀ {xs : List V} {ds : List PyData}, DpAll K B xs ds → xs.length = ds.length
  | _, _, .nil => rfl
  | _, _, .cons _ a => by rw [List.length_cons, List.length_cons, dpAll_len a]
/-- xs != [] -/
theorem ne_nil {B H : Hp} {l e : Addr} {xs : List V} {Q : VK} (pl : ∀ x ∈ xs, Plain K B x) (s : Same B H) (h : H l = some (.lst xs)) (he : H e = some (.lst [])) (q : Q (.bl (!decide (xs = []))) H) : rNeD K (.ref l) (.ref e) H Q := by
  obtain ⟨ds, h1, h2, h3⟩ := plain_all pl
  refine ⟨_, _, .lst (lof h) (dpAll_same s h1), .lst (lof he) .nil, shaped_lst h2 h3, shaped_lst (by simp [PyData.canLayAll0]) (by simp [PyData.depthAll]), ?_⟩
  have hl := dpAll_len h1
  have e : PyData.eqv (.list ds) (.list []) = decide (xs = []) := by
    cases ds with
    | nil => cases xs with
      | nil => simp [PyData.eqv, PyData.eqvAll]
      | cons => simp at hl
    | cons => cases xs with
      | nil => simp at hl
      | cons => simp [PyData.eqv, PyData.eqvAll]
  rw [e]; exact q
theorem eq_nil {B H : Hp} {l e : Addr} {xs : List V} {Q : VK} (pl : ∀ x ∈ xs, Plain K B x) (s : Same B H) (h : H l = some (.lst xs)) (he : H e = some (.lst [])) (q : Q (.bl (decide (xs = []))) H) : rEqD K (.ref l) (.ref e) H Q := by
  obtain ⟨ds, h1, h2, h3⟩ := plain_all pl
  refine ⟨_, _, .lst (lof h) (dpAll_same s h1), .lst (lof he) .nil, shaped_lst h2 h3, shaped_lst (by simp [PyData.canLayAll0]) (by simp [PyData.depthAll]), ?_⟩
  have hl := dpAll_len h1
  have e : PyData.eqv (.list ds) (.list []) = decide (xs = []) := by
    cases ds with
    | nil => cases xs with
      | nil => simp [PyData.eqv, PyData.eqvAll]
      | cons => simp at hl
    | cons => cases xs with
      | nil => simp at hl
      | cons => simp [PyData.eqv, PyData.eqvAll]
  rw [e]; exact q
theorem seq_at {r : Int} {n : Nat} (h0 : 0 ≤ r) (h1 : r < n) : seqIndex? r n = some r.toNat := (ixN_seq (ixN_lt h0 h1)).1

theorem erase_perm {α : Type} : ∀ (xs : List α) (i : Nat) (h : i < xs.length), ([xs[i]] ++ xs.eraseIdx i).Perm xs
  | x :: xs, 0, _ => .refl _
  | x :: xs, i + 1, h => by
    have hi : i < xs.length := by simpa using h
    have ih := erase_perm xs i hi
    show (xs[i] :: x :: xs.eraseIdx i).Perm (x :: xs)
    exact (List.Perm.swap x xs[i] _).trans (ih.cons x)
def spMixed (K : PySem.W.Frag) : Sp := fun vs H Q _ => ∃ (a c s : Addr) (xs : List V) (B : Hp), vs = [.ref a, .ref s] ∧ Gd a c B H ∧ H s = some (.lst xs) ∧ xs.length ≤ 1000 ∧ (∀ x ∈ xs, Plain K B x) ∧
  ∀ p ys B' H', ys.Perm xs → Same B B' → Gd a c B' H' → H p = none → B' p = some (.lst ys) → Q (.ref p) H'
abbrev nMixed : List Str := ["state", "some", "left", "found"]
theorem sc_mixed : FnScope nMixed ["state", "some"] (defScope s_mixed) := ⟨rfl, rfl, rfl, by decide +kernel, rfl, by decide +kernel, by decide +kernel⟩
theorem ok_mixed {f fd' : Addr} {fd dd : FuncData} (D : Df K mg "_law_mixed" s_mixed ["state", "some"] f fd) (T : Bi mg) (Dd : Df K mg "_law_draw" s_draw ["state", "size_most"] fd' dd) (Gd' : FnOk P w K mg base CX0 1 fd' dd ["state", "size_most"] spDraw) :
    FnOk P w K mg base CX0 2 f fd ["state", "some"] (spMixed K) := by
  refine D.F.ok sc_mixed (fun vs H Q E h => ?_) (fun cdv A outer s H vs Q E hr h => ?_)
  · obtain ⟨a, c, s, xs, B, rfl, _⟩ := h; rfl
  · obtain ⟨a, c, s, xs, B, rfl, g, hs, hl, pl, q⟩ := h
    refine ⟨_, pss_cons (ps_par (i := 2) (j := 3) rfl sc_mixed.nd rfl rfl (by decide) rfl rfl (pa_cons (pe_callTy call_list_of (by rfl) T.list boot_list (pa_cons (pv 1) pa_nil)) (pa_cons (pe_lst pa_nil) pa_nil)) (by rfl))
      (pss_cons (ps_while PassesOwn.never (pt_cmpR (op_neD (hu64 hr)) (pv 2) (pe_lst pa_nil) (nomark _))
        (pss_one (ps_expr (pe_bm PySem.F.plainAttrs_list PySem.F.slot_list_append PySem.F.type_list_append mt_append (pv 3)
          (pa_cons (pe_bm PySem.F.plainAttrs_list PySem.F.slot_list_pop PySem.F.type_list_pop mt_popAt (pv 2) (pa_cons (pcall Dd Gd' hr (pa_cons (pv 0) (pa_cons (pe_callB call_len_seq (by rfl) T.len PySem.boot_len (pa_cons (pv 2) pa_nil)) pa_nil))) pa_nil)) pa_nil)))))
      (pss_one (ps_ret (pv 3)))), ?_⟩
    refine ⟨_, rfl, s, xs, rfl, .inl (lof hs), fun l nl => ⟨Nat.zero_le _, fun f nf => ⟨_, _, rfl, ?_⟩⟩⟩
    have g1 := g.new (o := .lst xs) nl
    have g2 := g1.new (o := .lst []) nf
    have nlf : l ≠ f := ne_of_none upd_same nf
    have nHf : H f = none := by rw [upd_ne nlf.symm] at nf; exact nf
    refine while_by (fun σ H' => ∃ ls fs, σ = [some (.ref a), some (.ref s), some (.ref l), some (.ref f)] ∧ Gd a c B H' ∧ H' l = some (.lst ls) ∧ H' f = some (.lst fs) ∧ (fs ++ ls).Perm xs)
      (fun σ H' => match H' l with | some (.lst ls) => ls.length | _ => 0) ⟨xs, [], rfl, g2, by rw [upd_ne nlf, upd_same], upd_same, .refl _⟩ ?_ ?_
    · rintro σ H' ⟨ls, fs, rfl, g', h1, h2, pm⟩
      have sub : ∀ x ∈ ls, x ∈ xs := fun x hx => pm.mem_iff.mp (List.mem_append_right _ hx)
      have len : fs.length + ls.length = xs.length := by rw [← List.length_append]; exact pm.length_eq
      refine ⟨_, rfl, Nat.zero_le _, fun e ne => ?_⟩
      have s3 : Same H' (upd H' e (.lst [])) := same_new ne
      refine ne_nil (fun x hx => pl x (sub x hx)) (g'.ex.trans s3) (s3 _ _ h1) upd_same ⟨_, rfl, ?_⟩
      have g3 := g'.same s3
      have k1 := s3 _ _ h1
      have k2 := s3 _ _ h2
      generalize upd H' e (.lst []) = H3 at g3 k1 k2 ⊢
      refine ite2 (fun hne => ?_) (fun hn => ?_)
      · have lne : ls ≠ [] := fun z => by rw [z] at hne; simp at hne
        have lpos : 0 < ls.length := List.length_pos_iff.mpr lne
        refine ⟨_, rfl, .inl ⟨rfl, _, lof k2⟩, _, rfl, .inl ⟨rfl, _, lof k1⟩, _, rfl, _, rfl, l, ls, rfl, .inl (lof k1), a, c, (ls.length : Nat), rfl, g3.st, by omega, by omega, fun r H4 r0 r1 st4 fr4 => ?_⟩
        have la := g.ne_a nl
        have lc := g.ne_c nl
        have fa := g.ne_a nHf
        have fc := g.ne_c nHf
        have k4 := fr4 _ _ la lc k1
        have k5 := fr4 _ _ fa fc k2
        have g4 := g3.fr fr4 st4
        have hi : r.toNat < ls.length := by omega
        refine ⟨l, ls, r, r.toNat, ls[r.toNat], rfl, rfl, k4, by omega, by omega, seq_at r0 r1, List.getElem?_eq_getElem hi, ?_⟩
        refine ⟨f, fs, _, rfl, rfl, by rw [upd_ne nlf.symm]; exact k5, Nat.lt_of_le_of_lt (show fs.length ≤ 1000 by omega) (by decide), ?_⟩
        have g5 := (g4.chg (o := .lst (ls.eraseIdx r.toNat)) (g.free nl) la lc).chg (o := .lst (fs ++ [ls[r.toNat]])) (g.free nHf) fa fc
        have e1 : (upd (upd H4 l (.lst (ls.eraseIdx r.toNat))) f (.lst (fs ++ [ls[r.toNat]]))) l = some (.lst (ls.eraseIdx r.toNat)) := by rw [upd_ne nlf, upd_same]
        refine ⟨⟨ls.eraseIdx r.toNat, fs ++ [ls[r.toNat]], rfl, g5, e1, upd_same, ?_⟩, ?_⟩
        · refine List.Perm.trans ?_ pm
          rw [List.append_assoc]
          refine List.Perm.append_left fs ?_
          exact erase_perm _ _ hi
        · show (match (upd (upd H4 l (.lst (ls.eraseIdx r.toNat))) f (.lst (fs ++ [ls[r.toNat]]))) l with | some (.lst ls) => ls.length | _ => 0) < (match H' l with | some (.lst ls) => ls.length | _ => 0)
          rw [e1, h1]
          show (ls.eraseIdx r.toNat).length < ls.length
          rw [List.length_eraseIdx, if_pos hi]; omega
      · have l0 : ls = [] := by
          cases ls with
          | nil => rfl
          | cons x t => exact absurd (by simp) hn
        subst l0
        rw [List.append_nil] at pm
        have fa := g.ne_a nHf
        have fc := g.ne_c nHf
        exact ⟨_, rfl, q f fs (upd B f (.lst fs)) H3 pm (same_new (g.free nHf)) (g3.know k2 fa fc) nHf upd_same⟩
    · rintro σ H' Q1 Q2 imp ⟨v, hv, sz, k⟩
      refine ⟨v, hv, sz, fun p np => ?_⟩
      obtain ⟨d, e, h1, h2, h3, h4, b, hb, q⟩ := k p np
      exact ⟨d, e, h1, h2, h3, h4, b, hb, imp _ _ q⟩
end
end As

/-! ## B10 -/
namespace As
open PySem PySem.Spec PyProof.Rows L2 TL
section
variable {P : Program} {w : World} {K : PySem.W.Frag} {mg : Str → Option Value} {base : Heap}
/-- distinct names -/
structure Names (ws : List Str) : Prop where
  nd : ws.Nodup
  nm : ∀ x ∈ ws, nameB x = true
def spNames : Sp := fun vs H Q _ => ∃ (a c : Addr) (n : Int) (B : Hp), vs = [.ref a, .int n] ∧ Gd a c B H ∧ 1 ≤ n ∧ n ≤ 8 ∧ ∀ p ws B' H', Same B B' → Gd a c B' H' → H p = none → B' p = some (.lst (ws.map V.str)) → ws.length = n.toNat → Names ws → Q (.ref p) H'
abbrev nNames : List Str := ["state", "size", "found", "letters", "k", "word", "some", "sign", "one"]
theorem sc_names : FnScope nNames ["state", "size"] (defScope s_names) := ⟨rfl, rfl, rfl, by decide +kernel, rfl, by decide +kernel, by decide +kernel⟩
theorem signs_sum : ∀ cs : List Nat, ((cs.map sg).map (·.length)).sum = cs.length
  | [] => rfl
  | c :: r => by rw [List.map_cons, List.map_cons, List.sum_cons, signs_sum r, List.length_cons]; show 1 + r.length = r.length + 1; omega
theorem menu_name {w1 : Str} (h : nameB w1 = true) {v : V} (hv : v ∈ [V.str w1, V.str w1, V.str w1, V.str (Str.ofString "column"), V.str (Str.ofString "table"), V.str (Str.ofString "fact"), V.str (Str.ofString "price"), V.str (Str.ofString "plan"), V.str (Str.ofString "a")]) : ∃ z, v = .str z ∧ nameB z = true := by
  simp only [List.mem_cons, List.not_mem_nil, or_false] at hv
  rcases hv with rfl | rfl | rfl | rfl | rfl | rfl | rfl | rfl | rfl
  · exact ⟨_, rfl, h⟩
  · exact ⟨_, rfl, h⟩
  · exact ⟨_, rfl, h⟩
  · exact ⟨_, rfl, by decide +kernel⟩
  · exact ⟨_, rfl, by decide +kernel⟩
  · exact ⟨_, rfl, by decide +kernel⟩
  · exact ⟨_, rfl, by decide +kernel⟩
  · exact ⟨_, rfl, by decide +kernel⟩
  · exact ⟨_, rfl, by decide +kernel⟩
theorem abc_len : 0 < abc.length ∧ abc.length < 1000000 := by decide +kernel
theorem ok_names {f fp fd' : Addr} {fd dp dd : FuncData} (D : Df K mg "_law_names" s_names ["state", "size"] f fd) (T : Bi mg) (Dd : Df K mg "_law_draw" s_draw ["state", "size_most"] fd' dd) (Gd' : FnOk P w K mg base CX0 1 fd' dd ["state", "size_most"] spDraw)
    (Dp : Df K mg "_law_pick" s_pick ["state", "some"] fp dp) (Gp : FnOk P w K mg base CX0 2 fp dp ["state", "some"] spPick) : FnOk P w K mg base CX0 3 f fd ["state", "size"] spNames := by
  refine D.F.ok sc_names (fun vs H Q E h => ?_) (fun cdv A outer s H vs Q E hr h => ?_)
  · obtain ⟨a, c, n, B, rfl, _⟩ := h; rfl
  · obtain ⟨a, c, n, B, rfl, g, n1, n8, q⟩ := h
    have hr1 : Room 1 _ := hr.mono (by decide)
    refine ⟨_, pss_cons (ps_asg (pe_tup (pa_cons (pe_lst pa_nil) (pa_cons pe_str pa_nil))) (pg_tup rfl (pgs_cons (pg_name (i := 2) sc_names.nd rfl (Or.inr rfl)) (pgs_cons (pg_name (i := 3) sc_names.nd rfl (Or.inr rfl)) pgs_nil))))
      (pss_cons (ps_for PassesOwn.never rfl (pi_range1 rfl T.range (pa_cons (pv 1) pa_nil)) (pg_name (i := 4) sc_names.nd rfl (Or.inl rfl))
        (pss_cons (ps_set (i := 5) sc_names.nd rfl (Or.inr rfl) (pe_join pe_str (pe_lc (own := [("sign", 7)]) (g := gName 7) (tt := tYes) rfl sc_names.nd (pi_range1 rfl T.range (pa_cons (pe_op op_add pe_int (pcall Dd Gd' hr1 (pa_cons (pv 0) (pa_cons pe_int pa_nil)))) pa_nil))
            (blkOk_by (N := nNames) (sc := defScope s_names) (by decide +kernel)) (fun _ _ _ _ _ => pg_name (i := 7) sc_names.nd rfl (Or.inl rfl)) (fun _ _ _ _ _ => pts_nil) (fun _ _ _ _ _ => pcall Dp Gp hr (pa_cons (pv 0) (pa_cons (pv 3) pa_nil))))))
        (pss_cons (ps_set (i := 5) sc_names.nd rfl (Or.inr rfl) (pcall Dp Gp hr (pa_cons (pv 0) (pa_cons (pe_lst (pa_cons (pv 5) (pa_cons (pv 5) (pa_cons (pv 5) (pa_cons pe_str (pa_cons pe_str (pa_cons pe_str (pa_cons pe_str (pa_cons pe_str (pa_cons pe_str pa_nil)))))))))) pa_nil))))
        (pss_cons (ps_set (i := 6) sc_names.nd rfl (Or.inl rfl) (pe_op op_cat (pe_lst (pa_cons (pv 5) pa_nil)) (pe_lc (own := [("sign", 7)]) (g := gName 7) (tt := tYes) rfl sc_names.nd (pi_str (pv 3))
            (blkOk_by (N := nNames) (sc := defScope s_names) (by decide +kernel)) (fun _ _ _ _ _ => pg_name (i := 7) sc_names.nd rfl (Or.inl rfl)) (fun _ _ _ _ _ => pts_nil) (fun _ _ _ _ _ => pe_op op_add_str (pe_slice sl_str (pv 5) po_none (po_some pe_int)) (pv 7)))))
        (pss_one (ps_expr (pe_bm PySem.F.plainAttrs_list PySem.F.slot_list_append PySem.F.type_list_append mt_append (pv 2) (pa_cons (pe_ix ix_list (pe_lc (own := [("one", 8)]) (g := gName 8) (tt := tTest (tOp (rIn K true) (tVar 8) (tVar 2))) rfl sc_names.nd (pi_list (pv 6))
            (blkOk_by (N := nNames) (sc := defScope s_names) (by decide +kernel)) (fun _ _ _ _ _ => pg_name (i := 8) sc_names.nd rfl (Or.inl rfl)) (fun _ _ _ _ _ => pts_one (pt_cmpR (notInK K) (pv 8) (pv 2) rfl)) (fun _ _ _ _ _ => pv 8)) pe_int (fun _ _ => rfl)) pa_nil))))))))
      (pss_one (ps_ret (pv 2)))), ?_⟩
    refine ⟨Nat.zero_le _, fun f nf => ⟨by show 2 ≤ sizeLine; decide, fun t nt => ⟨t, _, rfl, tof upd_same, rfl, _, _, rfl, _, _, rfl, rfl, ?_⟩⟩⟩
    have ntf : t ≠ f := (ne_of_none upd_same nt).symm
    have ga := (g.new (o := .lst []) nf).new (o := .tup [V.ref f, V.str (Str.ofString "abcdefghijklmnopqrstuvwxyz")]) nt
    have fa := g.ne_a nf
    have fc := g.ne_c nf
    have fB : B f = none := g.free nf
    refine ⟨_, rfl, n, rfl, by omega, by omega, for_range (lo := 0) (n := n.toNat) (fun i σ H' => ∃ (B' : Hp) (fs : List Str) (x4 x5 x6 x7 x8 : Option V), σ = [some (.ref a), some (.int n), some (.ref f), some (.str abc), x4, x5, x6, x7, x8] ∧ Same B B' ∧ Gd a c B' H' ∧ B' f = none ∧
        H' f = some (.lst (fs.map V.str)) ∧ fs.length = i ∧ Names fs) ⟨B, [], none, none, none, none, none, rfl, Same.refl B, ga, fB, by rw [upd_ne ntf.symm, upd_same]; rfl, rfl, ⟨List.nodup_nil, fun _ z => nomatch z⟩⟩ ?_ ?_⟩
    · rintro i σ H0 hi ⟨B0, fs, x4, x5, x6, x7, x8, rfl, s0, g0, f0, hf0, len, nms⟩
      have gk := g0.know hf0 fa fc
      have sk : Same B (upd B0 f (.lst (fs.map V.str))) := same_new' s0 f0
      have kf : (upd B0 f (.lst (fs.map V.str))) f = some (.lst (fs.map V.str)) := upd_same
      generalize upd B0 f (.lst (fs.map V.str)) = B1 at gk sk kf
      -- the word of letters
      refine ⟨⟨_, rfl⟩, _, rfl, a, c, 8, rfl, gk.st, by decide, by decide, fun r H3 r0 r1 st3 fr3 => ⟨1, r, rfl, rfl, 1 + r, rfl, by omega, by omega, fun D hD => ?_⟩⟩
      have g3 := gk.fr fr3 st3
      refine lc_draw (B := B1) (H1 := H3) (a := a) (c := c) walk_range g3 hD (fun _ _ _ _ => trivial) (Nat.lt_of_le_of_lt (show (1 + r).toNat ≤ 8 by omega) (by decide)) (fun i acc _ => ∃ cs : List Nat, acc = (cs.map sg).map V.str ∧ cs.length = i ∧ ∀ k ∈ cs, letter k = true)
        ⟨[], rfl, rfl, fun _ z => nomatch z⟩ (fun _ _ _ _ h _ => h) (fun i acc _ ⟨cs, e, l, _⟩ => by rw [e, List.length_map, List.length_map, l]; exact Nat.le_refl _) (fun j H4 B4 acc Q1 Q2 hj s4 g4 p4 d4 k1 k2 => ?_) (fun H4 B4 acc s4 g4 d4 p4 => ?_)
      · obtain ⟨cs, rfl, lc, ls⟩ := p4
        refine ⟨rfl, ?_⟩
        refine iteT (B := Q2 H4) ?_
        refine ⟨_, rfl, _, rfl, a, c, .str abc, rfl, g4.st, .inr ⟨abc, rfl, abc_len.1, abc_len.2, fun k H5 hk st5 fr5 => k1 _ _ B4 (Same.refl _) (g4.fr fr5 st5) ⟨cs ++ [k], ?_, ?_, fun x hx => ?_⟩⟩⟩
        · rw [List.map_append, List.map_append]; rfl
        · rw [List.length_append, lc]; rfl
        · rcases List.mem_append.mp hx with hx | hx
          · exact ls x hx
          · rw [List.mem_singleton] at hx; rw [hx]; exact abc_letter k hk
      · obtain ⟨cs, rfl, lcs, ls⟩ := p4
        refine ⟨_, D, cs.map sg, rfl, rfl, .inl (lof (g4.ex _ _ d4)), ?_, ?_⟩
        · rw [signs_sum, List.length_map]
          have : (Str.ofString "").length = 0 := by decide +kernel
          rw [this, lcs]; omega
        have w1 : nameB (Txt.join (Str.ofString "") (cs.map sg)) = true := by
          rw [nameB_iff, join_signs]
          exact ⟨by omega, ls⟩
        generalize Txt.join (Str.ofString "") (cs.map sg) = wd at w1 ⊢
        have kf4 : B4 f = some (.lst (fs.map V.str)) := s4 _ _ kf
        -- or one of the words
        refine ⟨_, rfl, _, rfl, _, rfl, _, rfl, by show 9 ≤ sizeLine; decide, fun L nL => ⟨a, c, .ref L, rfl, (g4.new nL).st, .inl ⟨L, _, rfl, g4.ne_a nL, g4.ne_c nL, upd_same, by show 0 < 9; decide, by show 9 < 1000000; decide, fun v H6 hv st6 fr6 => ?_⟩⟩⟩
        obtain ⟨z, rfl, hz⟩ := menu_name w1 hv
        have g6 := (g4.new nL).fr fr6 st6
        -- the words that may stand in for it
        refine ⟨_, rfl, by show 1 ≤ sizeLine; decide, fun L1 n1 => ?_⟩
        have g7 := g6.new (o := .lst [V.str z]) n1
        have h7 : (upd H6 L1 (.lst [V.str z])) L1 = some (.lst [V.str z]) := upd_same
        generalize upd H6 L1 (.lst [V.str z]) = H7 at g7 h7 ⊢
        refine ⟨_, rfl, abc, rfl, fun D2 nD2 => lc_same (B := H7) walk_sign signs_length.symm (Same.refl H7) nD2 (fun _ _ => trivial) (by rw [signs_length]; exact Nat.lt_trans abc_len.2 (by decide))
          (fun x => match x with | .str y => some (.str (cutS z none (some 7) ++ y)) | _ => none) (fun x H8 Q1 Q2 hx s8 k1 k2 => ?_) (fun H8 s8 hD8 => ?_)⟩
        · obtain ⟨k, hk, rfl⟩ := List.mem_map.mp hx
          refine ⟨rfl, ?_⟩
          refine iteT (B := Q2 H8) ?_
          refine ⟨_, rfl, 7, rfl, z, rfl, name_line hz, _, rfl, _, _, rfl, rfl, ?_, k1 _ _ rfl (Same.refl _)⟩
          have e1 := cutS_length z none (some 7)
          have e2 := (name_len hz).2
          refine Nat.le_trans (m := 9) ?_ (by decide)
          show (cutS z none (some 7)).length + 1 ≤ 9
          omega
        · have e8 : H8 D2 = some (.lst (((tl abc).map (longer z)).map V.str)) := by
            rw [hD8]
            unfold signs
            rw [List.filterMap_map, List.map_map, ← filterMap_some]
            rfl
          have l8 := s8 _ _ h7
          refine ⟨L1, D2, _, _, rfl, rfl, l8, e8, by rw [List.length_map, List.length_map, abc_tl, List.length_map, List.length_range]; show 27 ≤ sizeLine; decide, fun S nS => ?_⟩
          have g8 := (g7.same s8).new (o := .lst ([V.str z] ++ ((tl abc).map (longer z)).map V.str)) nS
          have hS : (upd H8 S (.lst ([V.str z] ++ ((tl abc).map (longer z)).map V.str))) S = some (.lst ((z :: (tl abc).map (longer z)).map V.str)) := upd_same
          generalize upd H8 S (.lst ([V.str z] ++ ((tl abc).map (longer z)).map V.str)) = H9 at g8 hS ⊢
          have hf9 := g8.ex _ _ kf4
          refine ⟨_, rfl, .inl ⟨rfl, _, lof hf9⟩, _, rfl, S, rfl, ⟨_, lof hS⟩, fun D3 nD3 => lc_same (B := H9) walk_list rfl (Same.refl H9) nD3 (fun H e => lof (e _ _ hS)) (by rw [List.length_map, List.length_cons, List.length_map, abc_tl, List.length_map, List.length_range]; decide)
            (fun x => match x with | .str y => if y ∈ fs then none else some (.str y) | _ => none) (fun x H10 Q1 Q2 hx s10 k1 k2 => ?_) (fun H10 s10 hD10 => ?_)⟩
          · obtain ⟨y, hy, rfl⟩ := List.mem_map.mp hx
            refine ⟨rfl, _, rfl, _, rfl, f, _, rfl, .inl (lof (s10 _ _ hf9)), rfl, flat_strs, _, rfl, ?_⟩
            rw [inV_str]
            by_cases hm : y ∈ fs
            · rw [decide_eq_true hm]
              exact iteF (k2 _ (by show (if y ∈ fs then none else some (V.str y)) = none; rw [if_pos hm]) (Same.refl _))
            · rw [decide_eq_false hm]
              exact iteT ⟨_, rfl, k1 _ _ (by show (if y ∈ fs then none else some (V.str y)) = _; rw [if_neg hm]) (Same.refl _)⟩
          · have e10 : H10 D3 = some (.lst (((z :: (tl abc).map (longer z)).filter (fun y => !decide (y ∈ fs))).map V.str)) := by
              rw [hD10]; congr 2
              generalize (z :: (tl abc).map (longer z)) = ws
              induction ws with
              | nil => rfl
              | cons y r ih =>
                rw [List.map_cons, List.filterMap_cons, List.filter_cons, ih]
                by_cases hm : y ∈ fs
                · simp [hm]
                · simp [hm]
            obtain ⟨x, r', ex, nx⟩ := some_new (z := z) (fs := fs) (by omega)
            rw [ex] at e10
            have nmx := new_name hz ex
            have hf10 := s10 _ _ hf9
            refine ⟨D3, _, 0, .str x, rfl, rfl, lof e10, atI_lt (by decide) (by rw [List.length_map, List.length_cons]; omega) rfl, f, _, .str x, rfl, rfl, hf10, ?_, ?_⟩
            · rw [List.length_map]; exact Nat.lt_of_le_of_lt (show fs.length ≤ 8 by omega) (by decide)
            have g10 := g8.same s10
            refine ⟨rem B4 f, fs ++ [x], _, _, _, _, _, rfl, same_into_rem (sk.trans s4) fB, (g10.less same_rem).chg rem_self fa fc, rem_self, ?_, ?_, ?_⟩
            · rw [upd_same, List.map_append]; rfl
            · rw [List.length_append, len]; rfl
            · refine ⟨?_, fun y hy => ?_⟩
              · rw [List.nodup_append]
                refine ⟨nms.nd, by simp, fun u hu v hv e => ?_⟩
                rw [List.mem_singleton] at hv
                exact nx (by rw [← hv, ← e]; exact hu)
              · rcases List.mem_append.mp hy with hy | hy
                · exact nms.nm y hy
                · rw [List.mem_singleton] at hy; rw [hy]; exact nmx
    · rintro σ H' ⟨B', fs, x4, x5, x6, x7, x8, rfl, s', g', f', hf', len, nms⟩
      exact ⟨_, rfl, q f fs (upd B' f (.lst (fs.map V.str))) H' (same_new' s' f') (g'.know hf' fa fc) nf upd_same len nms⟩
end
end As

/-! ## B11 -/
namespace As
open PySem PySem.Spec PyProof.Rows L2 TL
theorem ne_lst {B : Hp} {D b : Addr} {acc : List V} {o : HO} (hD : B D = some (.lst acc)) (h : B b = some o) (n : ∀ xs, o ≠ .lst xs) : b ≠ D := fun e => by
  subst e; rw [hD] at h; injection h with h; exact n _ h.symm
theorem rem_tup {B : Hp} {D b : Addr} {acc xs : List V} (hD : B D = some (.lst acc)) (h : B b = some (.tup xs)) : rem B D b = some (.tup xs) := by
  rw [rem_ne (ne_lst hD h (fun _ z => nomatch z))]; exact h
theorem getD_str {ws : List Str} {i : Nat} (h : i < ws.length) : (ws.map V.str).getD i .non = .str ws[i] := by
  rw [List.getD_eq_getElem?_getD, List.getElem?_map, List.getElem?_eq_getElem h]; rfl
section
variable {P : Program} {w : World} {K : PySem.W.Frag} {mg : Str → Option Value} {base : Heap}
def spLCols : Sp := fun vs H Q _ => ∃ (a c : Addr) (m sm : Int) (B : Hp), vs = [.ref a, .int m, .int sm] ∧ Gd a c B H ∧ (1 ≤ m ∧ m ≤ 6) ∧ (1 ≤ sm ∧ sm ≤ 6) ∧
  ∀ p rs B' H', Same B B' → Gd a c B' H' → B p = none → B' p = some (.lst (rs.map cv)) → ColsOk B' rs → Q (.ref p) H'
abbrev nLCols : List Str := ["state", "most", "size_most", "names", "name"]
theorem sc_lcols : FnScope nLCols ["state", "most", "size_most"] (defScope s_lcolumns) := ⟨rfl, rfl, rfl, by decide +kernel, rfl, by decide +kernel, by decide +kernel⟩
theorem ok_lcols {f fn fd' : Addr} {fd dn dd : FuncData} (D : Df K mg "_law_columns" s_lcolumns ["state", "most", "size_most"] f fd) (T : Bi mg) (Dd : Df K mg "_law_draw" s_draw ["state", "size_most"] fd' dd) (Gd' : FnOk P w K mg base CX0 1 fd' dd ["state", "size_most"] spDraw)
    (Dn : Df K mg "_law_names" s_names ["state", "size"] fn dn) (Gn : FnOk P w K mg base CX0 3 fn dn ["state", "size"] spNames) : FnOk P w K mg base CX0 4 f fd ["state", "most", "size_most"] spLCols := by
  refine D.F.ok sc_lcols (fun vs H Q E h => ?_) (fun cdv A outer s H vs Q E hr h => ?_)
  · obtain ⟨a, c, m, sm, B, rfl, _⟩ := h; rfl
  · obtain ⟨a, c, m, sm, B, rfl, g, hm, hsm, q⟩ := h
    have hr1 : Room 1 _ := hr.mono (by decide)
    refine ⟨_, pss_cons (ps_set (i := 3) sc_lcols.nd rfl (Or.inl rfl) (pcall Dn Gn hr (pa_cons (pv 0) (pa_cons (pe_op op_add pe_int (pcall Dd Gd' hr1 (pa_cons (pv 0) (pa_cons (pv 1) pa_nil)))) pa_nil))))
      (pss_one (ps_ret (pe_lc (own := [("name", 4)]) (g := gName 4) (tt := tYes) rfl sc_lcols.nd (pi_list (pv 3)) (blkOk_by (N := nLCols) (sc := defScope s_lcolumns) (by decide +kernel)) (fun _ _ _ _ _ => pg_name (i := 4) sc_lcols.nd rfl (Or.inl rfl)) (fun _ _ _ _ _ => pts_nil)
        (fun _ _ _ _ _ => pe_tup (pa_cons (pv 4) (pa_cons (pe_op op_add pe_int (pcall Dd Gd' hr1 (pa_cons (pv 0) (pa_cons (pv 2) pa_nil)))) pa_nil)))))), ?_⟩
    refine ⟨_, rfl, _, rfl, _, rfl, a, c, m, rfl, g.st, by omega, by omega, fun r H1 r0 r1 st1 fr1 => ⟨1, r, rfl, rfl, ?_⟩⟩
    have g1 := g.fr fr1 st1
    refine ⟨a, c, 1 + r, B, rfl, g1, by omega, by omega, fun N ws B2 H2 s2 g2 nN hN lw nw => ?_⟩
    refine ⟨_, rfl, N, rfl, ⟨_, lof (g2.ex _ _ hN)⟩, fun D hD => ?_⟩
    have lwm : (ws.map V.str).length = ws.length := List.length_map _
    refine lc_draw (B := B2) (H1 := H2) (a := a) (c := c) (n := (ws.map V.str).length) (walk_at (K := K) (a := N) (xs := ws.map V.str) .non) g2 hD (fun B' H s gd => lof (gd.ex _ _ (s _ _ hN))) (Nat.lt_of_le_of_lt (show (ws.map V.str).length ≤ 8 by omega) (by decide))
      (fun i acc B => ∃ rs : List CRow, acc = rs.map cv ∧ rs.length = i ∧ (∀ r ∈ rs, B r.1 = some (.tup [.str r.2.1, .int r.2.2])) ∧ rs.map (·.2.1) = ws.take i ∧ ∀ r ∈ rs, 1 ≤ r.2.2 ∧ r.2.2 ≤ 6)
      ⟨[], rfl, rfl, (fun _ z => nomatch z), rfl, fun _ z => nomatch z⟩ (fun i acc acc0 B' ⟨rs, e, l, h, t, z⟩ hd => ⟨rs, e, l, fun r hr => rem_tup hd (h r hr), t, z⟩) (fun i acc _ ⟨rs, e, l, _⟩ => by rw [e, List.length_map, l]; exact Nat.le_refl _)
      (fun j H4 B4 acc Q1 Q2 hj s4 g4 p4 d4 k1 k2 => ?_) (fun H4 B4 acc s4 g4 d4 p4 => ?_)
    · obtain ⟨rs, rfl, lr, ht, tk, sz⟩ := p4
      have hj' : j < ws.length := by omega
      refine ⟨rfl, ?_⟩
      refine iteT (B := Q2 H4) ?_
      rw [getD_str hj']
      refine ⟨_, rfl, _, rfl, _, rfl, a, c, sm, rfl, g4.st, by omega, by omega, fun r H5 r0 r1 st5 fr5 => ⟨1, r, rfl, rfl, by show 2 ≤ sizeLine; decide, fun t nt => ?_⟩⟩
      have g5 := g4.fr fr5 st5
      have ht' : ∀ r ∈ rs, B4 r.1 = some (.tup [.str r.2.1, .int r.2.2]) := fun r hr => same_rem _ _ (ht r hr)
      refine k1 _ _ (upd B4 t (.tup [.str ws[j], .int (1 + r)])) (same_new (g5.free nt)) (g5.add nt) ⟨rs ++ [(t, ws[j], 1 + r)], ?_, ?_, fun x hx => ?_, ?_, fun x hx => ?_⟩
      · rw [List.map_append]; rfl
      · rw [List.length_append, lr]; rfl
      · rcases List.mem_append.mp hx with hx | hx
        · exact same_new (g5.free nt) _ _ (ht' x hx)
        · rw [List.mem_singleton] at hx; subst hx; exact upd_same
      · rw [List.map_append, tk, List.take_succ, List.getElem?_eq_getElem hj']; rfl
      · rcases List.mem_append.mp hx with hx | hx
        · exact sz x hx
        · rw [List.mem_singleton] at hx; subst hx; exact ⟨show 1 ≤ 1 + r by omega, show 1 + r ≤ 6 by omega⟩
    · obtain ⟨rs, rfl, lr, ht, tk, sz⟩ := p4
      have tk' : rs.map (·.2.1) = ws := by rw [tk, lwm, List.take_length]
      refine q D rs B4 H4 (s2.trans s4) g4 (Same.free s2 (g2.free hD)) d4 ⟨fun r hr => same_rem _ _ (ht r hr), ⟨by omega, by omega⟩, fun r hr => nw.nm _ (by rw [← tk']; exact List.mem_map.mpr ⟨r, hr, rfl⟩), sz, by rw [tk']; exact nw.nd⟩

theorem cut2 {n1 n2 : Str} {r : Int} (h0 : 0 ≤ r) (h1 : r < 2) : cutV [V.str n1, V.str n2] none (some (1 + r)) = ([n1, n2].take (1 + r).toNat).map V.str := by
  rcases (show r = 0 ∨ r = 1 by omega) with rfl | rfl <;> rfl
def spLTabs : Sp := fun vs H Q _ => ∃ (a c cl : Addr) (m : Int) (cs : List CRow) (B : Hp), vs = [.ref a, .ref cl, .int m] ∧ Gd a c B H ∧ B cl = some (.lst (cs.map cv)) ∧ ColsOk B cs ∧ (1 ≤ m ∧ m ≤ 8) ∧
  ∀ p ts B' H', Same B B' → Gd a c B' H' → B p = none → B' p = some (.lst (ts.map tv)) → TabsOk B' (cs.map (·.2.1)) ts → Q (.ref p) H'
abbrev nLTabs : List Str := ["state", "columns", "most", "found", "name", "parts"]
theorem sc_ltabs : FnScope nLTabs ["state", "columns", "most"] (defScope s_ltables) := ⟨rfl, rfl, rfl, by decide +kernel, rfl, by decide +kernel, by decide +kernel⟩
theorem ok_ltabs {f fn fp fd' : Addr} {fd dn dp dd : FuncData} (D : Df K mg "_law_tables" s_ltables ["state", "columns", "most"] f fd) (T : Bi mg) (Dd : Df K mg "_law_draw" s_draw ["state", "size_most"] fd' dd) (Gd' : FnOk P w K mg base CX0 1 fd' dd ["state", "size_most"] spDraw)
    (Dp : Df K mg "_law_pick" s_pick ["state", "some"] fp dp) (Gp : FnOk P w K mg base CX0 2 fp dp ["state", "some"] spPick)
    (Dn : Df K mg "_law_names" s_names ["state", "size"] fn dn) (Gn : FnOk P w K mg base CX0 3 fn dn ["state", "size"] spNames) : FnOk P w K mg base CX0 4 f fd ["state", "columns", "most"] spLTabs := by
  refine D.F.ok sc_ltabs (fun vs H Q E h => ?_) (fun cdv A outer s H vs Q E hr h => ?_)
  · obtain ⟨a, c, cl, m, cs, B, rfl, _⟩ := h; rfl
  · obtain ⟨a, c, cl, m, cs, B, rfl, g, hcl, okc, hm, q⟩ := h
    have hr1 : Room 1 _ := hr.mono (by decide)
    have hr2 : Room 2 _ := hr.mono (by decide)
    refine ⟨_, pss_cons (ps_set (i := 3) sc_ltabs.nd rfl (Or.inl rfl) (pe_lst pa_nil))
      (pss_cons (ps_for PassesOwn.never rfl (pi_list (pcall Dn Gn hr (pa_cons (pv 0) (pa_cons (pe_op op_add pe_int (pcall Dd Gd' hr1 (pa_cons (pv 0) (pa_cons (pv 2) pa_nil)))) pa_nil)))) (pg_name (i := 4) sc_ltabs.nd rfl (Or.inl rfl))
        (pss_cons (ps_set (i := 5) sc_ltabs.nd rfl (Or.inl rfl) (pe_lst (pa_cons (pe_ix ix_tup (pcall Dp Gp hr2 (pa_cons (pv 0) (pa_cons (pv 1) pa_nil))) pe_int (fun _ _ => rfl)) (pa_cons (pe_ix ix_tup (pcall Dp Gp hr2 (pa_cons (pv 0) (pa_cons (pv 1) pa_nil))) pe_int (fun _ _ => rfl)) pa_nil))))
        (pss_one (ps_expr (pe_bm PySem.F.plainAttrs_list PySem.F.slot_list_append PySem.F.type_list_append mt_append (pv 3) (pa_cons (pe_tup (pa_cons (pv 4) (pa_cons (tupK K (hm := T.tuple) (pe_slice sl_list (pv 5) po_none (po_some (pe_op op_add pe_int (pcall Dd Gd' hr1 (pa_cons (pv 0) (pa_cons pe_int pa_nil))))))) pa_nil))) pa_nil))))))
      (pss_one (ps_ret (pv 3)))), ?_⟩
    refine ⟨Nat.zero_le _, fun f nf => ?_⟩
    have fa := g.ne_a nf
    have fc := g.ne_c nf
    have fB := g.free nf
    have gf := g.add (o := .lst []) nf
    have hff : (upd B f (.lst [])) f = some (.lst []) := upd_same
    have sB : Same B (upd B f (.lst [])) := same_new fB
    have hHf : (upd H f (.lst [])) f = some (.lst []) := upd_same
    generalize upd B f (.lst []) = B1 at gf hff sB
    generalize upd H f (.lst []) = H0 at gf hHf ⊢
    refine ⟨_, rfl, _, rfl, _, rfl, a, c, m, rfl, gf.st, by omega, by omega, fun r H1 r0 r1 st1 fr1 => ⟨1, r, rfl, rfl, a, c, 1 + r, B1, rfl, gf.fr fr1 st1, by omega, by omega, fun N ws B2 H2 s2 g2 nN hN lw nw => ?_⟩⟩
    have nNf : N ≠ f := fun e => by
      subst e; rw [fr1 _ _ fa fc hHf] at nN; cases nN
    have f2 : B2 f = some (.lst []) := s2 _ _ hff
    have sk : Same B (rem B2 f) := same_into_rem (sB.trans s2) fB
    have gk : Gd a c (rem B2 f) H2 := g2.less same_rem
    have kN : (rem B2 f) N = some (.lst (ws.map V.str)) := by rw [rem_ne nNf]; exact hN
    have kf : (rem B2 f) f = none := rem_self
    have hf2 : H2 f = some (.lst []) := g2.ex _ _ f2
    generalize rem B2 f = Bk at sk gk kN kf
    have cla : cl ≠ a := ne_of_none hcl g.na
    have clc : cl ≠ c := ne_of_none hcl g.nc
    refine ⟨N, rfl, ⟨_, lof (gk.ex _ _ kN)⟩, for_list (K := K) (a := N) (xs := ws.map V.str) (fun i σ H' => ∃ (B' : Hp) (ts : List TRow) (x4 x5 : Option V), σ = [some (.ref a), some (.ref cl), some (.int m), some (.ref f), x4, x5] ∧ Same Bk B' ∧ Gd a c B' H' ∧ B' f = none ∧ H' f = some (.lst (ts.map tv)) ∧
        ts.length = i ∧ (∀ r ∈ ts, B' r.1 = some (.tup [.str r.2.1, .ref r.2.2.1])) ∧ (∀ r ∈ ts, B' r.2.2.1 = some (.tup (r.2.2.2.map V.str))) ∧ ts.map (·.2.1) = ws.take i ∧ ∀ r ∈ ts, (1 ≤ r.2.2.2.length ∧ r.2.2.2.length ≤ 2) ∧ ∀ x ∈ r.2.2.2, x ∈ cs.map (·.2.1))
      ⟨Bk, [], none, none, rfl, Same.refl Bk, gk, kf, hf2, rfl, (fun _ z => nomatch z), (fun _ z => nomatch z), rfl, fun _ z => nomatch z⟩ (fun i σ H' _ ⟨B', ts, _, _, _, s', g', _⟩ => lof (g'.ex _ _ (s' _ _ kN))) ?_ ?_⟩
    · rintro i x σ H3 hx ⟨B3, ts, x4, x5, rfl, s3, g3, f3, hf3, lt, h1, h2, tk, h4⟩
      have hi : i < ws.length := by have := (List.getElem?_eq_some_iff.mp hx).1; rw [List.length_map] at this; exact this
      have ex : x = .str ws[i] := by
        rw [List.getElem?_map, List.getElem?_eq_getElem hi] at hx; exact (Option.some.inj hx).symm
      subst ex
      have g4 := g3.know hf3 fa fc
      have s4 : Same B3 (upd B3 f (.lst (ts.map tv))) := same_new f3
      have k4 : (upd B3 f (.lst (ts.map tv))) f = some (.lst (ts.map tv)) := upd_same
      generalize upd B3 f (.lst (ts.map tv)) = B4 at g4 s4 k4
      have okc4 := okc.same (sk.trans (s3.trans s4))
      have hcl4 := s4 _ _ (s3 _ _ (sk _ _ hcl))
      have pos : 0 < (cs.map cv).length ∧ (cs.map cv).length < 1000000 := by rw [List.length_map]; have := okc.len; omega
      refine ⟨_, rfl, _, rfl, a, c, .ref cl, rfl, g4.st, .inl ⟨cl, _, rfl, cla, clc, g4.ex _ _ hcl4, pos.1, pos.2, fun v H5 hv st5 fr5 => ?_⟩⟩
      obtain ⟨r1, hr1', rfl⟩ := List.mem_map.mp hv
      have g5 := g4.fr fr5 st5
      refine ⟨r1.1, _, 0, .str r1.2.1, rfl, rfl, tof (g5.ex _ _ (okc4.row r1 hr1')), rfl, ?_⟩
      refine ⟨_, rfl, _, rfl, a, c, .ref cl, rfl, g5.st, .inl ⟨cl, _, rfl, cla, clc, g5.ex _ _ hcl4, pos.1, pos.2, fun v H6 hv st6 fr6 => ?_⟩⟩
      obtain ⟨r2, hr2', rfl⟩ := List.mem_map.mp hv
      have g6 := g5.fr fr6 st6
      refine ⟨r2.1, _, 0, .str r2.2.1, rfl, rfl, tof (g6.ex _ _ (okc4.row r2 hr2')), rfl, by show 2 ≤ sizeLine; decide, fun L nL => ?_⟩
      have g7 := g6.add (o := .lst [.str r1.2.1, .str r2.2.1]) nL
      have kL : (upd B4 L (.lst [.str r1.2.1, .str r2.2.1])) L = some (.lst [.str r1.2.1, .str r2.2.1]) := upd_same
      have s7 : Same B4 (upd B4 L (.lst [.str r1.2.1, .str r2.2.1])) := same_new (g6.free nL)
      generalize upd B4 L (.lst [.str r1.2.1, .str r2.2.1]) = B7 at g7 kL s7
      generalize upd H6 L (.lst [.str r1.2.1, .str r2.2.1]) = H7 at g7 ⊢
      refine ⟨_, rfl, .inl ⟨rfl, _, lof (g7.ex _ _ (s7 _ _ k4))⟩, _, rfl, _, rfl, _, rfl, a, c, 2, rfl, g7.st, by decide, by decide, fun r H8 r0 r1' st8 fr8 => ⟨1, r, rfl, rfl, 1 + r, rfl, L, _, rfl, lof ((g7.fr fr8 st8).ex _ _ kL), fun S nS => ?_⟩⟩
      have g8 := (g7.fr fr8 st8).new (o := .lst (cutV [.str r1.2.1, .str r2.2.1] none (some (1 + r)))) nS
      rw [cut2 r0 r1'] at g8 ⊢
      have kS : (upd H8 S (.lst (([r1.2.1, r2.2.1].take (1 + r).toNat).map V.str))) S = some (.lst (([r1.2.1, r2.2.1].take (1 + r).toNat).map V.str)) := upd_same
      generalize upd H8 S (.lst (([r1.2.1, r2.2.1].take (1 + r).toNat).map V.str)) = H9 at g8 kS ⊢
      refine .inl ⟨S, _, rfl, lof kS, fun q1 nq => ⟨by show 2 ≤ sizeLine; decide, fun t nt => ?_⟩⟩
      have g9 := g8.add (o := .tup (([r1.2.1, r2.2.1].take (1 + r).toNat).map V.str)) nq
      have s9 : Same B7 (upd B7 q1 (.tup (([r1.2.1, r2.2.1].take (1 + r).toNat).map V.str))) := same_new (g8.free nq)
      have kq : (upd B7 q1 (.tup (([r1.2.1, r2.2.1].take (1 + r).toNat).map V.str))) q1 = some (.tup (([r1.2.1, r2.2.1].take (1 + r).toNat).map V.str)) := upd_same
      generalize upd B7 q1 (.tup (([r1.2.1, r2.2.1].take (1 + r).toNat).map V.str)) = B9 at g9 s9 kq
      generalize upd H9 q1 (.tup (([r1.2.1, r2.2.1].take (1 + r).toNat).map V.str)) = H10 at g9 nt ⊢
      have g10 := g9.add (o := .tup [.str ws[i], .ref q1]) nt
      have s10 : Same B9 (upd B9 t (.tup [.str ws[i], .ref q1])) := same_new (g9.free nt)
      have kt : (upd B9 t (.tup [.str ws[i], .ref q1])) t = some (.tup [.str ws[i], .ref q1]) := upd_same
      generalize upd B9 t (.tup [.str ws[i], .ref q1]) = B10 at g10 s10 kt
      generalize upd H10 t (.tup [.str ws[i], .ref q1]) = H11 at g10 ⊢
      have kf10 := s10 _ _ (s9 _ _ (s7 _ _ k4))
      have s310 : Same B3 B10 := s4.trans (s7.trans (s9.trans s10))
      refine ⟨f, _, .ref t, rfl, rfl, g10.ex _ _ kf10, ?_, rem B10 f, ts ++ [(t, ws[i], q1, [r1.2.1, r2.2.1].take (1 + r).toNat)], _, _, rfl, same_into_rem (s3.trans s310) kf, (g10.less same_rem).chg rem_self fa fc, rem_self, ?_, ?_, fun x hx => ?_, fun x hx => ?_, ?_, fun x hx => ?_⟩
      · rw [List.length_map]; exact Nat.lt_of_le_of_lt (show ts.length ≤ 8 by omega) (by decide)
      · rw [upd_same, List.map_append]; rfl
      · rw [List.length_append, lt]; rfl
      · rcases List.mem_append.mp hx with hx | hx
        · exact rem_tup kf10 (s310 _ _ (h1 x hx))
        · rw [List.mem_singleton] at hx; subst hx; exact rem_tup kf10 kt
      · rcases List.mem_append.mp hx with hx | hx
        · exact rem_tup kf10 (s310 _ _ (h2 x hx))
        · rw [List.mem_singleton] at hx; subst hx; exact rem_tup kf10 (s10 _ _ kq)
      · rw [List.map_append, tk, List.take_succ, List.getElem?_eq_getElem hi]; rfl
      · rcases List.mem_append.mp hx with hx | hx
        · exact h4 x hx
        · rw [List.mem_singleton] at hx; subst hx
          refine ⟨?_, fun y hy => ?_⟩
          · show 1 ≤ ([r1.2.1, r2.2.1].take (1 + r).toNat).length ∧ ([r1.2.1, r2.2.1].take (1 + r).toNat).length ≤ 2
            rw [List.length_take]
            show 1 ≤ min (1 + r).toNat 2 ∧ min (1 + r).toNat 2 ≤ 2
            omega
          · have hy' := List.mem_of_mem_take (show y ∈ [r1.2.1, r2.2.1].take (1 + r).toNat from hy)
            simp only [List.mem_cons, List.not_mem_nil, or_false] at hy'
            rcases hy' with rfl | rfl
            · exact List.mem_map.mpr ⟨r1, hr1', rfl⟩
            · exact List.mem_map.mpr ⟨r2, hr2', rfl⟩
    · rintro σ H' ⟨B', ts, x4, x5, rfl, s', g', f', hf', lt, h1, h2, tk, h4⟩
      rw [List.length_map] at lt tk
      rw [List.take_length] at tk
      have sf : Same B' (upd B' f (.lst (ts.map tv))) := same_new f'
      exact ⟨_, rfl, q f ts (upd B' f (.lst (ts.map tv))) H' (sk.trans (s'.trans sf)) (g'.know hf' fa fc) fB upd_same ⟨fun r hr => sf _ _ (h1 r hr), fun r hr => sf _ _ (h2 r hr), by omega, fun r hr => nw.nm _ (by rw [← tk]; exact List.mem_map.mpr ⟨r, hr, rfl⟩), fun r hr => (h4 r hr).1, fun r hr => (h4 r hr).2, by rw [tk]; exact nw.nd⟩⟩
end
end As

/-! ## C0 -/
namespace As
open PySem PySem.Spec PyProof.Rows L2 TL
open PySem.W (dataLe AllAlike Sortable dataLt alike alikeAll)
/-! facts and looks as keys -/
abbrev FK := Str × List Int
abbrev LK := Str × Int × Int
def fkD (k : FK) : PyData := .tuple [.str k.1, .tuple (k.2.map .int)]
def lkD (k : LK) : PyData := .tuple [.str k.1, .int k.2.1, .int k.2.2]
abbrev FRow := Addr × Addr × FK
def fv (r : FRow) : V := .ref r.1
abbrev LRow := Addr × LK
def lv (r : LRow) : V := .ref r.1
def FAt (H : Hp) (r : FRow) : Prop := H r.1 = some (.tup [.str r.2.2.1, .ref r.2.1]) ∧ H r.2.1 = some (.tup (r.2.2.2.map V.int))
def LAt (H : Hp) (r : LRow) : Prop := H r.1 = some (.tup [.str r.2.1, .int r.2.2.1, .int r.2.2.2])
theorem FAt.imm {H H' : Hp} {r : FRow} (h : FAt H r) (e : Imm H H') : FAt H' r := ⟨e _ _ h.1, e _ _ h.2⟩
theorem LAt.imm {H H' : Hp} {r : LRow} (h : LAt H r) (e : Imm H H') : LAt H' r := e _ _ h
theorem imm_lst {H : Hp} {D : Addr} {xs : List V} {o : HO} (h : H D = some (.lst xs)) : Imm H (upd H D o) := fun b ys e => by
  rw [upd_ne (fun z => by subst z; rw [h] at e; cases e)]; exact e
theorem imm_new {H : Hp} {D : Addr} {o : HO} (h : H D = none) : Imm H (upd H D o) := same_imm (same_new h)
theorem Imm.trans {A B C : Hp} (h : Imm A B) (k : Imm B C) : Imm A C := fun _ _ e => k _ _ (h _ _ e)
theorem alike_ints : ∀ xs ys : List Int, alikeAll (xs.map .int) (ys.map .int) = true
  | [], ys => by simp [alikeAll]
  | x :: xs, [] => by simp [alikeAll]
  | x :: xs, y :: ys => by
    rw [List.map_cons, List.map_cons, alikeAll, alike_ints xs ys]; simp [alike]
theorem alike_fk (a b : FK) : alike (fkD a) (fkD b) = true := by
  simp [fkD, alike, alikeAll, alike_ints]
theorem alike_lk (a b : LK) : alike (lkD a) (lkD b) = true := by
  simp [lkD, alike, alikeAll]
theorem fk_all {β : Type} (k : β → FK) (bs : List β) : AllAlike (bs.map fun b => fkD (k b)) := fun d hd e he => by
  obtain ⟨a, _, rfl⟩ := List.mem_map.mp hd
  obtain ⟨b, _, rfl⟩ := List.mem_map.mp he
  exact alike_fk _ _
theorem lk_all {β : Type} (k : β → LK) (bs : List β) : AllAlike (bs.map fun b => lkD (k b)) := fun d hd e he => by
  obtain ⟨a, _, rfl⟩ := List.mem_map.mp hd
  obtain ⟨b, _, rfl⟩ := List.mem_map.mp he
  exact alike_lk _ _
theorem fk_sortable {β : Type} (k : β → FK) (bs : List β) : Sortable (bs.map fun b => fkD (k b)) := .inl fun d hd => by
  obtain ⟨a, _, rfl⟩ := List.mem_map.mp hd
  exact ⟨_, _, rfl⟩
theorem lk_sortable {β : Type} (k : β → LK) (bs : List β) : Sortable (bs.map fun b => lkD (k b)) := .inl fun d hd => by
  obtain ⟨a, _, rfl⟩ := List.mem_map.mp hd
  exact ⟨_, _, rfl⟩
theorem fk_depth (k : FK) : (fkD k).depth = 1 + 0 ∨ (fkD k).depth ≤ 2 := .inr (by simp [fkD, PyData.depth, PyData.depthAll, ints_lay.2])
theorem lk_depth (k : LK) : (lkD k).depth ≤ 2 := by simp [lkD, PyData.depth, PyData.depthAll]
theorem dp_fk {K : PySem.W.Frag} {H : Hp} {r : FRow} (h : FAt H r) : Dp K H (fv r) (fkD r.2.2) := .tup (tof h.1) (.cons (.str _) (.cons (.tup (tof h.2) dp_ints) .nil))
theorem dp_lk {K : PySem.W.Frag} {H : Hp} {r : LRow} (h : LAt H r) : Dp K H (lv r) (lkD r.2) := .tup (tof h) (.cons (.str _) (.cons (.int _) (.cons (.int _) .nil)))
theorem lay_fk (k : FK) (h : PyData.strOk k.1 = true) : (fkD k).canLay0 = true := by simp [fkD, PyData.canLay0, PyData.canLayAll0, ints_lay.1, h]
theorem lay_lk (k : LK) (h : PyData.strOk k.1 = true) : (lkD k).canLay0 = true := by simp [lkD, PyData.canLay0, PyData.canLayAll0, h]
/-! all facts, all looks of tables -/
def sizeI (cs : List CRow) (c : Str) : Int := match sizeV cs c with | .int i => i | _ => 0
def ir (n : Nat) : List Int := (List.range n).map fun (k : Nat) => (k : Int)
def factsUp (cs : List CRow) (n : Str) (ps : List Str) (j : Nat) : List FK := match ps with
  | [_] => (ir j).map fun v => (n, [v])
  | [_, d] => (ir j).flatMap fun v => (ir (sizeI cs d).toNat).map fun o => (n, [v, o])
  | _ => []
def firstN (cs : List CRow) (ps : List Str) : Nat := (sizeI cs (ps.headD ⟨#[]⟩)).toNat
def factsT (cs : List CRow) (r : TRow) : List FK := factsUp cs r.2.1 r.2.2.2 (firstN cs r.2.2.2)
def looksUp (cs : List CRow) (n : Str) (ps : List Str) (i : Nat) : List LK := (List.range i).flatMap fun s => (ir (sizeI cs (ps.getD s ⟨#[]⟩)).toNat).map fun v => (n, (s : Int), v)
def looksT (cs : List CRow) (r : TRow) : List LK := looksUp cs r.2.1 r.2.2.2 r.2.2.2.length
theorem ir_succ (n : Nat) : ir (n + 1) = ir n ++ [(n : Int)] := by unfold ir; rw [List.range_succ, List.map_append]; rfl
theorem ir_len (n : Nat) : (ir n).length = n := by unfold ir; rw [List.length_map, List.length_range]
theorem valV_sz {H : Hp} {cs : List CRow} (ok : ColsOk H cs) {c : Str} (h : c ∈ cs.map (·.2.1)) : valV (colsD cs) (.inr c) = some (.int (sizeI cs c)) ∧ 1 ≤ sizeI cs c ∧ sizeI cs c ≤ 6 := by
  obtain ⟨v, hv⟩ := valV_cols h
  have h1 : v ∈ (colsD cs).map Prod.snd := by
    unfold valV at hv
    cases hf : (colsD cs).find? (fun kv => decide (kv.1 = .inr c)) with
    | none => rw [hf] at hv; cases hv
    | some kv =>
      rw [hf] at hv
      cases hv
      exact List.mem_map.mpr ⟨kv, List.mem_of_find?_eq_some hf, rfl⟩
  obtain ⟨kv, hk, e⟩ := List.mem_map.mp h1
  obtain ⟨r, hr, rfl⟩ := List.mem_map.mp hk
  have e' : v = .int r.2.2 := e.symm
  subst e'
  have es : sizeI cs c = r.2.2 := by unfold sizeI sizeV; rw [hv]; rfl
  rw [es]
  exact ⟨hv, ok.sz r hr⟩
theorem factsUp_one {cs : List CRow} {n c : Str} {j : Nat} : factsUp cs n [c] (j + 1) = factsUp cs n [c] j ++ [(n, [(j : Int)])] := by
  show (ir (j + 1)).map _ = (ir j).map _ ++ _
  rw [ir_succ, List.map_append]; rfl
theorem factsUp_two {cs : List CRow} {n c d : Str} {j : Nat} : factsUp cs n [c, d] (j + 1) = factsUp cs n [c, d] j ++ (ir (sizeI cs d).toNat).map fun o => ((n, [(j : Int), o]) : FK) := by
  show (ir (j + 1)).flatMap _ = (ir j).flatMap _ ++ _
  rw [ir_succ, List.flatMap_append, List.flatMap_cons, List.flatMap_nil, List.append_nil]
theorem factsUp_len {cs : List CRow} (hs : ∀ d, sizeI cs d ≤ 6) {n : Str} {ps : List Str} {j : Nat} : (factsUp cs n ps j).length ≤ 6 * j := by
  unfold factsUp
  split
  · rw [List.length_map, ir_len]; omega
  · rename_i d
    rw [List.length_flatMap]
    have h1 : (ir j).map (fun v => ((ir (sizeI cs d).toNat).map fun o => ((n, [v, o]) : FK)).length) = (ir j).map fun _ => (sizeI cs d).toNat := by
      apply List.map_congr_left; intro v _; rw [List.length_map, ir_len]
    rw [h1, List.map_const', List.sum_replicate_nat, ir_len]
    have := hs d
    have h2 : (sizeI cs d).toNat ≤ 6 := by omega
    calc j * (sizeI cs d).toNat ≤ j * 6 := Nat.mul_le_mul_left _ h2
      _ = 6 * j := Nat.mul_comm _ _
  · simp
theorem looksUp_succ {cs : List CRow} {n : Str} {ps : List Str} {i : Nat} : looksUp cs n ps (i + 1) = looksUp cs n ps i ++ (ir (sizeI cs (ps.getD i ⟨#[]⟩)).toNat).map fun v => ((n, (i : Int), v) : LK) := by
  unfold looksUp
  rw [List.range_succ, List.flatMap_append, List.flatMap_cons, List.flatMap_nil, List.append_nil]
theorem sizeI_le {H : Hp} {cs : List CRow} (ok : ColsOk H cs) (d : Str) : sizeI cs d ≤ 6 := by
  by_cases h : d ∈ cs.map (·.2.1)
  · exact (valV_sz ok h).2.2
  · have e : sizeV cs d = .non := by
      unfold sizeV valV
      rw [List.find?_eq_none.mpr]
      · rfl
      · intro kv hk
        obtain ⟨r, hr, rfl⟩ := List.mem_map.mp hk
        have : ¬ r.2.1 = d := fun z => h (List.mem_map.mpr ⟨r, hr, z⟩)
        simp [this]
    unfold sizeI; rw [e]; decide
theorem flat_len {α β : Type} {f : α → List β} {m : Nat} : ∀ {l : List α}, (∀ x ∈ l, (f x).length ≤ m) → (l.flatMap f).length ≤ m * l.length
  | [], _ => by simp
  | x :: l, h => by
    rw [List.flatMap_cons, List.length_append, List.length_cons, Nat.mul_add, Nat.mul_one]
    have h1 := h x List.mem_cons_self
    have h2 := flat_len (l := l) fun y hy => h y (List.mem_cons_of_mem _ hy)
    omega
theorem looksUp_len {cs : List CRow} (hs : ∀ d, sizeI cs d ≤ 6) {n : Str} {ps : List Str} {i : Nat} : (looksUp cs n ps i).length ≤ 6 * i := by
  unfold looksUp
  have h := flat_len (m := 6) (l := List.range i) (f := fun s => (ir (sizeI cs (ps.getD s ⟨#[]⟩)).toNat).map fun v => ((n, (s : Int), v) : LK)) fun x _ => by
    rw [List.length_map, ir_len]; have := hs (ps.getD x ⟨#[]⟩); omega
  rw [List.length_range] at h
  exact h
end As

/-! ## C1p -/
namespace As
open PySem PySem.Spec PyProof.Rows L2 TL
open PySem.W (dataLe AllAlike Sortable dataLt alike)
section
variable {P : Program} {w : World} {K : PySem.W.Frag} {mg : Str → Option Value} {base : Heap}
def sortF (l : List FK) : List FK := l.mergeSort (dataLe false fkD)
def sortL (l : List LK) : List LK := l.mergeSort (dataLe false lkD)
theorem mergeK_nd : ∀ {more acc : List (Key × V)}, ((acc ++ more).map (·.1)).Nodup → mergeK acc more = acc ++ more
  | [], acc, _ => by rw [List.append_nil]; rfl
  | (k, v) :: r, acc, h => by
    have h1 : k ∉ acc.map (·.1) := by
      rw [List.map_append, List.nodup_append] at h
      exact fun z => h.2.2 _ z k (by simp) rfl
    have e : mergeK acc ((k, v) :: r) = mergeK (putK acc k v) r := rfl
    rw [e, putK_new h1, mergeK_nd (by rw [List.append_assoc]; exact h), List.append_assoc]; rfl
theorem colsD_nd {cs : List CRow} (h : (cs.map (·.2.1)).Nodup) : ((colsD cs).map (·.1)).Nodup := by
  unfold colsD
  rw [List.map_map]
  have e : ((fun kv : Key × V => kv.1) ∘ fun r : CRow => ((.inr r.2.1 : Key), V.int r.2.2)) = (fun z : Str => (.inr z : Key)) ∘ fun r : CRow => r.2.1 := rfl
  rw [e, ← List.map_map]
  exact List.Pairwise.map _ (fun a b (q : a ≠ b) z => q (by injection z)) h
theorem mergeK_cols {H : Hp} {cs : List CRow} (ok : ColsOk H cs) : mergeK [] (colsD cs) = colsD cs := by
  rw [mergeK_nd (by rw [List.nil_append]; exact colsD_nd ok.nd), List.nil_append]
theorem cols_refs {cs : List CRow} : (cs.map (·.1)).map V.ref = cs.map cv := by rw [List.map_map]; rfl
theorem cols_pairs {K : PySem.W.Frag} {H : Hp} {cs : List CRow} (ok : ColsOk H cs) : Paired (fun p kv => SqT K H p [kV kv.1, kv.2]) (cs.map (·.1)) (colsD cs) := by
  have h1 := ok.row
  clear ok
  unfold colsD
  induction cs with
  | nil => exact .nil
  | cons r t ih => exact .cons (tof (h1 r List.mem_cons_self)) (ih fun r hr => h1 r (List.mem_cons_of_mem _ hr))
def spLFacts : Sp := fun vs H Q _ => ∃ (cl tl : Addr) (cs : List CRow) (ts : List TRow), vs = [.ref cl, .ref tl] ∧ H cl = some (.lst (cs.map cv)) ∧ H tl = some (.lst (ts.map tv)) ∧ ColsOk H cs ∧ TabsOk H (cs.map (·.2.1)) ts ∧
  ∀ p (fs : List FRow) H', Same H H' → H p = none → H' p = some (.lst (fs.map fv)) → (∀ r ∈ fs, FAt H' r) → fs.map (·.2.2) = sortF (ts.flatMap (factsT cs)) → Q (.ref p) H'
end
end As

/-! ## C3 -/
namespace As
open PySem PySem.Spec PyProof.Rows L2 RZ
/-! values of any kind -/
inductive Kind | non | bl | int | str | lst | tup | dict
  deriving DecidableEq
def Kind.name : Kind → String
  | .non => "NoneType" | .bl => "bool" | .int => "int" | .str => "str" | .lst => "list" | .tup => "tuple" | .dict => "dict"
theorem kit_tup {K : PySem.W.Frag} (k : Kind) : PySem.W.kitOne K (.type k.name) (.type "tuple") = some (decide (k = .tup)) := by
  cases k <;> exact kit_ty (by decide +kernel)
theorem kit_str {K : PySem.W.Frag} (k : Kind) : PySem.W.kitOne K (.type k.name) (.type "str") = some (decide (k = .str)) := by
  cases k <;> exact kit_ty (by decide +kernel)
theorem kit_int {K : PySem.W.Frag} (k : Kind) : PySem.W.kitOne K (.type k.name) (.type "int") = some (decide (k = .int ∨ k = .bl)) := by
  cases k <;> exact kit_ty (by decide +kernel)
theorem kit_bool {K : PySem.W.Frag} (k : Kind) : PySem.W.kitOne K (.type k.name) (.type "bool") = some (decide (k = .bl)) := by
  cases k <;> exact kit_ty (by decide +kernel)
/-- x is of one of the kinds -/
inductive Val (H : Hp) : V → Kind → Prop
  | non : Val H .non .non
  | bl (b : Bool) : Val H (.bl b) .bl
  | int (i : Int) : Val H (.int i) .int
  | str (z : Str) : Val H (.str z) .str
  | lst {a : Addr} {xs : List V} (h : H a = some (.lst xs)) : Val H (.ref a) .lst
  | tup {a : Addr} {xs : List V} (h : H a = some (.tup xs)) : Val H (.ref a) .tup
  | dict {a : Addr} {ks : List (Key × V)} (h : H a = some (.dK ks)) : Val H (.ref a) .dict
theorem Val.ty {K : PySem.W.Frag} {H : Hp} {x : V} {k : Kind} : Val H x k → TyX K H x (.type k.name)
  | .non => .base .non
  | .bl b => .base (.bl b)
  | .int i => .base (.int i)
  | .str z => .base (.str z)
  | .lst h => .base (.lst h)
  | .tup h => .base (.tup h)
  | .dict h => .base (.dK h)
theorem Val.same {H H' : Hp} {x : V} {k : Kind} (e : Same H H') : Val H x k → Val H' x k
  | .non => .non
  | .bl b => .bl b
  | .int i => .int i
  | .str z => .str z
  | .lst h => .lst (e _ _ h)
  | .tup h => .tup (e _ _ h)
  | .dict h => .dict (e _ _ h)
def tupV (H : Hp) (x : V) : Option (List V) := match x with
  | .ref a => (match H a with | some (.tup xs) => some xs | _ => none)
  | _ => none
theorem tupV_at {H : Hp} {a : Addr} {xs : List V} (h : H a = some (.tup xs)) : tupV H (.ref a) = some xs := by unfold tupV; simp only [h]
theorem tupV_some {H : Hp} {x : V} {xs : List V} (h : tupV H x = some xs) : ∃ a, x = .ref a ∧ H a = some (.tup xs) := by
  unfold tupV at h
  cases x <;> simp only [reduceCtorEq] at h
  rename_i a
  split at h
  · rename_i ys e; cases h; exact ⟨a, rfl, e⟩
  · cases h
theorem Val.tupV {H : Hp} {x : V} {k : Kind} (h : Val H x k) : (k ≠ .tup ∧ tupV H x = none) ∨ (k = .tup ∧ ∃ a xs, x = .ref a ∧ H a = some (.tup xs) ∧ tupV H x = some xs) := by
  cases h with
  | tup h => exact .inr ⟨rfl, _, _, rfl, h, tupV_at h⟩
  | lst h => exact .inl ⟨by decide, by unfold As.tupV; simp only [h]⟩
  | dict h => exact .inl ⟨by decide, by unfold As.tupV; simp only [h]⟩
  | non => exact .inl ⟨by decide, rfl⟩
  | bl => exact .inl ⟨by decide, rfl⟩
  | int => exact .inl ⟨by decide, rfl⟩
  | str => exact .inl ⟨by decide, rfl⟩
theorem tupV_same {H H' : Hp} {x : V} {k : Kind} (h : Val H x k) (e : Same H H') : tupV H' x = tupV H x := by
  rcases h.tupV with ⟨n, t⟩ | ⟨n, a, xs, rfl, ha, t⟩
  · rw [t]
    rcases (h.same e).tupV with ⟨_, t'⟩ | ⟨n', _⟩
    · exact t'
    · exact absurd n' n
  · rw [t, tupV_at (e _ _ ha)]
section
variable {P : Program} {w : World} {K : PySem.W.Frag} {mg : Str → Option Value} {base : Heap}
def pairB (H : Hp) (x : V) : Bool := match tupV H x with | some xs => decide (xs.length = 2) | none => false
def spPairA : Sp := fun vs H Q _ => ∃ x k b, vs = [x] ∧ Val H x k ∧ pairB H x = b ∧ Q (.bl b) H
theorem ok_pairA {f : Addr} {fd : FuncData} (D : Df K mg "is_pair" s_is_pair ["thing"] f fd) (T : Bi mg) : FnOk P w K mg base CX0 1 f fd ["thing"] spPairA := by
  refine D.F.ok sc_pair (fun vs H Q E h => ?_) (fun cdv A outer s H vs Q E hr h => ?_)
  · obtain ⟨a, xs, b, rfl, _⟩ := h; rfl
  · obtain ⟨x, k, b, rfl, hk, eb, q⟩ := h
    subst eb
    unfold pairB at q
    refine ⟨_, pss_one (ps_ret (pe_and (pe_callB call_isi (by rfl) T.isinst (by decide +kernel) (pa_cons (pv 0) (pa_cons (pe_bltn (v := .ty "tuple") (by rfl) T.tuple (by decide +kernel) rfl) pa_nil)))
      (pe_one (pe_cmpR op_eq (pe_callB call_len_seq (by rfl) T.len PySem.boot_len (pa_cons (pv 0) pa_nil)) pe_int (nomark _))))), ?_⟩
    refine ⟨_, rfl, _, _, _, _, _, rfl, .ty "tuple", hk.ty, kit_tup k, _, rfl, ?_⟩
    rcases hk.tupV with ⟨n, e⟩ | ⟨n, a, xs, rfl, ha, e⟩
    · rw [decide_eq_false n]
      rw [e] at q
      exact iteF q
    · rw [e] at q
      rw [decide_eq_true n]
      refine iteT ⟨_, rfl, a, xs, rfl, .inr (tof ha), rfl, ?_⟩
      have e : decide (V.int (xs.length : Int) = V.int 2) = decide (xs.length = 2) := by
        by_cases h : xs.length = 2
        · rw [h]; rfl
        · rw [decide_eq_false h]; exact decide_eq_false fun z => h (by injection z with z; omega)
      rw [e]
      exact q
def belowV (x : V) (n : Int) : Bool := match x with | .int i => decide (0 ≤ i ∧ i < n) | _ => false
def spBelow (K : PySem.W.Frag) : Sp := fun vs H Q _ => ∃ x k n, vs = [x, .int n] ∧ Val H x k ∧ Q (.bl (belowV x n)) H
theorem sc_below : FnScope ["thing", "bound"] ["thing", "bound"] (defScope s_is_below) := ⟨rfl, rfl, rfl, by decide +kernel, rfl, by decide +kernel, by decide +kernel⟩
theorem ok_below {f fu : Addr} {fd du : FuncData} (D : Df K mg "is_below" s_is_below ["thing", "bound"] f fd) (T : Bi mg) (Du : Df K mg "is_number" s_is_number ["thing"] fu du) (Gu : FnOk P w K mg base CX0 1 fu du ["thing"] (spNumber K)) : FnOk P w K mg base CX0 2 f fd ["thing", "bound"] (spBelow K) := by
  refine D.F.ok sc_below (fun vs H Q E h => ?_) (fun cdv A outer s H vs Q E hr h => ?_)
  · obtain ⟨x, k, n, rfl, _⟩ := h; rfl
  · obtain ⟨x, k, n, rfl, hk, q⟩ := h
    refine ⟨_, pss_one (ps_ret (pe_and (pcall Du Gu hr (pa_cons (pv 0) pa_nil)) (pe_one (pe_chain op_le op_lt pe_int (pv 0) (pv 1))))), ?_⟩
    refine ⟨_, rfl, x, .type k.name, _, _, rfl, hk.ty, kit_int k, kit_bool k, _, rfl, ?_⟩
    by_cases e : k = .int
    · subst e
      cases hk with
      | int i =>
        refine iteT ⟨_, rfl, 0, i, rfl, rfl, _, rfl, ?_⟩
        have e : belowV (.int i) n = (decide (0 ≤ i) && decide (i < n)) := by show decide (0 ≤ i ∧ i < n) = _; rw [Bool.decide_and]
        rw [e] at q
        by_cases h0 : 0 ≤ i
        · rw [decide_eq_true h0] at q ⊢
          exact iteT ⟨_, rfl, i, n, rfl, rfl, q⟩
        · rw [decide_eq_false h0] at q ⊢
          exact iteF q
    · have e1 : (decide (k = .int ∨ k = .bl) && !decide (k = .bl)) = false := by cases k <;> first | rfl | exact absurd rfl e
      rw [e1]
      have e2 : belowV x n = false := by cases hk <;> first | rfl | exact absurd rfl e
      rw [e2] at q
      exact iteF q
def spanI (cs : List CRow) (r : TRow) : List Int := r.2.2.2.map (sizeI cs)
def isFactV (H : Hp) (cs : List CRow) (ts : List TRow) (x : V) : Bool := match tupV H x with
  | some [y, z] => (match y with
    | .str t => (match tabOf ts t with
      | some r => (match tupV H z with
        | some vs => decide (vs.length = r.2.2.2.length) && (vs.zip (spanI cs r)).all fun p => belowV p.1 p.2
        | none => false)
      | none => false)
    | _ => false)
  | _ => false
def Deep (H : Hp) (x : V) : Prop := (∃ k, Val H x k) ∧ ∀ xs, tupV H x = some xs → ∀ y ∈ xs, (∃ k, Val H y k) ∧ ∀ ys, tupV H y = some ys → ∀ z ∈ ys, ∃ k, Val H z k
def spIsFact (C : Addr) : Sp := fun vs H Q _ => ∃ (p : Addr) (x : V) (cs : List CRow) (ts : List TRow), vs = [.ref p, x] ∧ PlanAt H C p cs ts ∧ ColsOk H cs ∧ TabsOk H (cs.map (·.2.1)) ts ∧ Deep H x ∧ ∀ H', Same H H' → Q (.bl (isFactV H cs ts x)) H'
theorem spanVs_ints {H : Hp} {cs : List CRow} {ts : List TRow} (okc : ColsOk H cs) (okt : TabsOk H (cs.map (·.2.1)) ts) {r : TRow} (hr : r ∈ ts) : spanVs cs r = (spanI cs r).map V.int := by
  unfold spanVs spanI
  rw [List.map_map]
  apply List.map_congr_left
  intro c hc
  have h := (valV_sz okc (okt.own r hr c hc)).1
  show sizeV cs c = _
  unfold sizeV; rw [h]; rfl
abbrev nIsFact : List Str := ["plan", "thing", "table", "row", "spans", "value", "size"]
theorem sc_is_fact : FnScope nIsFact ["plan", "thing"] (defScope s_is_fact) := ⟨rfl, rfl, rfl, by decide +kernel, rfl, by decide +kernel, by decide +kernel⟩
theorem ok_is_fact {f fp fb fs C : Addr} {fd dp db ds : FuncData} (D : Df K mg "is_fact" s_is_fact ["plan", "thing"] f fd) (T : Bi mg) (zi : mg "zip" = none) (L : PlF K C) (Fs : Fun K "spans" "Plan.spans" s_spans fs ds) (bs : Binds K ds ["self", "table"] []) (ms : Meth K C "spans" fs)
    (Dp : Df K mg "is_pair" s_is_pair ["thing"] fp dp) (Gp : FnOk P w K mg base CX0 1 fp dp ["thing"] spPairA) (Db : Df K mg "is_below" s_is_below ["thing", "bound"] fb db) (Gb : FnOk P w K mg base CX0 2 fb db ["thing", "bound"] (spBelow K)) :
    FnOk P w K mg base CX0 3 f fd ["plan", "thing"] (spIsFact C) := by
  have Gs : FnOk P w K mg base CX0 1 fs ds ["self", "table"] (spSpans K C) := ok_spans Fs T L
  refine D.F.ok sc_is_fact (fun vs H Q E h => ?_) (fun cdv A outer s H vs Q E hr h => ?_)
  · obtain ⟨p, x, cs, ts, rfl, _⟩ := h; rfl
  · obtain ⟨p, x, cs, ts, rfl, pl, okc, okt, ⟨⟨k, hk⟩, deep⟩, q⟩ := h
    obtain ⟨dx, ct, tt, sz, sp, sh, ks, h1, _⟩ := id pl
    have hr1 : Room 1 _ := hr.mono (by decide)
    refine ⟨_, pss_cons (ps_if (pt_not (pt_val (pcall Dp Gp hr1 (pa_cons (pv 1) pa_nil)))) (pss_one (ps_ret pe_bl)) pss_nil)
      (pss_cons (ps_asg (pv 1) (pg_tup rfl (pgs_cons (pg_name (i := 2) sc_is_fact.nd rfl (Or.inl rfl)) (pgs_cons (pg_name (i := 3) sc_is_fact.nd rfl (Or.inl rfl)) pgs_nil))))
      (pss_cons (ps_set (i := 4) sc_is_fact.nd rfl (Or.inl rfl) (pe_meth (pv 0) L.cl ms Gs hr1 bs .nil pass0 (pa_cons (pv 2) pa_nil)))
      (pss_cons (ps_if (PW.pt (pw_or (pt_cmp (pc_isN (pv 4))) (pw_or (pt_not (pt_val (pe_callB call_isi (by rfl) T.isinst (by decide +kernel) (pa_cons (pv 3) (pa_cons (pe_bltn (v := .ty "tuple") (by rfl) T.tuple (by decide +kernel) rfl) pa_nil)))))
          (pw_or1 (pt_cmpR op_ne (pe_callB call_len_seq (by rfl) T.len PySem.boot_len (pa_cons (pv 3) pa_nil)) (pe_callB call_len_seq (by rfl) T.len PySem.boot_len (pa_cons (pv 4) pa_nil)) (nomark _)))))) (pss_one (ps_ret pe_bl)) pss_nil)
      (pss_one (ps_ret (pe_callB (cr_all rfl) (by rfl) T.all (by decide +kernel) (pa_cons (pe_lc (own := [("value", 5), ("size", 6)]) (g := gTup K 2 (gCons (gName 5) (gCons (gName 6) gNil))) (tt := tYes) rfl sc_is_fact.nd (pi_zipA (by rfl) zi (pa_cons (pv 3) (pa_cons (pv 4) pa_nil)))
        (blkOk_by (N := nIsFact) (sc := defScope s_is_fact) (by decide +kernel)) (fun _ _ _ _ _ => pgT K (pg_tup rfl (pgs_cons (pg_name (i := 5) sc_is_fact.nd rfl (Or.inl rfl)) (pgs_cons (pg_name (i := 6) sc_is_fact.nd rfl (Or.inl rfl)) pgs_nil)))) (fun _ _ _ _ _ => pts_nil)
        (fun _ _ _ _ _ => pcall Db Gb hr (pa_cons (pv 5) (pa_cons (pv 6) pa_nil)))) pa_nil))))))), ?_⟩
    have no : (pf ct tt sz sp sh).lookup (Str.ofString "spans") = none := pf_no (by decide +kernel) (by decide +kernel) (by decide +kernel) (by decide +kernel) (by decide +kernel)
    have q0 := q H (Same.refl H)
    rcases hk.tupV with ⟨_, e⟩ | ⟨_, a, xs, rfl, ha, e⟩
    · have e0 : isFactV H cs ts x = false := by unfold isFactV; rw [e]
      rw [e0] at q0
      exact ⟨_, rfl, x, k, false, rfl, hk, by unfold pairB; rw [e], false, rfl, iteT q0⟩
    by_cases l2 : xs.length = 2
    case neg =>
      have e0 : isFactV H cs ts (.ref a) = false := by
        unfold isFactV; rw [e]
        rcases xs with _ | ⟨y, _ | ⟨z, _ | ⟨u, r⟩⟩⟩
        · rfl
        · rfl
        · exact absurd rfl l2
        · rfl
      rw [e0] at q0
      exact ⟨_, rfl, _, k, false, rfl, hk, by unfold pairB; rw [e]; exact decide_eq_false l2, false, rfl, iteT q0⟩
    refine ⟨_, rfl, _, k, true, rfl, hk, by unfold pairB; rw [e]; exact decide_eq_true l2, true, rfl, ?_⟩
    obtain ⟨y, z, rfl⟩ : ∃ y z, xs = [y, z] := by
      rcases xs with _ | ⟨y, _ | ⟨z, _ | ⟨u, r⟩⟩⟩
      · cases l2
      · cases l2
      · exact ⟨y, z, rfl⟩
      · simp at l2
    have dp := deep _ e
    obtain ⟨⟨ky, hy⟩, _⟩ := dp y (by simp)
    obtain ⟨⟨kz, hz⟩, dz⟩ := dp z (by simp)
    refine iteF ⟨_, rfl, a, _, rfl, tof ha, rfl, _, _, rfl, _, _, rfl, rfl, ?_⟩
    refine ⟨_, rfl, p, dx, _, rfl, h1, no, _, rfl, p, y, cs, ts, rfl, pl, ?_⟩
    by_cases sy : ky = .str
    case neg =>
      have e0 : isFactV H cs ts (.ref a) = false := by
        unfold isFactV; rw [e]
        cases hy <;> first | rfl | exact absurd rfl sy
      rw [e0] at q0
      refine .inr ⟨⟨.type ky.name, hy.ty, by rw [kit_str, decide_eq_false sy]⟩, ?_⟩
      exact ⟨_, rfl, true, rfl, iteT q0⟩
    subst sy
    cases hy with
    | str t =>
      refine .inl ⟨t, rfl, fun e1 => ?_, fun r qs e1 hqs => ?_⟩
      · have e0 : isFactV H cs ts (.ref a) = false := by unfold isFactV; rw [e]; dsimp only; rw [e1]
        rw [e0] at q0
        exact ⟨_, rfl, true, rfl, iteT q0⟩
      · have hrm : r ∈ ts := List.mem_of_find?_eq_some e1
        refine ⟨_, rfl, false, rfl, iteF ?_⟩
        rcases hz.tupV with ⟨nz, ez⟩ | ⟨nz, b, vs, rfl, hb, ez⟩
        · have e0 : isFactV H cs ts (.ref a) = false := by unfold isFactV; rw [e]; dsimp only; rw [e1]; dsimp only; rw [ez]
          rw [e0] at q0
          exact ⟨_, rfl, _, _, _, _, false, rfl, .ty "tuple", hz.ty, by rw [kit_tup, decide_eq_false nz], false, rfl, iteT q0⟩
        refine ⟨_, rfl, _, _, _, _, true, rfl, .ty "tuple", hz.ty, by rw [kit_tup, decide_eq_true nz], true, rfl, ?_⟩
        have ev : isFactV H cs ts (.ref a) = (decide (vs.length = r.2.2.2.length) && (vs.zip (spanI cs r)).all fun p => belowV p.1 p.2) := by unfold isFactV; rw [e]; dsimp only; rw [e1]; dsimp only; rw [ez]
        rw [ev] at q
        have sl : (spanVs cs r).length = r.2.2.2.length := by unfold spanVs; rw [List.length_map]
        refine iteF ⟨_, rfl, b, vs, rfl, .inr (tof hb), _, rfl, qs, _, rfl, .inr (tof hqs), rfl, _, rfl, ?_⟩
        rw [sl]
        by_cases el : vs.length = r.2.2.2.length
        case neg =>
          have e2 : decide (V.int (vs.length : Int) = V.int (r.2.2.2.length : Int)) = false := decide_eq_false fun z => el (by injection z with z; omega)
          rw [e2]
          have := q H (Same.refl H)
          rw [decide_eq_false el] at this
          exact iteT this
        rw [el, decide_eq_true rfl]
        rw [decide_eq_true el, Bool.true_and] at q
        refine iteF ?_
        refine ⟨_, rfl, _, rfl, b, qs, vs, _, rfl, .inr ⟨tof hb, tof hqs, fun D nD => ?_⟩⟩
        refine lc_pair (H1 := H) (walk_zipT (xs := vs) (ys := spanVs cs r) (n := vs.length) (by rw [sl, el]; omega)) nD (fun H2 s2 => ⟨tof (s2 _ _ hb), tof (s2 _ _ hqs)⟩) ?_
          (fun i acc _ => acc = ((vs.zip (spanI cs r)).take i).map fun p => V.bl (belowV p.1 p.2)) rfl (fun _ _ _ _ _ h => h) (fun i u v T H2 acc Q1 Q2 hi eu ev s2 hT p k1 k2 => ?_) (fun H2 acc s2 hD2 p => ?_)
        · rw [el]; exact Nat.lt_of_le_of_lt (okt.two r hrm).2 (by decide)
        · obtain ⟨ku, hu⟩ := dz vs ez u (List.mem_of_getElem? eu)
          rw [spanVs_ints okc okt hrm] at ev
          rw [List.getElem?_map] at ev
          obtain ⟨n, en, rfl⟩ := Option.map_eq_some_iff.mp ev
          have ezip : (vs.zip (spanI cs r))[i]? = some (u, n) := by
            rw [List.getElem?_zip_eq_some]; exact ⟨eu, en⟩
          refine ⟨T, _, rfl, tof hT, rfl, _, _, rfl, _, _, rfl, rfl, rfl, ?_⟩
          refine iteT (B := Q2 H2) ?_
          refine ⟨_, rfl, _, rfl, u, ku, n, rfl, hu.same s2, k1 _ _ (Same.refl _) ?_⟩
          rw [p, List.take_succ, ezip, List.map_append]; rfl
        · have ezl : (vs.zip (spanI cs r)).length = vs.length := by
            rw [List.length_zip]; unfold spanI; rw [List.length_map, el]; omega
          rw [← ezl, List.take_length] at p
          subst p
          refine ⟨D, (vs.zip (spanI cs r)).map fun p => belowV p.1 p.2, rfl, lof (by rw [List.map_map]; exact hD2), ?_⟩
          rw [all_map]; exact q _ s2
end
end As

/-! ## C4p -/
namespace As
open PySem PySem.Spec PyProof.Rows L2
/-- an own error class without its own __init__ -/
structure ErC (K : PySem.W.Frag) (mg : Str → Option Value) (x : Str) (C : Addr) : Prop where
  q : PySem.W.excIn K C [.type "ValueError", .type "Exception", .type "BaseException", .type "object"] "ValueError.__new__" = true
  g : mg x = some (.ref C)
  k : PySem.W.keepIn K (.ref C) = true
  b : PySem.W.subIn K (.ref C) (.type "BaseException") = some true
  t : PySem.W.typeIn K (.ref C) = some (.type "type")
section
variable {P : Program} {w : World} {K : PySem.W.Frag} {mg : Str → Option Value} {base : Heap}
def spCheck (C CB : Addr) : Sp := fun vs H Q E => ∃ (p : Addr) (x : V) (cs : List CRow) (ts : List TRow), vs = [.ref p, x] ∧ PlanAt H C p cs ts ∧ ColsOk H cs ∧ TabsOk H (cs.map (·.2.1)) ts ∧ Deep H x ∧
  (isFactV H cs ts x = true → ∀ H', Same H H' → Q .non H') ∧ (isFactV H cs ts x = false → ∀ H', Same H H' → E (.ref CB) none H')
def sidesUp (k : FK) (i : Nat) : List LK := ((k.2.take i).zipIdx).map fun p => (k.1, (p.2 : Int), p.1)
def sidesOf (k : FK) : List LK := sidesUp k k.2.length
theorem sidesUp_succ {k : FK} {i : Nat} {v : Int} (h : k.2[i]? = some v) : sidesUp k (i + 1) = sidesUp k i ++ [(k.1, (i : Int), v)] := by
  unfold sidesUp
  rw [List.take_succ, h, List.zipIdx_append, List.map_append]
  have hl : (k.2.take i).length = i := by
    rw [List.length_take]
    have := (List.getElem?_eq_some_iff.mp h).1
    omega
  rw [hl]
  simp
def spSeers (C CB : Addr) : Sp := fun vs H Q E => ∃ (p : Addr) (x : V) (cs : List CRow) (ts : List TRow), vs = [.ref p, x] ∧ PlanAt H C p cs ts ∧ ColsOk H cs ∧ TabsOk H (cs.map (·.2.1)) ts ∧ Deep H x ∧
  ((∃ r : FRow, x = fv r ∧ FAt H r ∧ r.2.2.2.length ≤ 2 ∧ isFactV H cs ts x = true ∧ ∀ p' (ls : List LRow) H', Same H H' → H' p' = some (.tup (ls.map lv)) → (∀ l ∈ ls, LAt H' l) → ls.map (·.2) = sidesOf r.2.2 → Q (.ref p') H') ∨
   (isFactV H cs ts x = false ∧ ∀ H', Same H H' → E (.ref CB) none H'))
theorem atI_map {α : Type} {f : α → V} {xs : List α} {i : Int} {v : α} (h : atI xs i = some v) : atI (xs.map f) i = some (f v) := by
  unfold atI at h ⊢
  rw [List.length_map]
  cases e : ixN xs.length i with
  | none => rw [e] at h; cases h
  | some j =>
    rw [e] at h
    have h' : xs[j]? = some v := h
    show (xs.map f)[j]? = some (f v)
    rw [List.getElem?_map, h']; rfl
def spSees : Sp := fun vs H Q _ => ∃ (l : LRow) (r : FRow), vs = [lv l, fv r] ∧ LAt H l ∧ FAt H r ∧ (l.2.1 = r.2.2.1 → ∃ v, atI r.2.2.2 l.2.2.1 = some v) ∧ Q (.bl (decide (l.2.1 = r.2.2.1) && decide (atI r.2.2.2 l.2.2.1 = some l.2.2.2))) H
end
end As

/-! ## C4a -/
namespace As
open PySem PySem.Spec PyProof.Rows L2
section
variable {P : Program} {w : World} {K : PySem.W.Frag} {mg : Str → Option Value} {base : Heap}
theorem sc_check : FnScope ["plan", "thing"] ["plan", "thing"] (defScope s_check_fact) := ⟨rfl, rfl, rfl, by decide +kernel, rfl, by decide +kernel, by decide +kernel⟩
theorem ok_check {f fi C CB : Addr} {fd di : FuncData} (D : Df K mg "check_fact" s_check_fact ["plan", "thing"] f fd) (T : Bi mg) (Di : Df K mg "is_fact" s_is_fact ["plan", "thing"] fi di) (Gi : FnOk P w K mg base CX0 3 fi di ["plan", "thing"] (spIsFact C)) (B : ErC K mg "BadFact" CB) :
    FnOk P w K mg base (L2.CX P w) 4 f fd ["plan", "thing"] (spCheck C CB) := by
  refine D.F.okX sc_check (fun vs H Q E h => ?_) (fun cdv A outer s H vs Q E hr h => ?_)
  · obtain ⟨p, x, cs, ts, rfl, _⟩ := h; rfl
  · obtain ⟨p, x, cs, ts, rfl, pl, okc, okt, dp, q1, q2⟩ := h
    refine ⟨_, pss_one (ps_if (pt_not (pt_val (pcall Di Gi hr (pa_cons (pv 0) (pa_cons (pv 1) pa_nil))))) (pss_one (ps_raise rfl (takes_of rfl rfl rfl rfl) (pmk_own PySem.F.excBase_ValueError B.q B.g B.k (raises_own B.b B.t) rfl))) pss_nil), ?_⟩
    refine ⟨_, rfl, _, rfl, p, x, cs, ts, rfl, pl, okc, okt, dp, fun H' s' => ?_⟩
    refine ⟨_, rfl, ?_⟩
    cases e : isFactV H cs ts x with
    | true => exact iteF (q1 e H' s')
    | false => exact iteT (q2 e H' s')
end
end As

/-! ## C4c -/
namespace As
open PySem PySem.Spec PyProof.Rows L2
section
variable {P : Program} {w : World} {K : PySem.W.Frag} {mg : Str → Option Value} {base : Heap}
/-- looks_that_see: of a fact, a new list of the looks -/
def spLts : Sp := fun vs H Q _ => ∃ r : FRow, vs = [fv r] ∧ FAt H r ∧ r.2.2.2.length ≤ 2 ∧ ∀ p (ls : List LRow) H', Same H H' → H p = none → H' p = some (.lst (ls.map lv)) → (∀ l ∈ ls, LAt H' l) → ls.map (·.2) = sidesOf r.2.2 → Q (.ref p) H'
abbrev nLts : List Str := ["fact", "table", "row", "side", "value"]
theorem sc_lts : FnScope nLts ["fact"] (defScope s_looks_that_see) := ⟨rfl, rfl, rfl, by decide +kernel, rfl, by decide +kernel, by decide +kernel⟩
theorem ok_lts {f : Addr} {fd : FuncData} (D : Df K mg "looks_that_see" s_looks_that_see ["fact"] f fd) (en : mg "enumerate" = none) : FnOk P w K mg base CX0 1 f fd ["fact"] spLts := by
  refine D.F.ok sc_lts (fun vs H Q E h => ?_) (fun cdv A outer s H vs Q E hr h => ?_)
  · obtain ⟨r, rfl, _⟩ := h; rfl
  · obtain ⟨r, rfl, ⟨f1, f2⟩, l2, q⟩ := h
    refine ⟨_, pss_cons (ps_asg (pv 0) (pg_tup rfl (pgs_cons (pg_name (i := 1) sc_lts.nd rfl (Or.inr rfl)) (pgs_cons (pg_name (i := 2) sc_lts.nd rfl (Or.inl rfl)) pgs_nil))))
      (pss_one (ps_ret (pe_lc (own := [("side", 3), ("value", 4)]) (g := gTup K 2 (gCons (gName 3) (gCons (gName 4) gNil))) (tt := tYes) rfl sc_lts.nd (pi_enumT (by rfl) en (pa_cons (pv 2) pa_nil))
        (blkOk_by (N := nLts) (sc := defScope s_looks_that_see) (by decide +kernel)) (fun _ _ _ _ _ => pgT K (pg_tup rfl (pgs_cons (pg_name (i := 3) sc_lts.nd rfl (Or.inl rfl)) (pgs_cons (pg_name (i := 4) sc_lts.nd rfl (Or.inl rfl)) pgs_nil)))) (fun _ _ _ _ _ => pts_nil)
        (fun _ _ _ _ _ => pe_tup (pa_cons (pv 1) (pa_cons (pv 3) (pa_cons (pv 4) pa_nil))))))), ?_⟩
    have vl : (r.2.2.2.map V.int).length = r.2.2.2.length := List.length_map _
    refine ⟨_, rfl, r.1, _, rfl, tof f1, rfl, _, _, rfl, _, _, rfl, rfl, ?_⟩
    refine ⟨_, rfl, r.2.1, _, rfl, tof f2, fun D nD => ?_⟩
    refine lc_pair (H1 := H) walk_enumT nD (fun H2 s2 => tof (s2 _ _ f2)) (by rw [vl]; exact Nat.lt_of_le_of_lt l2 (by decide)) (fun i acc H' => ∃ ls : List LRow, acc = ls.map lv ∧ (∀ l ∈ ls, LAt H' l) ∧ ls.map (·.2) = sidesUp r.2.2 i)
      ⟨[], rfl, (fun _ z => nomatch z), rfl⟩ (fun i acc H H' im ⟨ls, e, fa, k⟩ => ⟨ls, e, fun l hl => (fa l hl).imm im, k⟩) (fun i u v T H2 acc Q1 Q2 hi eu ev s2 hT ⟨ls, ea, fa, k⟩ k1 k2 => ?_) (fun H2 acc s2 hD2 ⟨ls, ea, fa, k⟩ => ?_)
    · have eu' : u = .int (i : Nat) := (Option.some.inj eu).symm
      subst eu' ea
      have ev' : (r.2.2.2.map V.int)[i]? = some v := ev
      rw [List.getElem?_map] at ev'
      obtain ⟨n, en', rfl⟩ := Option.map_eq_some_iff.mp ev'
      refine ⟨T, _, rfl, tof hT, rfl, _, _, rfl, _, _, rfl, rfl, rfl, ?_⟩
      refine iteT (B := Q2 H2) ?_
      refine ⟨_, rfl, _, rfl, _, rfl, by show 3 ≤ sizeLine; decide, fun t nt => ?_⟩
      refine k1 _ _ (same_new nt) ⟨ls ++ [(t, r.2.2.1, (i : Int), n)], ?_, fun l hl => ?_, ?_⟩
      · rw [List.map_append]; rfl
      · rcases List.mem_append.mp hl with hl | hl
        · exact (fa l hl).imm (imm_new nt)
        · rw [List.mem_singleton] at hl; subst hl; exact upd_same
      · rw [List.map_append, k, sidesUp_succ en']; rfl
    · subst ea
      rw [vl] at k
      exact q D ls H2 s2 nD hD2 fa k
theorem sc_seers : FnScope ["plan", "fact"] ["plan", "fact"] (defScope s_seers) := ⟨rfl, rfl, rfl, by decide +kernel, rfl, by decide +kernel, by decide +kernel⟩
theorem ok_seers {f fc fl C CB : Addr} {fd dc dl : FuncData} (D : Df K mg "seers" s_seers ["plan", "fact"] f fd) (T : Bi mg) (Dc : Df K mg "check_fact" s_check_fact ["plan", "thing"] fc dc) (Gc : FnOk P w K mg base (L2.CX P w) 4 fc dc ["plan", "thing"] (spCheck C CB))
    (Dl : Df K mg "looks_that_see" s_looks_that_see ["fact"] fl dl) (Gl' : FnOk P w K mg base CX0 1 fl dl ["fact"] spLts) :
    FnOk P w K mg base (L2.CX P w) 5 f fd ["plan", "fact"] (spSeers C CB) := by
  refine D.F.okX sc_seers (fun vs H Q E h => ?_) (fun cdv A outer s H vs Q E hr h => ?_)
  · obtain ⟨p, x, cs, ts, rfl, _⟩ := h; rfl
  · obtain ⟨p, x, cs, ts, rfl, pl, okc, okt, dp, q⟩ := h
    have ht := T.tuple
    refine ⟨_, pss_cons (ps_expr (pe_callS (E := WE fun cls d _ H => E cls d H) Gc hr (by rfl) Dc.m Dc.F.kp Dc.b (fun σ => passAt (takes_of rfl rfl rfl rfl) σ) (pa_cons (pv 0) (pa_cons (pv 1) pa_nil))))
      (pss_one (ps_ret (tupK K (pcall Dl Gl' (hr.mono (by decide)) (pa_cons (pv 1) pa_nil))))), ?_⟩
    refine ⟨_, rfl, _, rfl, p, x, cs, ts, rfl, pl, okc, okt, dp, ?_⟩
    rcases q with ⟨r, rfl, fr, l2, e, q⟩ | ⟨e, q⟩
    · refine ⟨fun _ H1 s1 => ?_, fun e' => by rw [e] at e'; cases e'⟩
      refine ⟨_, rfl, r, rfl, fr.imm (same_imm s1), l2, fun D ls H2 s2 _ hD2 fa k => ?_⟩
      exact kTup_seq (.inl hD2) fun p' H3 s3 h3 => q p' ls H3 (s1.trans (s2.trans s3)) h3 (fun l hl => s3 _ _ (fa l hl)) k
    · exact ⟨fun e' => absurd (e.symm.trans e') (by decide), fun _ H1 s1 => q H1 s1⟩
end
end As

/-! ## C2p -/
namespace As
open PySem PySem.Spec PyProof.Rows L2 TL
open PySem.W (dataLe AllAlike Sortable dataLt alike)
section
variable {P : Program} {w : World} {K : PySem.W.Frag} {mg : Str → Option Value} {base : Heap}
def spLLooks : Sp := fun vs H Q _ => ∃ (cl tl : Addr) (cs : List CRow) (ts : List TRow), vs = [.ref cl, .ref tl] ∧ H cl = some (.lst (cs.map cv)) ∧ H tl = some (.lst (ts.map tv)) ∧ ColsOk H cs ∧ TabsOk H (cs.map (·.2.1)) ts ∧
  ∀ p (fs : List LRow) H', Same H H' → H p = none → H' p = some (.lst (fs.map lv)) → (∀ r ∈ fs, LAt H' r) → fs.map (·.2) = sortL (ts.flatMap (looksT cs)) → Q (.ref p) H'
end
end As

/-! ## C5 -/
namespace As
open PySem PySem.Spec PyProof.Rows L2
open PySem.W (dataLe AllAlike Sortable dataLt alike keyToks keyToksAll)
theorem lk_inj {a b : LK} (h : keyToks (lkD a) = keyToks (lkD b)) : a = b := by
  obtain ⟨n, s, v⟩ := a
  obtain ⟨n', s', v'⟩ := b
  simp only [lkD, keyToks, keyToksAll, List.cons_append, List.nil_append, List.cons.injEq, Sum.inr.injEq, Sum.inl.injEq, true_and, and_true] at h
  obtain ⟨h1, h2, h3⟩ := h
  rw [PySem.W.str_of_cps h1, h2, h3]
theorem sorted_eq {β : Type} {k : β → PyData} (inj : ∀ a b, keyToks (k a) = keyToks (k b) → a = b) {l m : List β} (p : l.Perm m) (hl : l.Pairwise fun a b => dataLe false k a b = true) (hm : m.Pairwise fun a b => dataLe false k a b = true) : l = m := by
  refine List.Perm.eq_of_pairwise (le := fun a b => dataLe false k a b = true) (fun a b _ _ h1 h2 => inj a b ?_) hl hm p
  have e1 : (PyProof.Rows.listOrd PyProof.Rows.itemOrd).blt (keyToks (k b)) (keyToks (k a)) = false := by
    have h : (!(PyProof.Rows.listOrd PyProof.Rows.itemOrd).blt (keyToks (k b)) (keyToks (k a))) = true := h1
    rwa [Bool.not_eq_true'] at h
  have e2 : (PyProof.Rows.listOrd PyProof.Rows.itemOrd).blt (keyToks (k a)) (keyToks (k b)) = false := by
    have h : (!(PyProof.Rows.listOrd PyProof.Rows.itemOrd).blt (keyToks (k a)) (keyToks (k b))) = true := h2
    rwa [Bool.not_eq_true'] at h
  exact (PyProof.Rows.listOrd PyProof.Rows.itemOrd).total _ _ e2 e1
theorem sortL_sorted (l : List LK) : (sortL l).Pairwise fun a b => dataLe false lkD a b = true := PySem.W.sort_pairwise (PySem.W.sortLe_total _ _ _) l
theorem sortF_sorted (l : List FK) : (sortF l).Pairwise fun a b => dataLe false fkD a b = true := PySem.W.sort_pairwise (PySem.W.sortLe_total _ _ _) l
theorem sortL_perm (l : List LK) : (sortL l).Perm l := List.mergeSort_perm _ _
theorem sortF_perm (l : List FK) : (sortF l).Perm l := List.mergeSort_perm _ _
theorem lk_le {n : Str} {s s' v v' : Int} (h : s < s') : dataLe false lkD (n, s, v) (n, s', v') = true := by
  show (!dataLt (lkD (n, s', v')) (lkD (n, s, v))) = true
  unfold lkD
  rw [PySem.W.dataLt_tuple, PySem.W.dataLt_all_yes (by simp [alike]) (by simp [PyData.eqv]), PySem.W.dataLt_all_no (by simp [alike]) (by simp [PyData.eqv]; omega), PySem.W.dataLt_int]
  simp; omega
/-! one table alone -/
theorem flat_one {β : Type} {g : TRow → List β} : ∀ {ts : List TRow}, (ts.map (·.2.1)).Nodup → ∀ {r : TRow}, r ∈ ts → (∀ r' ∈ ts, r'.2.1 ≠ r.2.1 → g r' = []) → ts.flatMap g = g r
  | [], _, _, hr, _ => nomatch hr
  | a :: t, nd, r, hr, h => by
    rw [List.map_cons, List.nodup_cons] at nd
    rw [List.flatMap_cons]
    rcases List.mem_cons.mp hr with e | hr
    · subst e
      have : t.flatMap g = [] := List.flatMap_eq_nil_iff.mpr fun r' hr' => h r' (List.mem_cons_of_mem _ hr') fun z => nd.1 (List.mem_map.mpr ⟨r', hr', z⟩)
      rw [this, List.append_nil]
    · have e : g a = [] := h a List.mem_cons_self fun z => nd.1 (List.mem_map.mpr ⟨r, hr, z.symm⟩)
      rw [e, List.nil_append, flat_one nd.2 hr fun r' hr' => h r' (List.mem_cons_of_mem _ hr')]
theorem ir_filter {n : Nat} {v : Int} (h0 : 0 ≤ v) (h1 : v < n) (p : Int → Bool) (hp : ∀ u ∈ ir n, p u = decide (u = v)) : (ir n).filter p = [v] := by
  have e : (ir n).filter p = (ir n).filter fun u => decide (u = v) := List.filter_congr hp
  rw [e]
  clear e hp
  induction n with
  | zero => omega
  | succ n ih =>
    rw [ir_succ, List.filter_append]
    by_cases hv : v = n
    · subst hv
      have e : (ir n).filter (fun u => decide (u = (n : Int))) = [] := List.filter_eq_nil_iff.mpr fun u hu => by
        obtain ⟨k, hk, rfl⟩ := List.mem_map.mp hu
        have := List.mem_range.mp hk
        simp; omega
      rw [e]; simp
    · rw [ih (by omega)]
      have : ¬ ((n : Int) = v) := fun z => hv z.symm
      simp [this]
def seesB (l : LK) (k : FK) : Bool := decide (l.1 = k.1) && decide (atI k.2 l.2.1 = some l.2.2)
/-- k is a fact of the table r -/
def OfT (cs : List CRow) (r : TRow) (k : FK) : Prop := k.1 = r.2.1 ∧ ((∃ c v, r.2.2.2 = [c] ∧ k.2 = [v] ∧ 0 ≤ v ∧ v < sizeI cs c) ∨ ∃ c d v o, r.2.2.2 = [c, d] ∧ k.2 = [v, o] ∧ (0 ≤ v ∧ v < sizeI cs c) ∧ 0 ≤ o ∧ o < sizeI cs d)
def LofT (cs : List CRow) (r : TRow) (l : LK) : Prop := l.1 = r.2.1 ∧ ∃ (s : Nat) (c : Str), r.2.2.2[s]? = some c ∧ l.2.1 = s ∧ 0 ≤ l.2.2 ∧ l.2.2 < sizeI cs c
theorem ir_mem {n : Nat} {v : Int} : v ∈ ir n ↔ 0 ≤ v ∧ v < n := by
  unfold ir
  rw [List.mem_map]
  constructor
  · rintro ⟨k, hk, rfl⟩; have := List.mem_range.mp hk; omega
  · rintro ⟨h0, h1⟩; exact ⟨v.toNat, List.mem_range.mpr (by omega), by omega⟩
theorem factsT_of {cs : List CRow} {r : TRow} {k : FK} (h : k ∈ factsT cs r) : OfT cs r k := by
  obtain ⟨ra, n, qa, ps⟩ := r
  unfold factsT firstN factsUp at h
  dsimp only at h
  split at h
  · rename_i c
    obtain ⟨v, hv, rfl⟩ := List.mem_map.mp h
    rw [ir_mem] at hv
    exact ⟨rfl, .inl ⟨c, v, rfl, rfl, hv.1, by have h2 : v < ((sizeI cs c).toNat : Int) := hv.2; omega⟩⟩
  · rename_i c d
    obtain ⟨v, hv, h⟩ := List.mem_flatMap.mp h
    obtain ⟨o, ho, rfl⟩ := List.mem_map.mp h
    rw [ir_mem] at hv ho
    exact ⟨rfl, .inr ⟨c, d, v, o, rfl, rfl, ⟨hv.1, by have h2 : v < ((sizeI cs c).toNat : Int) := hv.2; omega⟩, ho.1, by have h2 : o < ((sizeI cs d).toNat : Int) := ho.2; omega⟩⟩
  · cases h
theorem looksT_of {cs : List CRow} {r : TRow} {l : LK} (h : l ∈ looksT cs r) : LofT cs r l := by
  obtain ⟨ra, n, qa, ps⟩ := r
  unfold looksT looksUp at h
  obtain ⟨s, hs, h⟩ := List.mem_flatMap.mp h
  obtain ⟨v, hv, rfl⟩ := List.mem_map.mp h
  rw [ir_mem] at hv
  have hs' := List.mem_range.mp hs
  dsimp only at hs' hv
  rw [List.getD_eq_getElem?_getD, List.getElem?_eq_getElem hs'] at hv
  refine ⟨rfl, s, ps[s], List.getElem?_eq_getElem hs', rfl, hv.1, ?_⟩
  have h2 : v < ((sizeI cs ps[s]).toNat : Int) := hv.2
  show v < sizeI cs ps[s]
  omega
theorem ir_flat {β : Type} {n : Nat} {v : Int} {x : β} (h0 : 0 ≤ v) (h1 : v < n) {g : Int → List β} (hg : ∀ u ∈ ir n, g u = if u = v then [x] else []) : (ir n).flatMap g = [x] := by
  induction n with
  | zero => omega
  | succ n ih =>
    rw [ir_succ, List.flatMap_append, List.flatMap_cons, List.flatMap_nil, List.append_nil]
    by_cases hv : v = n
    · have e : (ir n).flatMap g = [] := List.flatMap_eq_nil_iff.mpr fun u hu => by
        rw [hg u (by rw [ir_succ]; exact List.mem_append_left _ hu), if_neg]
        have := (ir_mem.mp hu).2
        omega
      rw [e, hg n (by rw [ir_succ]; simp), if_pos hv.symm]; rfl
    · rw [ih (by omega) (fun u hu => hg u (by rw [ir_succ]; exact List.mem_append_left _ hu)), hg n (by rw [ir_succ]; simp), if_neg (fun z => hv z.symm)]; rfl
theorem name_one {ts : List TRow} (nd : (ts.map (·.2.1)).Nodup) : ∀ {r r' : TRow}, r ∈ ts → r' ∈ ts → r.2.1 = r'.2.1 → r = r' := by
  induction ts with
  | nil => intro r r' h; cases h
  | cons a t ih =>
    intro r r' h h' e
    rw [List.map_cons, List.nodup_cons] at nd
    rcases List.mem_cons.mp h with g | g <;> rcases List.mem_cons.mp h' with g' | g'
    · rw [g, g']
    · rw [g] at e; exact (nd.1 (List.mem_map.mpr ⟨r', g', e.symm⟩)).elim
    · rw [g'] at e; exact (nd.1 (List.mem_map.mpr ⟨r, g, e⟩)).elim
    · exact ih nd.2 g g' e
theorem tabOf_of {ts : List TRow} (nd : (ts.map (·.2.1)).Nodup) {r : TRow} (h : r ∈ ts) : tabOf ts r.2.1 = some r := by
  unfold tabOf
  cases e : ts.find? (fun x => decide (x.2.1 = r.2.1)) with
  | none => exact absurd (List.find?_eq_none.mp e r h) (by simp)
  | some r' =>
    have h1 := List.find?_some e
    rw [name_one nd (List.mem_of_find?_eq_some e) h (by simpa using h1)]
theorem atI_zero {α : Type} {x : α} {xs : List α} : atI (x :: xs) 0 = some x := atI_lt (i := 0) (by decide) (by simp) rfl
theorem atI_one {α : Type} {x y : α} {xs : List α} : atI (x :: y :: xs) 1 = some y := atI_lt (i := 1) (by decide) (by simp; omega) rfl
theorem looks_filter {cs : List CRow} {ts : List TRow} (nd : (ts.map (·.2.1)).Nodup) {r : TRow} (hr : r ∈ ts) {k : FK} (hk : OfT cs r k) : (ts.flatMap (looksT cs)).filter (fun l => seesB l k) = sidesOf k := by
  rw [List.filter_flatMap, flat_one nd hr]
  · obtain ⟨ra, n, qa, ps⟩ := r
    obtain ⟨kn, kr⟩ := k
    obtain ⟨rfl, ⟨c, v, hp, hv, h0, h1⟩ | ⟨c, d, v, o, hp, hv, ⟨h0, h1⟩, h2, h3⟩⟩ := hk
    · dsimp only at hp hv
      subst hp hv
      show ((ir (sizeI cs c).toNat).map (fun u => ((kn, (0 : Nat), u) : LK)) ++ []).filter _ = [(kn, 0, v)]
      rw [List.append_nil, List.filter_map, ir_filter h0 (by omega) _ (fun u _ => ?_)]
      · rfl
      · show (decide (kn = kn) && decide (atI [v] (0 : Int) = some u)) = _
        rw [atI_zero]
        by_cases e : u = v
        · simp [e]
        · simp [e]; exact fun z => e z.symm
    · dsimp only at hp hv
      subst hp hv
      show ((ir (sizeI cs c).toNat).map (fun u => ((kn, (0 : Nat), u) : LK)) ++ ((ir (sizeI cs d).toNat).map (fun u => ((kn, (1 : Nat), u) : LK)) ++ [])).filter _ = [(kn, 0, v), (kn, 1, o)]
      rw [List.append_nil, List.filter_append, List.filter_map, List.filter_map, ir_filter h0 (by omega) _ (fun u _ => ?_), ir_filter h2 (by omega) _ (fun u _ => ?_)]
      · rfl
      · show (decide (kn = kn) && decide (atI [v, o] (1 : Int) = some u)) = _
        rw [atI_one]
        by_cases e : u = o
        · simp [e]
        · simp [e]; exact fun z => e z.symm
      · show (decide (kn = kn) && decide (atI [v, o] (0 : Int) = some u)) = _
        rw [atI_zero]
        by_cases e : u = v
        · simp [e]
        · simp [e]; exact fun z => e z.symm
  · intro r' hr' hn
    refine List.filter_eq_nil_iff.mpr fun l hl => ?_
    have := (looksT_of hl).1
    unfold seesB
    rw [decide_eq_false (fun z => hn (by rw [← this, z, hk.1]))]
    simp
theorem due_eq {cs : List CRow} {ts : List TRow} (nd : (ts.map (·.2.1)).Nodup) {r : TRow} (hr : r ∈ ts) {k : FK} (hk : OfT cs r k) : (sortL (ts.flatMap (looksT cs))).filter (fun l => seesB l k) = sidesOf k := by
  have p : ((sortL (ts.flatMap (looksT cs))).filter (fun l => seesB l k)).Perm (sidesOf k) := by
    rw [← looks_filter nd hr hk]
    exact (sortL_perm _).filter _
  refine sorted_eq (fun a b => lk_inj) p ((sortL_sorted _).filter _) ?_
  obtain ⟨kn, kr⟩ := k
  obtain ⟨rfl, ⟨c, v, hp, hv, _⟩ | ⟨c, d, v, o, hp, hv, _⟩⟩ := hk
  · dsimp only at hv
    subst hv
    exact List.pairwise_singleton _ _
  · dsimp only at hv
    subst hv
    show List.Pairwise _ [(_, 0, v), (_, 1, o)]
    refine List.pairwise_cons.mpr ⟨fun x hx => ?_, List.pairwise_singleton _ _⟩
    rw [List.mem_singleton] at hx; subst hx
    exact lk_le (by decide)
theorem sides_len {cs : List CRow} {r : TRow} {k : FK} (hk : OfT cs r k) : (sidesOf k).length = k.2.length := by
  unfold sidesOf sidesUp
  rw [List.length_map, List.length_zipIdx, List.take_length]
theorem own_at {cs : List CRow} {ts : List TRow} (nd : (ts.map (·.2.1)).Nodup) {r r' : TRow} (hr : r ∈ ts) (hr' : r' ∈ ts) {l : LK} {k : FK} (hl : LofT cs r' l) (hk : OfT cs r k) (e : l.1 = k.1) : ∃ v, atI k.2 l.2.1 = some v := by
  have er : r = r' := name_one nd hr hr' (by rw [← hk.1, ← hl.1, e])
  subst er
  obtain ⟨_, s, c, hs, h1, _⟩ := hl
  have hlen : r.2.2.2.length = k.2.length := by
    obtain ⟨_, ⟨c, v, hp, hv, _⟩ | ⟨c, d, v, o, hp, hv, _⟩⟩ := hk <;> rw [hp, hv] <;> rfl
  have hlt := (List.getElem?_eq_some_iff.mp hs).1
  refine ⟨k.2[s], ?_⟩
  rw [h1]
  exact atI_lt (by omega) (by omega) (by rw [show ((s : Int)).toNat = s by omega]; exact List.getElem?_eq_getElem (by omega))
theorem isFact_of {cs : List CRow} {ts : List TRow} (nd : (ts.map (·.2.1)).Nodup) {r : TRow} (hr : r ∈ ts) {H : Hp} {x : FRow} (hx : FAt H x) (hk : OfT cs r x.2.2) : isFactV H cs ts (fv x) = true := by
  unfold isFactV fv
  rw [tupV_at hx.1]
  dsimp only
  rw [hk.1, tabOf_of nd hr]
  dsimp only
  rw [tupV_at hx.2]
  dsimp only
  unfold spanI
  obtain ⟨_, ⟨c, v, hp, hv, h0, h1⟩ | ⟨c, d, v, o, hp, hv, ⟨h0, h1⟩, h2, h3⟩⟩ := hk
  · rw [hp, hv]; simp [belowV, h0, h1]
  · rw [hp, hv]; simp [belowV, h0, h1, h2, h3]
theorem deep_f {H : Hp} {x : FRow} (hx : FAt H x) : Deep H (fv x) := by
  refine ⟨⟨_, .tup hx.1⟩, fun xs e y hy => ?_⟩
  rw [show tupV H (fv x) = _ from tupV_at hx.1] at e
  cases e
  simp only [List.mem_cons, List.not_mem_nil, or_false] at hy
  rcases hy with rfl | rfl
  · exact ⟨⟨_, .str _⟩, fun ys e => nomatch e⟩
  · refine ⟨⟨_, .tup hx.2⟩, fun ys e z hz => ?_⟩
    rw [tupV_at hx.2] at e; cases e
    obtain ⟨i, _, rfl⟩ := List.mem_map.mp hz
    exact ⟨_, .int i⟩
theorem crossed {cs : List CRow} {ts : List TRow} (nd : (ts.map (·.2.1)).Nodup) {l1 l2 : LK} {r1 r2 : TRow} (two : ∀ r ∈ ts, r.2.2.2.length ≤ 2) (h1 : r1 ∈ ts) (h2 : r2 ∈ ts) (k1 : LofT cs r1 l1) (k2 : LofT cs r2 l2) (e : l2.1 = l1.1) (lt : l1.2.1 < l2.2.1) :
    (((sortF (ts.flatMap (factsT cs))).filter fun k => seesB l1 k).filter fun k => seesB l2 k).length = 1 := by
  have er : r2 = r1 := name_one nd h2 h1 (by rw [← k1.1, ← k2.1, e])
  subst er
  obtain ⟨n1, s1, c1, p1, a1, b1, d1⟩ := k1
  obtain ⟨n2, s2, c2, p2, a2, b2, d2⟩ := k2
  obtain ⟨la, lb, lc⟩ := l1
  obtain ⟨ma, mb, mc⟩ := l2
  dsimp only at n1 n2 a1 a2 b1 b2 d1 d2 e lt
  have t2 := two _ h2
  have q2 := (List.getElem?_eq_some_iff.mp p2).1
  have es1 : s1 = 0 := by omega
  have es2 : s2 = 1 := by omega
  subst es1 es2 a1 a2
  obtain ⟨ra, n, qa, ps⟩ := r2
  dsimp only at p1 p2 t2 n1 n2
  obtain rfl : ps = [c1, c2] := by
    rcases ps with _ | ⟨x, _ | ⟨y, _ | ⟨z, w⟩⟩⟩
    · cases p1
    · cases p2
    · cases p1; cases p2; rfl
    · simp at t2
  subst n1 n2
  have p : (((sortF (ts.flatMap (factsT cs))).filter fun k => seesB (ma, (0 : Nat), lc) k).filter fun k => seesB (ma, (1 : Nat), mc) k).Perm (((ts.flatMap (factsT cs)).filter fun k => seesB (ma, (0 : Nat), lc) k).filter fun k => seesB (ma, (1 : Nat), mc) k) := ((sortF_perm _).filter _).filter _
  rw [p.length_eq, List.filter_filter, List.filter_flatMap, flat_one nd h2]
  · show (((ir (sizeI cs c1).toNat).flatMap fun v => (ir (sizeI cs c2).toNat).map fun o => ((ma, [v, o]) : FK)).filter _).length = 1
    rw [List.filter_flatMap, ir_flat (v := lc) (x := (ma, [lc, mc])) b1 (by omega) (fun u hu => ?_)]
    · rfl
    · rw [List.filter_map]
      by_cases hu' : u = lc
      · subst hu'
        rw [if_pos rfl, ir_filter b2 (by omega) _ (fun o _ => ?_)]
        · rfl
        · show ((decide (ma = ma) && decide (atI [u, o] (1 : Int) = some mc)) && (decide (ma = ma) && decide (atI [u, o] (0 : Int) = some u))) = _
          rw [atI_one, atI_zero]
          simp
      · rw [if_neg hu']
        have : (ir (sizeI cs c2).toNat).filter ((fun a => seesB (ma, ((1 : Nat) : Int), mc) a && seesB (ma, ((0 : Nat) : Int), lc) a) ∘ fun o => (ma, [u, o])) = [] := List.filter_eq_nil_iff.mpr fun o _ => by
          show ¬ ((decide (ma = ma) && decide (atI [u, o] (1 : Int) = some mc)) && (decide (ma = ma) && decide (atI [u, o] (0 : Int) = some lc))) = true
          rw [atI_one, atI_zero]
          simp [hu']
        rw [this]; rfl
  · intro r' hr' hn
    refine List.filter_eq_nil_iff.mpr fun k hk => ?_
    have := (factsT_of hk).1
    unfold seesB
    rw [decide_eq_false (fun z => hn (by rw [← this, ← z]))]
    simp
end As

/-! ## F0 -/
namespace As
open PySem PySem.Spec PyProof.Rows L2
open PySem.W (dataLe AllAlike Sortable dataLt alike)
/-! facts as keys of a dict -/
def fkN (k : FK) : NestedKey := .tup [.text k.1, .tup (k.2.map .num)]
theorem num_inj : ∀ {xs ys : List Int}, xs.map NestedKey.num = ys.map NestedKey.num → xs = ys
  | [], [], _ => rfl
  | [], _ :: _, h => nomatch h
  | _ :: _, [], h => nomatch h
  | x :: xs, y :: ys, h => by
    injection h with h1 h2
    injection h1 with h1
    rw [h1, num_inj h2]
theorem fkN_inj {a b : FK} (h : fkN a = fkN b) : a = b := by
  obtain ⟨x, xs⟩ := a
  obtain ⟨y, ys⟩ := b
  unfold fkN at h
  injection h with h
  injection h with h1 h2
  injection h2 with h2 _
  injection h1 with h1
  injection h2 with h2
  dsimp only at h1 h2
  rw [h1, num_inj h2]
theorem nk_ints {H : Hp} : ∀ {xs : List Int}, NkAll H (xs.map .num) (xs.map V.int)
  | [] => .nil
  | x :: _ => .cons (.int x) nk_ints
theorem nk_f {H : Hp} {f : FRow} (h : FAt H f) : NkV H (fkN f.2.2) (fv f) := .tup h.1 (.cons (.str _) (.cons (.tup h.2 nk_ints) .nil))
theorem ints_depthN : ∀ {xs : List Int}, NestedKey.depthAll (xs.map .num) = 0
  | [] => by simp [NestedKey.depthAll]
  | x :: xs => by simp [NestedKey.depthAll, NestedKey.depth, ints_depthN (xs := xs)]
theorem fkN_depth (k : FK) : (fkN k).depth ≤ 8 := by
  simp [fkN, NestedKey.depth, NestedKey.depthAll, ints_depthN]
theorem key_f {H : Hp} {f : FRow} (h : FAt H f) : KeyAt H (fkN f.2.2) f.1 := ⟨nk_f h, fkN_depth _⟩
def fEnt (f : FRow) : NEnt := (fkN f.2.2, f.1, .bl true)
def fNew (fs : List FRow) (f : FRow) : List FRow := if f.2.2 ∈ fs.map (·.2.2) then fs else fs ++ [f]
theorem ndVal_f {fs : List FRow} {k : FK} : (ndVal (fs.map fEnt) (fkN k)).isSome = decide (k ∈ fs.map (·.2.2)) := by
  induction fs with
  | nil => simp [ndVal]
  | cons f fs ih =>
    unfold ndVal at ih ⊢
    rw [List.map_cons, List.find?_cons]
    by_cases h : f.2.2 = k
    · subst h; simp [fEnt]
    · have h2 : ¬ (fkN f.2.2 = fkN k) := fun z => h (fkN_inj z)
      have h3 : decide ((fEnt f).1 = fkN k) = false := decide_eq_false h2
      rw [h3]
      have h4 : ¬ k = f.2.2 := fun z => h z.symm
      simp only [ih, List.map_cons, List.mem_cons, h4, false_or]
theorem ndPut_f {fs : List FRow} {f : FRow} : ndPut (fs.map fEnt) (fkN f.2.2) f.1 (.bl true) = (fNew fs f).map fEnt := by
  unfold ndPut fNew
  rw [ndVal_f]
  by_cases h : f.2.2 ∈ fs.map (·.2.2)
  · rw [if_pos (decide_eq_true h), if_pos h, List.map_map]
    apply List.map_congr_left
    intro g _
    show (if fkN g.2.2 = fkN f.2.2 then (fkN g.2.2, g.1, V.bl true) else fEnt g) = fEnt g
    split <;> rfl
  · rw [if_neg (by simp [h]), if_neg h, List.map_append]; rfl
/-- the facts told of so far, each once -/
def uniq (gs : List FRow) (i : Nat) : List FRow := (gs.take i).foldl fNew []
theorem uniq_succ {gs : List FRow} {i : Nat} {f : FRow} (h : gs[i]? = some f) : uniq gs (i + 1) = fNew (uniq gs i) f := by
  unfold uniq
  rw [List.take_succ, h, List.foldl_append]; rfl
theorem fNew_mem {fs : List FRow} {f g : FRow} (h : g ∈ fNew fs f) : g ∈ fs ∨ g = f := by
  unfold fNew at h
  split at h
  · exact .inl h
  · rcases List.mem_append.mp h with h | h
    · exact .inl h
    · exact .inr (List.mem_singleton.mp h)
theorem fNew_keys {fs : List FRow} {f : FRow} {k : FK} : k ∈ (fNew fs f).map (·.2.2) ↔ k ∈ fs.map (·.2.2) ∨ k = f.2.2 := by
  unfold fNew
  split
  · rename_i h
    constructor
    · exact .inl
    · rintro (h2 | rfl)
      · exact h2
      · exact h
  · rw [List.map_append, List.mem_append]; simp
theorem fNew_nd {fs : List FRow} {f : FRow} (h : (fs.map (·.2.2)).Nodup) : ((fNew fs f).map (·.2.2)).Nodup := by
  unfold fNew
  split
  · exact h
  · rename_i n
    rw [List.map_append, List.nodup_append]
    exact ⟨h, by simp, fun a ha b hb => by
      simp at hb; subst hb; rintro rfl; exact n ha⟩
theorem uniq_prop {gs : List FRow} : ∀ i, i ≤ gs.length → (∀ f ∈ uniq gs i, f ∈ gs) ∧ ((uniq gs i).map (·.2.2)).Nodup ∧ (∀ k, k ∈ (uniq gs i).map (·.2.2) ↔ k ∈ (gs.take i).map (·.2.2)) ∧ (uniq gs i).length ≤ i
  | 0, _ => ⟨fun _ h => (by cases h), List.nodup_nil, fun k => by simp [uniq], Nat.le_refl _⟩
  | i + 1, h => by
    obtain ⟨h1, h2, h3, h4⟩ := uniq_prop i (Nat.le_of_succ_le h)
    have hi : gs[i]? = some gs[i] := List.getElem?_eq_getElem h
    rw [uniq_succ hi]
    refine ⟨fun f hf => ?_, fNew_nd h2, fun k => ?_, ?_⟩
    · rcases fNew_mem hf with hf | rfl
      · exact h1 f hf
      · exact List.getElem_mem h
    · rw [fNew_keys, h3, List.take_succ, hi, List.map_append, List.mem_append]; simp
    · unfold fNew; split
      · omega
      · rw [List.length_append, List.length_singleton]; omega
/-! a store as an object -/
theorem mPP : ¬ (Str.ofString "_plan") = (Str.ofString "_present") := by decide +kernel
theorem mPF : ¬ (Str.ofString "_plan") = (Str.ofString "_facts") := by decide +kernel
theorem mEF : ¬ (Str.ofString "_present") = (Str.ofString "_facts") := by decide +kernel
def sf2 (p pr : Addr) : List (Str × V) := putF (Str.ofString "_present") (.ref pr) (putF (Str.ofString "_plan") (.ref p) [])
def sf (p pr fa : Addr) : List (Str × V) := putF (Str.ofString "_facts") (.ref fa) (sf2 p pr)
theorem sf2_E {p pr : Addr} : (sf2 p pr).lookup (Str.ofString "_present") = some (.ref pr) := by unfold sf2; rw [lookup_putF, if_pos rfl]
theorem sf_P {p pr fa : Addr} : (sf p pr fa).lookup (Str.ofString "_plan") = some (.ref p) := by
  unfold sf sf2; rw [lookup_putF, if_neg mPF, lookup_putF, if_neg mPP, lookup_putF, if_pos rfl]
theorem sf_E {p pr fa : Addr} : (sf p pr fa).lookup (Str.ofString "_present") = some (.ref pr) := by
  unfold sf; rw [lookup_putF, if_neg mEF]; exact sf2_E
theorem sf_F {p pr fa : Addr} : (sf p pr fa).lookup (Str.ofString "_facts") = some (.ref fa) := by unfold sf; rw [lookup_putF, if_pos rfl]
theorem sf_no {p pr fa : Addr} {m : Str} (h1 : ¬ m = (Str.ofString "_plan")) (h2 : ¬ m = (Str.ofString "_present")) (h3 : ¬ m = (Str.ofString "_facts")) : (sf p pr fa).lookup m = none := by
  unfold sf sf2; rw [lookup_putF, if_neg h3, lookup_putF, if_neg h2, lookup_putF, if_neg h1]; rfl
def keysF (fs : List FRow) : List FK := fs.map (·.2.2)
/-- ascending, each once -/
def Asc (ks : List FK) : Prop := ks.Nodup ∧ ks.Pairwise fun a b => dataLe false fkD a b = true
def StoreAt (P : Program) (w : World) (H : Hp) (S s p : Addr) (fs : List FRow) : Prop := ∃ (dx pr fa : Addr) (us : List FRow), H s = some (.ins S dx (sf p pr fa)) ∧ H pr = some (NDict P w pr (us.map fEnt)) ∧ (∀ f ∈ us, FAt H f) ∧ us.length ≤ 100000 ∧ H fa = some (.tup (fs.map fv)) ∧ us.Perm fs ∧ Asc (keysF fs)
theorem StoreAt.same {P : Program} {w : World} {H H' : Hp} {S s p : Addr} {fs : List FRow} (h : StoreAt P w H S s p fs) (e : Same H H') : StoreAt P w H' S s p fs := by
  obtain ⟨dx, pr, fa, us, h1, h2, h3, h3', h4, h5, h6⟩ := h
  exact ⟨dx, pr, fa, us, e _ _ h1, e _ _ h2, fun f hf => (h3 f hf).imm (same_imm e), h3', e _ _ h4, h5, h6⟩
theorem StoreAt.fat {P : Program} {w : World} {H : Hp} {S s p : Addr} {fs : List FRow} (h : StoreAt P w H S s p fs) : ∀ f ∈ fs, FAt H f := by
  obtain ⟨dx, pr, fa, us, h1, h2, h3, h3', h4, h5, h6⟩ := h
  exact fun f hf => h3 f (h5.mem_iff.mpr hf)
/-- all are facts of the plan -/
def OwnF (cs : List CRow) (ts : List TRow) (fs : List FRow) : Prop := ∀ f ∈ fs, ∃ r ∈ ts, OfT cs r f.2.2
theorem toksJ : ∀ {a b : List Int}, PySem.W.keyToksAll (a.map .int) = PySem.W.keyToksAll (b.map .int) → a = b
  | [], [], _ => rfl
  | [], y :: b, h => by simp [PySem.W.keyToksAll] at h
  | x :: a, [], h => by simp [PySem.W.keyToksAll] at h
  | x :: a, y :: b, h => by
    simp only [List.map_cons, PySem.W.keyToksAll, PySem.W.keyToks, List.cons_append, List.nil_append, List.cons.injEq, Sum.inl.injEq, true_and] at h
    rw [h.1, toksJ h.2]
theorem fkJ {a b : FK} (h : PySem.W.keyToks (fkD a) = PySem.W.keyToks (fkD b)) : a = b := by
  obtain ⟨n, r⟩ := a
  obtain ⟨m, q⟩ := b
  simp only [fkD, PySem.W.keyToks, PySem.W.keyToksAll, List.cons_append, List.nil_append, List.cons.injEq, Sum.inr.injEq, true_and] at h
  obtain ⟨h1, h2⟩ := h
  rw [PySem.W.str_of_cps h1, toksJ (List.append_cancel_right h2)]
theorem asc_eq {xs ys : List FK} (hx : Asc xs) (hy : Asc ys) (h : ∀ k, k ∈ xs ↔ k ∈ ys) : xs = ys :=
  sorted_eq (fun a b => fkJ) ((List.perm_ext_iff_of_nodup hx.1 hy.1).mpr h) hx.2 hy.2
theorem asc_filter {xs : List FK} (p : FK → Bool) (h : Asc xs) : Asc (xs.filter p) := ⟨h.1.filter _, h.2.filter _⟩
end As

/-! ## F1 -/
namespace As
open PySem PySem.Spec PyProof.Rows L2
open PySem.W (dataLe AllAlike Sortable dataLt alike)
abbrev s_Sinit : Stmt := inClass (top 30) 0
abbrev s_Splan : Stmt := inClass (top 30) 2
abbrev s_Seq : Stmt := inClass (top 30) 5
abbrev s_has : Stmt := inClass (top 30) 6
abbrev s_rows : Stmt := inClass (top 30) 7
abbrev s_seen : Stmt := inClass (top 30) 8
abbrev s_with : Stmt := inClass (top 30) 9
abbrev s_without : Stmt := inClass (top 30) 10
section
variable {P : Program} {w : World} {K : PySem.W.Frag} {mg : Str → Option Value} {base : Heap}
theorem fact_is {cs : List CRow} {ts : List TRow} (nd : (ts.map (·.2.1)).Nodup) {fs : List FRow} (ow : OwnF cs ts fs) {f : FRow} (hf : f ∈ fs) {H : Hp} (h : FAt H f) : isFactV H cs ts (fv f) = true := by
  obtain ⟨r, hr, hk⟩ := ow f hf
  exact isFact_of nd hr h hk
/-- are_facts: a list of facts -/
def spAreF (C : Addr) : Sp := fun vs H Q _ => ∃ (p l : Addr) (cs : List CRow) (ts : List TRow) (gs : List FRow), vs = [.ref p, .ref l] ∧ PlanAt H C p cs ts ∧ ColsOk H cs ∧ TabsOk H (cs.map (·.2.1)) ts ∧
  H l = some (.lst (gs.map fv)) ∧ (∀ f ∈ gs, FAt H f) ∧ OwnF cs ts gs ∧ gs.length ≤ 10000 ∧ ∀ H', Same H H' → Q (.bl true) H'
abbrev nAreF : List Str := ["plan", "thing", "item"]
theorem sc_are_facts : FnScope nAreF ["plan", "thing"] (defScope s_are_facts) := ⟨rfl, rfl, rfl, by decide +kernel, rfl, by decide +kernel, by decide +kernel⟩
theorem ok_are_facts {f fl fi C : Addr} {fd dl di : FuncData} (D : Df K mg "are_facts" s_are_facts ["plan", "thing"] f fd) (T : Bi mg) (Dl : Df K mg "is_list" s_is_list ["thing"] fl dl) (Gl' : FnOk P w K mg base CX0 1 fl dl ["thing"] (spList K))
    (Di : Df K mg "is_fact" s_is_fact ["plan", "thing"] fi di) (Gi : FnOk P w K mg base CX0 3 fi di ["plan", "thing"] (spIsFact C)) : FnOk P w K mg base CX0 4 f fd ["plan", "thing"] (spAreF C) := by
  refine D.F.ok sc_are_facts (fun vs H Q E h => ?_) (fun cdv A outer s H vs Q E hr h => ?_)
  · obtain ⟨p, l, cs, ts, gs, rfl, _⟩ := h; rfl
  · obtain ⟨p, l, cs, ts, gs, rfl, pl, okc, okt, hl, fa, ow, len, q⟩ := h
    have hr1 : Room 1 _ := hr.mono (by decide)
    refine ⟨_, pss_one (ps_ret (pe_and (pcall Dl Gl' hr1 (pa_cons (pv 1) pa_nil)) (pe_one (pe_callB (cr_all rfl) (by rfl) T.all (by decide +kernel) (pa_cons (pe_lc (own := [("item", 2)]) (g := gName 2) (tt := tYes) rfl sc_are_facts.nd (pi_list (pv 1))
        (blkOk_by (N := nAreF) (sc := defScope s_are_facts) (by decide +kernel)) (fun _ _ _ _ _ => pg_name (i := 2) sc_are_facts.nd rfl (Or.inl rfl)) (fun _ _ _ _ _ => pts_nil)
        (fun _ _ _ _ _ => pcall Di Gi hr (pa_cons (pv 0) (pa_cons (pv 2) pa_nil)))) pa_nil))))), ?_⟩
    have lenV : (gs.map fv).length = gs.length := List.length_map _
    refine ⟨_, rfl, l, _, rfl, .inl hl, fun H1 s1 => ⟨true, rfl, iteT ?_⟩⟩
    refine ⟨_, rfl, l, rfl, ⟨_, lof (s1 _ _ hl)⟩, fun D nD => ?_⟩
    refine lc_same (B := H1) walk_list rfl (Same.refl H1) nD (fun H e => lof (e _ _ (s1 _ _ hl))) (by rw [lenV]; exact Nat.lt_of_le_of_lt len (by decide)) (fun _ => some (.bl true)) (fun x H2 Q1 Q2 hx s2 k1 k2 => ?_) (fun H2 s2 hD2 => ?_)
    · obtain ⟨f, hf, rfl⟩ := List.mem_map.mp hx
      have e2 := s1.trans s2
      have f2 := (fa f hf).imm (same_imm e2)
      refine ⟨rfl, ?_⟩
      refine iteT (B := Q2 H2) ?_
      refine ⟨_, rfl, _, rfl, p, fv f, cs, ts, rfl, pl.same e2, okc.same e2, okt.same e2, deep_f f2, fun H3 s3 => ?_⟩
      rw [fact_is okt.nd ow hf f2]
      exact k1 _ _ rfl s3
    · have e : (gs.map fv).filterMap (fun _ => some (V.bl true)) = (gs.map fun _ => true).map V.bl := by
        rw [filterMap_some, List.map_map, List.map_map]; rfl
      rw [e] at hD2
      refine ⟨D, _, rfl, lof hD2, ?_⟩
      rw [show (gs.map fun _ => true).all id = true from by simp]
      exact q _ (s1.trans s2)
/-- is_look: a look of the plan -/
def spIsLook (C : Addr) : Sp := fun vs H Q _ => ∃ (p : Addr) (l : LRow) (cs : List CRow) (ts : List TRow), vs = [.ref p, lv l] ∧ PlanAt H C p cs ts ∧ ColsOk H cs ∧ TabsOk H (cs.map (·.2.1)) ts ∧ LAt H l ∧ (∃ r ∈ ts, LofT cs r l.2) ∧ ∀ H', Same H H' → Q (.bl true) H'
abbrev nIsLook : List Str := ["plan", "thing", "table", "side", "value", "spans"]
theorem sc_is_look : FnScope nIsLook ["plan", "thing"] (defScope s_is_look) := ⟨rfl, rfl, rfl, by decide +kernel, rfl, by decide +kernel, by decide +kernel⟩
theorem ok_is_look {f fb fs C : Addr} {fd db ds : FuncData} (D : Df K mg "is_look" s_is_look ["plan", "thing"] f fd) (T : Bi mg) (L : PlF K C) (Fs : Fun K "spans" "Plan.spans" s_spans fs ds) (bs : Binds K ds ["self", "table"] []) (ms : Meth K C "spans" fs)
    (Db : Df K mg "is_below" s_is_below ["thing", "bound"] fb db) (Gb : FnOk P w K mg base CX0 2 fb db ["thing", "bound"] (spBelow K)) :
    FnOk P w K mg base CX0 3 f fd ["plan", "thing"] (spIsLook C) := by
  have Gs : FnOk P w K mg base CX0 1 fs ds ["self", "table"] (spSpans K C) := ok_spans Fs T L
  refine D.F.ok sc_is_look (fun vs H Q E h => ?_) (fun cdv A outer s H vs Q E hr h => ?_)
  · obtain ⟨p, l, cs, ts, rfl, _⟩ := h; rfl
  · obtain ⟨p, l, cs, ts, rfl, pl, okc, okt, hl, ⟨r, hr', e1, sd, c, hc, e2, h0, h1⟩, q⟩ := h
    obtain ⟨dx, ct, tt, sz, sp, sh, ks, g1, _⟩ := id pl
    have hr1 : Room 1 _ := hr.mono (by decide)
    refine ⟨_, pss_cons (ps_if (PW.pt (pw_or (pt_not (pt_val (pe_callB call_isi (by rfl) T.isinst (by decide +kernel) (pa_cons (pv 1) (pa_cons (pe_bltn (v := .ty "tuple") (by rfl) T.tuple (by decide +kernel) rfl) pa_nil)))))
          (pw_or1 (pt_cmpR op_ne (pe_callB call_len_seq (by rfl) T.len PySem.boot_len (pa_cons (pv 1) pa_nil)) pe_int (nomark _))))) (pss_one (ps_ret pe_bl)) pss_nil)
      (pss_cons (ps_asg (pv 1) (pg_tup rfl (pgs_cons (pg_name (i := 2) sc_is_look.nd rfl (Or.inl rfl)) (pgs_cons (pg_name (i := 3) sc_is_look.nd rfl (Or.inl rfl)) (pgs_cons (pg_name (i := 4) sc_is_look.nd rfl (Or.inl rfl)) pgs_nil)))))
      (pss_cons (ps_set (i := 5) sc_is_look.nd rfl (Or.inl rfl) (pe_meth (pv 0) L.cl ms Gs hr1 bs .nil pass0 (pa_cons (pv 2) pa_nil)))
      (pss_cons (ps_if (PW.pt (pw_or (pt_cmp (pc_isN (pv 5))) (pw_or1 (pt_not (pt_val (pcall Db Gb hr (pa_cons (pv 3) (pa_cons (pe_callB call_len_seq (by rfl) T.len PySem.boot_len (pa_cons (pv 5) pa_nil)) pa_nil))))))))
        (pss_one (ps_ret pe_bl)) pss_nil)
      (pss_one (ps_ret (pcall Db Gb hr (pa_cons (pv 4) (pa_cons (pe_ix ix_tup (pv 5) (pv 3) (fun _ _ => rfl)) pa_nil)))))))), ?_⟩
    have no : (pf ct tt sz sp sh).lookup (Str.ofString "spans") = none := pf_no (by decide +kernel) (by decide +kernel) (by decide +kernel) (by decide +kernel) (by decide +kernel)
    refine ⟨_, rfl, _, _, _, _, true, rfl, .ty "tuple", (Val.tup hl).ty, kit_tup .tup, true, rfl, iteF ?_⟩
    refine ⟨_, rfl, l.1, _, rfl, .inr (tof hl), rfl, _, rfl, iteF ?_⟩
    refine ⟨_, rfl, l.1, _, rfl, tof hl, rfl, _, _, rfl, _, _, rfl, _, _, rfl, rfl, ?_⟩
    refine ⟨_, rfl, p, dx, _, rfl, g1, no, _, rfl, p, .str l.2.1, cs, ts, rfl, pl, .inl ⟨l.2.1, rfl, fun e => ?_, fun r' qs e hqs => ?_⟩⟩
    · rw [e1, tabOf_of okt.nd hr'] at e; cases e
    rw [e1, tabOf_of okt.nd hr'] at e; cases e
    have sl : (spanVs cs r).length = r.2.2.2.length := by unfold spanVs; rw [List.length_map]
    have hlt := (List.getElem?_eq_some_iff.mp hc).1
    refine ⟨_, rfl, false, rfl, iteF ?_⟩
    refine ⟨_, rfl, _, rfl, qs, _, rfl, .inr (tof hqs), .int l.2.2.1, .int, _, rfl, .int _, ?_⟩
    have b1 : belowV (.int l.2.2.1) ((spanVs cs r).length : Nat) = true := by
      rw [e2, sl]; show decide (0 ≤ (sd : Int) ∧ (sd : Int) < (r.2.2.2.length : Nat)) = true
      exact decide_eq_true ⟨by omega, by omega⟩
    rw [b1]
    refine ⟨true, rfl, iteF ?_⟩
    have hix : atI (spanVs cs r) l.2.2.1 = some (.int (sizeI cs c)) := by
      rw [e2]
      refine atI_lt (by omega) (by rw [sl]; omega) ?_
      rw [show ((sd : Int)).toNat = sd by omega]
      rw [spanVs_ints okc okt hr']; unfold spanI
      rw [List.map_map, List.getElem?_map, hc]; rfl
    refine ⟨_, rfl, _, rfl, _, rfl, qs, _, l.2.2.1, .int (sizeI cs c), rfl, rfl, tof hqs, hix, .int l.2.2.2, .int, _, rfl, .int _, ?_⟩
    have b2 : belowV (.int l.2.2.2) (sizeI cs c) = true := decide_eq_true ⟨h0, h1⟩
    rw [b2]
    exact q _ (Same.refl _)
/-- check_looks: a list of looks of the plan -/
def spCheckL (C : Addr) : Sp := fun vs H Q _ => ∃ (p l : Addr) (ls : List LRow) (cs : List CRow) (ts : List TRow), vs = [.ref p, .ref l] ∧ PlanAt H C p cs ts ∧ ColsOk H cs ∧ TabsOk H (cs.map (·.2.1)) ts ∧ H l = some (.lst (ls.map lv)) ∧ (∀ x ∈ ls, LAt H x) ∧ (∀ x ∈ ls, ∃ r ∈ ts, LofT cs r x.2) ∧ ∀ H', Same H H' → Q .non H'
abbrev nCheckL : List Str := ["plan", "thing", "at", "item"]
theorem sc_check_looks : FnScope nCheckL ["plan", "thing"] (defScope s_check_looks) := ⟨rfl, rfl, rfl, by decide +kernel, rfl, by decide +kernel, by decide +kernel⟩
theorem ok_check_looks {f fl fi C : Addr} {fd dl di : FuncData} (D : Df K mg "check_looks" s_check_looks ["plan", "thing"] f fd) (T : Bi mg) (en : mg "enumerate" = none) (Dl : Df K mg "is_list" s_is_list ["thing"] fl dl) (Gl' : FnOk P w K mg base CX0 1 fl dl ["thing"] (spList K))
    (Di : Df K mg "is_look" s_is_look ["plan", "thing"] fi di) (Gi : FnOk P w K mg base CX0 3 fi di ["plan", "thing"] (spIsLook C)) : FnOk P w K mg base CX0 4 f fd ["plan", "thing"] (spCheckL C) := by
  refine D.F.ok sc_check_looks (fun vs H Q E h => ?_) (fun cdv A outer s H vs Q E hr h => ?_)
  · obtain ⟨p, l, ls, cs, ts, rfl, _⟩ := h; rfl
  · obtain ⟨p, l, ls, cs, ts, rfl, pl, okc, okt, hl, la, ow, q⟩ := h
    have hr1 : Room 1 _ := hr.mono (by decide)
    refine ⟨_, pss_cons (ps_if (pt_not (pt_val (pcall Dl Gl' hr1 (pa_cons (pv 1) pa_nil)))) (pss_one ps_dead) pss_nil)
      (pss_one (ps_for PassesOwn.never rfl (pi_enum (by rfl) en (pa_cons (pv 1) pa_nil)) (pg_tup rfl (pgs_cons (pg_name (i := 2) sc_check_looks.nd rfl (Or.inl rfl)) (pgs_cons (pg_name (i := 3) sc_check_looks.nd rfl (Or.inl rfl)) pgs_nil)))
        (pss_one (ps_if (pt_not (pt_val (pcall Di Gi hr (pa_cons (pv 0) (pa_cons (pv 3) pa_nil))))) (pss_one ps_dead) pss_nil)))), ?_⟩
    refine ⟨_, rfl, l, _, rfl, .inl hl, fun H1 s1 => ⟨true, rfl, iteF ?_⟩⟩
    refine ⟨_, rfl, l, _, rfl, lof (s1 _ _ hl), for_it walk_enum (fun j σ H2 => ∃ x2 x3, σ = [some (.ref p), some (.ref l), x2, x3] ∧ Same H H2) ⟨_, _, rfl, s1⟩ (fun j σ H2 _ ⟨_, _, _, s'⟩ => lof (s' _ _ hl)) ?_ ?_⟩
    · rintro j x σ H2 H3 hj ⟨x2, x3, rfl, s2⟩ ⟨T1, ya, yb, rfl, nT, rfl, ha, hb⟩
      have hb' : (ls.map lv)[j]? = some yb := hb
      rw [List.getElem?_map] at hb'
      obtain ⟨z, hz, rfl⟩ := Option.map_eq_some_iff.mp hb'
      have zm := List.mem_of_getElem? hz
      have s3 := s2.trans (same_new (o := .tup [ya, lv z]) nT)
      have kT : (upd H2 T1 (.tup [ya, lv z])) T1 = some (.tup [ya, lv z]) := upd_same
      generalize upd H2 T1 (.tup [ya, lv z]) = H3 at s3 kT ⊢
      refine ⟨T1, _, rfl, tof kT, rfl, _, _, rfl, _, _, rfl, rfl, ?_⟩
      refine ⟨_, rfl, _, rfl, p, z, cs, ts, rfl, pl.same s3, okc.same s3, okt.same s3, s3 _ _ (la z zm), ow z zm, fun H4 s4 => ⟨true, rfl, iteF ⟨_, _, rfl, s3.trans s4⟩⟩⟩
    · rintro σ H2 ⟨x2, x3, rfl, s2⟩
      exact q _ s2
end
end As

/-! ## F2 -/
namespace As
open PySem PySem.Spec PyProof.Rows L2
open PySem.W (dataLe AllAlike Sortable dataLt alike)
/-- {fact: True for fact in facts} -/
theorem dcn_f {P : Program} {w : World} {J : It} {G : Hp → Prop} {gs : List FRow} {g : TG} {tt : TT} {tk tv : TE} {vs : List Nat} {σ : L2.St} {H1 : Hp} {D : Addr} {Qd : Hp → Prop}
    (wk : Walk J (gs.map fv).length G (YAt (gs.map fv))) (hG : ∀ H, Same H1 H → G H) (hD : H1 D = none) (fa : ∀ f ∈ gs, FAt H1 f) (len : gs.length ≤ 10000)
    (hs : ∀ f H (Q1 : V → V → Hp → Prop) (Q2 : Hp → Prop), f ∈ gs → Same H1 H → (∀ H5, Same H H5 → Q1 (fv f) (.bl true) H5) → g (fv f) (wipe σ vs) H fun σ2 H2 => wipe σ2 vs = wipe σ vs ∧ tt σ2 H2 fun b H3 => if b = true then tk σ2 H3 (fun y H4 => tv σ2 H4 fun z H5 => Q1 y z H5) else Q2 H3)
    (hd : ∀ H (us : List FRow), Same H1 H → H D = some (NDict P w D (us.map fEnt)) → (∀ f ∈ us, f ∈ gs) → (us.map (·.2.2)).Nodup → (∀ k, k ∈ us.map (·.2.2) ↔ k ∈ gs.map (·.2.2)) → us.length ≤ gs.length → Qd H) :
    ∃ W : Nat → Nat → Hp → Prop, (∃ m, W 0 m (upd H1 D (NDict P w D []))) ∧ ∀ i m H, W i m H → (J.stop i H ∧ Qd H) ∨ (J.go i H ∧ ∃ Nx : Hp → Prop, (∀ H', Nx H' → ∃ m', m' < m ∧ W (i + 1) m' H') ∧
      ∀ x H', J.yld i H x H' → g x (wipe σ vs) H' fun σ2 H2 => wipe σ2 vs = wipe σ vs ∧ tt σ2 H2 fun b H3 => if b = true then tk σ2 H3 fun y H4 => tv σ2 H4 fun z H5 => NdTurn P w D Nx y z H5 else Nx H3) := by
  have lenV : (gs.map fv).length = gs.length := List.length_map _
  refine lc_gen (BODY := fun x H' Nx => g x (wipe σ vs) H' fun σ2 H2 => wipe σ2 vs = wipe σ vs ∧ tt σ2 H2 fun b H3 => if b = true then tk σ2 H3 fun y H4 => tv σ2 H4 fun z H5 => NdTurn P w D Nx y z H5 else Nx H3)
    wk (fun i H => Same H1 H ∧ H D = some (NDict P w D ((uniq gs i).map fEnt))) ⟨same_new hD, upd_same⟩ (fun i H _ z => hG H z.1) (fun i x H H' hi z y => ?_) (fun H z => ?_)
  · obtain ⟨rfl, hx⟩ := y
    rw [List.getElem?_map] at hx
    obtain ⟨f, hf, rfl⟩ := Option.map_eq_some_iff.mp hx
    have fm := List.mem_of_getElem? hf
    obtain ⟨s, hd'⟩ := z
    have up := uniq_prop (gs := gs) i (by omega)
    refine hs f H' (fun y z H5 => NdTurn P w D _ y z H5) _ fm s fun H5 s5 => ?_
    refine ⟨(uniq gs i).map fEnt, fkN f.2.2, f.1, rfl, key_f ((fa f fm).imm (same_imm (s.trans s5))), s5 _ _ hd', fun e he => ?_, ?_, same_mut (s.trans s5) hD, ?_⟩
    · obtain ⟨g', hg, rfl⟩ := List.mem_map.mp he
      exact key_f ((fa g' (up.1 g' hg)).imm (same_imm (s.trans s5)))
    · rw [List.length_map]; exact Nat.lt_of_le_of_lt (show (uniq gs i).length ≤ 10000 by have := up.2.2.2; omega) (by decide)
    · rw [upd_same, ndPut_f, ← uniq_succ hf]
  · obtain ⟨s, hd'⟩ := z
    rw [lenV] at hd'
    have up := uniq_prop (gs := gs) gs.length (Nat.le_refl _)
    refine hd H _ s hd' up.1 up.2.1 (fun k => ?_) up.2.2.2
    rw [up.2.2.1 k, List.take_length]
structure StF (K : PySem.W.Frag) (S : Addr) : Prop where
  cl : Cls K S
  aP : NoAttr K S (Str.ofString "_plan")
  aE : NoAttr K S (Str.ofString "_present")
  aF : NoAttr K S (Str.ofString "_facts")
theorem sortF_map' {fs : List FRow} : (fs.mergeSort (dataLe false fun r : FRow => fkD r.2.2)).map (·.2.2) = sortF (fs.map (·.2.2)) :=
  PySem.W.sort_maps (r := dataLe false fun r : FRow => fkD r.2.2) (s := dataLe false fkD) (fun r : FRow => r.2.2) fun _ _ _ _ => rfl
section
variable {P : Program} {w : World} {K : PySem.W.Frag} {mg : Str → Option Value} {base : Heap}
def spSInit (P : Program) (w : World) (K : PySem.W.Frag) (C S : Addr) : Sp := fun vs H Q _ => ∃ (s dx p l : Addr) (cs : List CRow) (ts : List TRow) (gs : List FRow), vs = [.ref s, .ref p, .ref l] ∧ H s = some (.ins S dx []) ∧ PlanAt H C p cs ts ∧ ColsOk H cs ∧ TabsOk H (cs.map (·.2.1)) ts ∧
  H l = some (.lst (gs.map fv)) ∧ (∀ f ∈ gs, FAt H f) ∧ OwnF cs ts gs ∧ gs.length ≤ 10000 ∧ ∀ H' fs, (∀ c o, c ≠ s → H c = some o → H' c = some o) → StoreAt P w H' S s p fs → (∀ k, k ∈ keysF fs ↔ k ∈ keysF gs) → (∀ f ∈ fs, f ∈ gs) → Q .non H'
abbrev nSInit : List Str := ["self", "plan", "present", "fact"]
theorem sc_Sinit : FnScope nSInit ["self", "plan", "present"] (defScope s_Sinit) := ⟨rfl, rfl, rfl, by decide +kernel, rfl, by decide +kernel, by decide +kernel⟩
theorem ok_Sinit {f fa C S : Addr} {fd da : FuncData} {dvs : List V} (F : FunD K "__init__" "Store.__init__" (defArgs s_Sinit) (defBody s_Sinit) (defScope s_Sinit) dvs [] f fd) (T : Bi mg) (L : StF K S)
    (Da : Df K mg "are_facts" s_are_facts ["plan", "thing"] fa da) (Ga : FnOk P w K mg base CX0 4 fa da ["plan", "thing"] (spAreF C)) :
    FnOk P w K mg base CX0 5 f fd ["self", "plan", "present"] (spSInit P w K C S) := by
  refine F.ok sc_Sinit (fun vs H Q E h => ?_) (fun cdv A outer s H vs Q E hr h => ?_)
  · obtain ⟨s, dx, p, l, cs, ts, gs, rfl, _⟩ := h; rfl
  · obtain ⟨sa, dx, p, l, cs, ts, gs, rfl, hs, pl, okc, okt, hl, fat, ow, len, q⟩ := h
    have ht := T.tuple
    have hu := hu64 hr
    refine ⟨_, pss_cons (ps_if (pt_not (pt_val (pcall Da Ga hr (pa_cons (pv 1) (pa_cons (pv 2) pa_nil))))) (pss_one ps_dead) pss_nil)
      (pss_cons (ps_fld (pv 0) (pv 1) rfl)
      (pss_cons (ps_fld (pv 0) (pe_dcN (own := [("fact", 3)]) (g := gName 3) (tt := tYes) (show (A.deeper (envOfC (Str.ofString "Store.__init__") (defScope s_Sinit) s.heap.objs.size f cdv)).units + 8 < cLine by have := hr.un; omega) rfl sc_Sinit.nd (pi_list (pv 2)) (blkOk_by (N := nSInit) (sc := defScope s_Sinit) (by decide +kernel))
        (fun _ _ _ _ _ => pg_name (i := 3) sc_Sinit.nd rfl (Or.inl rfl)) (fun _ _ _ _ _ => pts_nil) (fun _ _ _ _ _ => pv 3) (fun _ _ _ _ _ => pe_bl)) rfl)
      (pss_one (ps_fld (pv 0) (tupK K (pe_callB (cr_sortedD hu) (by rfl) T.sorted (by decide +kernel) (pa_cons (pe_callTy (call_listN rfl) (by rfl) T.list (by decide +kernel) (pa_cons (pe_fld (pv 0) rfl) pa_nil)) pa_nil))) rfl)))), ?_⟩
    obtain ⟨B, hB⟩ : ∃ B, rem H sa = B := ⟨_, rfl⟩
    have bs : B sa = none := by rw [← hB]; exact rem_self
    have sHB : Same B H := by rw [← hB]; exact same_rem
    have hlB : B l = some (.lst (gs.map fv)) := by rw [← hB, rem_ne (ne_ins hs hl (fun _ _ _ z => nomatch z))]; exact hl
    have faB : ∀ f ∈ gs, FAt B f := fun f hf => ⟨by rw [← hB, rem_ne (ne_ins hs (fat f hf).1 (fun _ _ _ z => nomatch z))]; exact (fat f hf).1, by rw [← hB, rem_ne (ne_ins hs (fat f hf).2 (fun _ _ _ z => nomatch z))]; exact (fat f hf).2⟩
    refine ⟨_, rfl, _, rfl, p, l, cs, ts, gs, rfl, pl, okc, okt, hl, fat, ow, len, fun H1 s1 => ⟨true, rfl, iteF ?_⟩⟩
    refine ⟨_, rfl, _, rfl, sa, S, dx, _, rfl, s1 _ _ hs, L.cl, L.aP, Nat.lt_of_le_of_lt (Nat.le_refl 0) (by decide), ?_⟩
    have sB2 : Same B (upd H1 sa (.ins S dx (putF (Str.ofString "_plan") (.ref p) []))) := same_mut (sHB.trans s1) bs
    have hs2 : (upd H1 sa (.ins S dx (putF (Str.ofString "_plan") (.ref p) []))) sa = some (.ins S dx (putF (Str.ofString "_plan") (.ref p) [])) := upd_same
    generalize upd H1 sa (.ins S dx (putF (Str.ofString "_plan") (.ref p) [])) = H2 at sB2 hs2 ⊢
    refine ⟨_, rfl, l, rfl, ⟨_, lof (sB2 _ _ hlB)⟩, fun D nD => ?_⟩
    refine dcn_f (gs := gs) walk_list (fun H e => lof (e _ _ (sB2 _ _ hlB))) nD (fun f hf => (faB f hf).imm (same_imm sB2)) len (fun f H3 Q1 Q2 hf s3 k => ⟨rfl, iteT (B := Q2 H3) ⟨_, rfl, k _ (Same.refl _)⟩⟩) (fun H3 us s3 hD3 sub nd mem ul => ?_)
    have nDs : sa ≠ D := ne_of_none hs2 nD
    refine ⟨_, rfl, sa, S, dx, _, rfl, s3 _ _ hs2, L.cl, L.aE, Nat.lt_of_le_of_lt (pfl (Nat.le_refl 0)) (by decide), ?_⟩
    have e4 : upd H3 sa (.ins S dx (putF (Str.ofString "_present") (.ref D) (putF (Str.ofString "_plan") (.ref p) []))) = upd H3 sa (.ins S dx (sf2 p D)) := rfl
    rw [e4]
    have sB4 : Same B (upd H3 sa (.ins S dx (sf2 p D))) := same_mut (sB2.trans s3) bs
    have hs4 : (upd H3 sa (.ins S dx (sf2 p D))) sa = some (.ins S dx (sf2 p D)) := upd_same
    have hD4 : (upd H3 sa (.ins S dx (sf2 p D))) D = some (NDict P w D (us.map fEnt)) := by rw [upd_ne nDs.symm]; exact hD3
    generalize upd H3 sa (.ins S dx (sf2 p D)) = H4 at sB4 hs4 hD4 ⊢
    have fa4 : ∀ f ∈ us, FAt H4 f := fun f hf => (faB f (sub f hf)).imm (same_imm sB4)
    refine ⟨_, rfl, sa, S, dx, _, .ref D, rfl, hs4, L.cl, L.aE, sf2_E, D, us.map fEnt, rfl, hD4, fun e he => ?_, fun p1 np1 => ?_⟩
    · obtain ⟨g', hg, rfl⟩ := List.mem_map.mp he
      exact key_f (fa4 g' hg)
    have el : (us.map fEnt).map (fun e => V.ref e.2.1) = us.map fv := by rw [List.map_map]; rfl
    rw [el]
    have sB5 := sB4.trans (same_new (o := .lst (us.map fv)) np1)
    have s45 : Same H4 (upd H4 p1 (.lst (us.map fv))) := same_new np1
    have hp5 : (upd H4 p1 (.lst (us.map fv))) p1 = some (.lst (us.map fv)) := upd_same
    generalize upd H4 p1 (.lst (us.map fv)) = H5 at sB5 s45 hp5 ⊢
    refine ⟨FRow, p1, us, fv, (fun r => fkD r.2.2), rfl, lof hp5, (fun f hf => ⟨dp_fk ((fa4 f hf).imm (same_imm s45)), ?_⟩), fk_all _ _, fk_sortable _ _, fun S3 nS3 => ?_⟩
    · rcases fk_depth f.2.2 with h | h
      · show (fkD f.2.2).depth ≤ 60; omega
      · show (fkD f.2.2).depth ≤ 60; omega
    refine kTup_seq (.inl upd_same) fun q1 H6 s6 hq6 => ?_
    have s46 := s45.trans ((same_new nS3).trans s6)
    have nq : sa ≠ q1 := fun z => by subst z; rw [s46 _ _ hs4] at hq6; cases hq6
    refine ⟨_, rfl, sa, S, dx, _, rfl, s46 _ _ hs4, L.cl, L.aF, Nat.lt_of_le_of_lt (pfl (pfl (Nat.le_refl 0))) (by decide), ?_⟩
    have pm : (us.mergeSort (dataLe false fun r : FRow => fkD r.2.2)).Perm us := List.mergeSort_perm _ _
    refine q _ (us.mergeSort (dataLe false fun r : FRow => fkD r.2.2)) (fun c o hc e => ?_) ⟨dx, D, q1, us, upd_same, ?_, fun f hf => ?_, by omega, ?_, pm.symm, ?_, ?_⟩ (fun k => ?_) (fun f hf => sub f (pm.mem_iff.mp hf))
    · rw [upd_ne hc]
      exact (sB4.trans s46) _ _ (by rw [← hB, rem_ne hc]; exact e)
    · rw [upd_ne nDs.symm]; exact s46 _ _ hD4
    · exact (faB f (sub f hf)).imm (same_imm (same_mut (sB4.trans s46) bs))
    · rw [upd_ne nq.symm]; exact hq6
    · exact (pm.map _).nodup_iff.mpr nd
    · show List.Pairwise _ (List.map _ _)
      rw [sortF_map']; exact sortF_sorted _
    · show k ∈ List.map _ _ ↔ _
      rw [(pm.map _).mem_iff]; exact mem k
end
end As

/-! ## A20 -/
namespace As
open PySem PySem.Spec PyProof.Rows L2
/-- x not in t, t a tuple of data -/
def rNotInDT (K : PySem.W.Frag) : R2 := fun x y H Q => ∃ d ds, Dp K H x d ∧ Dp K H y (.tuple ds) ∧ SeqAt.shaped d = true ∧ SeqAt.shaped (.tuple ds) = true ∧ Q (.bl (!ds.any fun z => PyData.eqv z d)) H
theorem op_notInDT {X : Cx} (hu : X.A.units + 65 < cLine) : OpR X (compareOp .NotIn) (rNotInDT X.K) := by
  rintro pins s σ H x y v u Q I rx ry ⟨d, ds, hd, he, sd, se, q⟩
  obtain ⟨as, r1⟩ := Dp.reads I d x v hd rx
  obtain ⟨bs, r2⟩ := Dp.reads I (PyData.tuple ds) y u he ry
  exact SeqAt.notIn_tuple_reads r2 r1 (SeqAt.canLay_of_shaped se) (SeqAt.canLay_of_shaped sd) (room_in_shaped sd hu) ⟨.bl (!ds.any fun z => PyData.eqv z d), H, I, rfl, q⟩
theorem notInTK {X : Cx} (K : PySem.W.Frag) (hu : X.A.units + 65 < cLine) (h : X.K = K := by rfl) : OpR X (compareOp .NotIn) (rNotInDT K) := h ▸ op_notInDT hu
/-- [u x for x in xs if p x], what stands stands -/
theorem lc_fm {J : It} {G : Hp → Prop} {α : Type} {v u : α → V} {xs : List α} {g : TG} {tt : TT} {te : TE} {vs : List Nat} {σ : L2.St} {H1 : Hp} {D : Addr} {Qd : Hp → Prop} (p : α → Bool)
    (w : Walk J (xs.map v).length G (YAt (xs.map v))) (hD : H1 D = none) (hG : ∀ H, Same H1 H → G H) (hl : xs.length ≤ 10000)
    (hs : ∀ x H (Q1 : VK) (Q2 : Hp → Prop), x ∈ xs → Same H1 H → (p x = true → ∀ H', Same H H' → Q1 (u x) H') → (p x = false → ∀ H', Same H H' → Q2 H') →
      g (v x) (wipe σ vs) H fun σ2 H2 => wipe σ2 vs = wipe σ vs ∧ tt σ2 H2 fun b H3 => if b = true then te σ2 H3 Q1 else Q2 H3)
    (hd : ∀ H', Same H1 H' → H' D = some (.lst ((xs.filter p).map u)) → Qd H') :
    ∃ W : Nat → Nat → Hp → Prop, (∃ m, W 0 m (upd H1 D (.lst []))) ∧ ∀ i m H, W i m H →
      (J.stop i H ∧ Qd H) ∨ (J.go i H ∧ ∃ Nx : Hp → Prop, (∀ H', Nx H' → ∃ m', m' < m ∧ W (i + 1) m' H') ∧ ∀ x H', J.yld i H x H' → g x (wipe σ vs) H' fun σ2 H2 => wipe σ2 vs = wipe σ vs ∧ tt σ2 H2 fun b H3 =>
        if b = true then te σ2 H3 fun y H4 => ∃ acc, H4 D = some (.lst acc) ∧ acc.length < sizeLine ∧ Nx (upd H4 D (.lst (acc ++ [y]))) else Nx H3) := by
  refine lc_it w (fun i H => Same H1 H ∧ H D = some (.lst (((xs.take i).filter p).map u))) ⟨same_new hD, upd_same⟩ (fun i H _ z => hG H z.1) (fun i x H H' hi z y => ?_) (fun H z => hd H z.1 (by rw [z.2, List.length_map, List.take_length]))
  obtain ⟨rfl, hx⟩ := y
  rw [List.getElem?_map] at hx
  obtain ⟨a, ha, rfl⟩ := Option.map_eq_some_iff.mp hx
  obtain ⟨s, hd'⟩ := z
  refine hs a H' _ _ (List.mem_of_getElem? ha) s (fun e H4 s4 => ⟨_, s4 _ _ hd', ?_, same_mut (s.trans s4) hD, ?_⟩) (fun e H4 s4 => ⟨s.trans s4, ?_⟩)
  · rw [List.length_map]
    have h1 := List.length_filter_le p (xs.take i)
    have h2 := List.length_take_le' i xs
    exact Nat.lt_of_le_of_lt (show ((xs.take i).filter p).length ≤ 10000 by omega) (by decide)
  · rw [upd_same, take_filter' ha, e, if_pos rfl, List.map_append]; rfl
  · rw [s4 _ _ hd', take_filter' ha, e]; simp
end As

/-! ## F3 -/
namespace As
open PySem PySem.Spec PyProof.Rows L2
open PySem.W (dataLe AllAlike Sortable dataLt alike)
section
variable {P : Program} {w : World} {K : PySem.W.Frag} {mg : Str → Option Value} {base : Heap}
/-- check_fact of a fact -/
def spCheckV (C : Addr) : Sp := fun vs H Q _ => ∃ (p : Addr) (f : FRow) (cs : List CRow) (ts : List TRow), vs = [.ref p, fv f] ∧ PlanAt H C p cs ts ∧ ColsOk H cs ∧ TabsOk H (cs.map (·.2.1)) ts ∧ FAt H f ∧ (∃ r ∈ ts, OfT cs r f.2.2) ∧ ∀ H', Same H H' → Q .non H'
theorem ok_checkV {f fi C : Addr} {fd di : FuncData} (D : Df K mg "check_fact" s_check_fact ["plan", "thing"] f fd) (Di : Df K mg "is_fact" s_is_fact ["plan", "thing"] fi di) (Gi : FnOk P w K mg base CX0 3 fi di ["plan", "thing"] (spIsFact C)) :
    FnOk P w K mg base CX0 4 f fd ["plan", "thing"] (spCheckV C) := by
  refine D.F.ok sc_check (fun vs H Q E h => ?_) (fun cdv A outer s H vs Q E hr h => ?_)
  · obtain ⟨p, x, cs, ts, rfl, _⟩ := h; rfl
  · obtain ⟨p, x, cs, ts, rfl, pl, okc, okt, fx, ⟨r, hr', hk⟩, q⟩ := h
    refine ⟨_, pss_one (ps_if (pt_not (pt_val (pcall Di Gi hr (pa_cons (pv 0) (pa_cons (pv 1) pa_nil))))) (pss_one ps_dead) pss_nil), ?_⟩
    refine ⟨_, rfl, _, rfl, p, _, cs, ts, rfl, pl, okc, okt, deep_f fx, fun H' s' => ?_⟩
    rw [isFact_of okt.nd hr' fx hk]
    exact ⟨true, rfl, iteF (q _ s')⟩
def spSeersV (C : Addr) : Sp := fun vs H Q _ => ∃ (p : Addr) (f : FRow) (cs : List CRow) (ts : List TRow), vs = [.ref p, fv f] ∧ PlanAt H C p cs ts ∧ ColsOk H cs ∧ TabsOk H (cs.map (·.2.1)) ts ∧ FAt H f ∧ (∃ r ∈ ts, OfT cs r f.2.2) ∧
  ∀ t (ls : List LRow) H', Same H H' → H' t = some (.tup (ls.map lv)) → (∀ l ∈ ls, LAt H' l) → ls.map (·.2) = sidesOf f.2.2 → Q (.ref t) H'
theorem oft_len {cs : List CRow} {r : TRow} {k : FK} (h : OfT cs r k) : k.2.length = r.2.2.2.length ∧ k.2.length ≤ 2 ∧ 1 ≤ k.2.length := by
  obtain ⟨_, ⟨c1, v, hp, hv, _⟩ | ⟨c1, d, v, o, hp, hv, _⟩⟩ := h <;> rw [hp, hv] <;> simp
theorem ok_seersV {f fc fl C : Addr} {fd dc dl : FuncData} (D : Df K mg "seers" s_seers ["plan", "fact"] f fd) (T : Bi mg) (Dc : Df K mg "check_fact" s_check_fact ["plan", "thing"] fc dc) (Gc : FnOk P w K mg base CX0 4 fc dc ["plan", "thing"] (spCheckV C))
    (Dl : Df K mg "looks_that_see" s_looks_that_see ["fact"] fl dl) (Gl' : FnOk P w K mg base CX0 1 fl dl ["fact"] spLts) :
    FnOk P w K mg base CX0 5 f fd ["plan", "fact"] (spSeersV C) := by
  refine D.F.ok sc_seers (fun vs H Q E h => ?_) (fun cdv A outer s H vs Q E hr h => ?_)
  · obtain ⟨p, x, cs, ts, rfl, _⟩ := h; rfl
  · obtain ⟨p, x, cs, ts, rfl, pl, okc, okt, fx, ow, q⟩ := h
    have ht := T.tuple
    refine ⟨_, pss_cons (ps_expr (pcall Dc Gc hr (pa_cons (pv 0) (pa_cons (pv 1) pa_nil))))
      (pss_one (ps_ret (tupK K (pcall Dl Gl' (hr.mono (by decide)) (pa_cons (pv 1) pa_nil))))), ?_⟩
    refine ⟨_, rfl, _, rfl, p, x, cs, ts, rfl, pl, okc, okt, fx, ow, fun H1 s1 => ?_⟩
    obtain ⟨r, hr', hk⟩ := ow
    refine ⟨_, rfl, x, rfl, fx.imm (same_imm s1), (oft_len hk).2.1, fun D ls H2 s2 _ hD2 fa k => ?_⟩
    exact kTup_seq (.inl hD2) fun p' H3 s3 h3 => q p' ls H3 (s1.trans (s2.trans s3)) h3 (fun l hl => s3 _ _ (fa l hl)) k
/-- the plan of a store -/
theorem sc_Splan : FnScope ["self"] ["self"] (defScope s_Splan) := ⟨rfl, rfl, rfl, by decide +kernel, rfl, by decide +kernel, by decide +kernel⟩
theorem ok_Splan {f S : Addr} {fd : FuncData} (F : Fun K "plan" "Store.plan" s_Splan f fd) (L : StF K S) : FnOk P w K mg base CX0 1 f fd ["self"] (getSp S (Str.ofString "_plan")) := by
  refine F.ok sc_Splan (fun vs H Q E h => ?_) (fun cdv A outer s H vs Q E hr h => ?_)
  · obtain ⟨a, dx, fs, v, rfl, _⟩ := h; rfl
  · obtain ⟨a, dx, fs, v, rfl, ea, l, q⟩ := h
    exact ⟨_, pss_one (ps_ret (pe_fld (pv 0) rfl)), _, rfl, a, S, dx, fs, v, rfl, ea, L.cl, L.aP, l, q⟩
/-- has -/
def spHas (P : Program) (w : World) (C S : Addr) : Sp := fun vs H Q _ => ∃ (s p : Addr) (f : FRow) (fs : List FRow) (cs : List CRow) (ts : List TRow), vs = [.ref s, fv f] ∧ StoreAt P w H S s p fs ∧ PlanAt H C p cs ts ∧ ColsOk H cs ∧ TabsOk H (cs.map (·.2.1)) ts ∧ FAt H f ∧ (∃ r ∈ ts, OfT cs r f.2.2) ∧ ∀ H', Same H H' → Q (.bl (decide (f.2.2 ∈ keysF fs))) H'
theorem sc_has : FnScope ["self", "fact"] ["self", "fact"] (defScope s_has) := ⟨rfl, rfl, rfl, by decide +kernel, rfl, by decide +kernel, by decide +kernel⟩
theorem ok_has {f fc C S : Addr} {fd dc : FuncData} (F : Fun K "has" "Store.has" s_has f fd) (L : StF K S) (Dc : Df K mg "check_fact" s_check_fact ["plan", "thing"] fc dc) (Gc : FnOk P w K mg base CX0 4 fc dc ["plan", "thing"] (spCheckV C)) :
    FnOk P w K mg base CX0 5 f fd ["self", "fact"] (spHas P w C S) := by
  refine F.ok sc_has (fun vs H Q E h => ?_) (fun cdv A outer s H vs Q E hr h => ?_)
  · obtain ⟨s, p, x, fs, cs, ts, rfl, _⟩ := h; rfl
  · obtain ⟨sa, p, x, fs, cs, ts, rfl, ⟨dx, pr, fa, us, h1, h2, h3, h3', h4, h5, h6⟩, pl, okc, okt, fx, ow, q⟩ := h
    refine ⟨_, pss_cons (ps_expr (pcall Dc Gc hr (pa_cons (pe_fld (pv 0) rfl) (pa_cons (pv 1) pa_nil))))
      (pss_one (ps_ret (pe_cmp (pc_inN (show ((A.deeper (envOfC (Str.ofString "Store.has") (defScope s_has) s.heap.objs.size f cdv))).in1.units + 8 < cLine by have := hr.un; show _ + 1 + 8 < _; omega) (pv 1) (pe_fld (pv 0) rfl)) rfl))), ?_⟩
    refine ⟨_, rfl, sa, S, dx, _, _, rfl, h1, L.cl, L.aP, sf_P, _, rfl, p, x, cs, ts, rfl, pl, okc, okt, fx, ow, fun H1 s1 => ?_⟩
    refine ⟨_, rfl, _, rfl, sa, S, dx, _, _, rfl, s1 _ _ h1, L.cl, L.aE, sf_E, x.1, pr, fkN x.2.2, us.map fEnt, rfl, rfl, key_f (fx.imm (same_imm s1)), s1 _ _ h2, fun e he => ?_, ?_⟩
    · obtain ⟨g', hg, rfl⟩ := List.mem_map.mp he
      exact key_f ((h3 g' hg).imm (same_imm s1))
    · rw [if_pos rfl, ndVal_f]
      have e : decide (x.2.2 ∈ us.map (·.2.2)) = decide (x.2.2 ∈ keysF fs) := decide_eq_decide.mpr (h5.map _).mem_iff
      rw [e]
      exact q _ s1
/-- rows of a table -/
def spRows (P : Program) (w : World) (C S : Addr) : Sp := fun vs H Q _ => ∃ (s p : Addr) (n : Str) (fs : List FRow) (cs : List CRow) (ts : List TRow) (r : TRow), vs = [.ref s, .str n] ∧ StoreAt P w H S s p fs ∧ fs.length ≤ 10000 ∧ PlanAt H C p cs ts ∧ tabOf ts n = some r ∧
  ∀ q H', Same H H' → H' q = some (.tup ((fs.filter fun f => decide (f.2.2.1 = n)).map fun f => V.ref f.2.1)) → Q (.ref q) H'
abbrev nRows : List Str := ["self", "table", "name", "row"]
theorem sc_rows : FnScope nRows ["self", "table"] (defScope s_rows) := ⟨rfl, rfl, rfl, by decide +kernel, rfl, by decide +kernel, by decide +kernel⟩
theorem ok_rows {f fs' C S : Addr} {fd ds : FuncData} (F : Fun K "rows" "Store.rows" s_rows f fd) (T : Bi mg) (L : StF K S) (LC : PlF K C) (ms : Meth K C "sides" fs') (Gs : FnOk P w K mg base CX0 2 fs' ds ["self", "table"] (spSides K C)) (bs : Binds K ds ["self", "table"] []) :
    FnOk P w K mg base CX0 3 f fd ["self", "table"] (spRows P w C S) := by
  refine F.ok sc_rows (fun vs H Q E h => ?_) (fun cdv A outer s H vs Q E hr h => ?_)
  · obtain ⟨s, p, x, fs, cs, ts, r, rfl, _⟩ := h; rfl
  · obtain ⟨sa, p, n, fs, cs, ts, r, rfl, st, len, pl, et, q⟩ := h
    have fat := st.fat
    obtain ⟨dx, pr, fa, us, h1, h2, h3, h3', h4, h5, h6⟩ := st
    obtain ⟨dp, ct, tt, sz, sp, sh, ks, g1, _⟩ := id pl
    have ht := T.tuple
    refine ⟨_, pss_cons (ps_if (pt_cmp (pc_isN (pe_meth (pe_fld (pv 0) rfl) LC.cl ms Gs hr bs .nil pass0 (pa_cons (pv 1) pa_nil)))) (pss_one ps_dead) pss_nil)
      (pss_one (ps_ret (tupK K (pe_lc (own := [("name", 2), ("row", 3)]) (g := gTup K 2 (gCons (gName 2) (gCons (gName 3) gNil))) rfl sc_rows.nd (piT K (pe_fld (pv 0) rfl)) (blkOk_by (N := nRows) (sc := defScope s_rows) (by decide +kernel))
        (fun _ _ _ _ _ => pgT K (pg_tup rfl (pgs_cons (pg_name (i := 2) sc_rows.nd rfl (Or.inl rfl)) (pgs_cons (pg_name (i := 3) sc_rows.nd rfl (Or.inl rfl)) pgs_nil)))) (fun _ _ _ _ _ => pts_one (pt_cmpR op_eq (pv 2) (pv 1) (nomark _))) (fun _ _ _ _ _ => pv 3))))), ?_⟩
    have no : (pf ct tt sz sp sh).lookup (Str.ofString "sides") = none := pf_no (by decide +kernel) (by decide +kernel) (by decide +kernel) (by decide +kernel) (by decide +kernel)
    refine ⟨_, rfl, sa, S, dx, _, _, rfl, h1, L.cl, L.aP, sf_P, p, dp, _, rfl, g1, no, _, rfl, p, _, cs, ts, rfl, pl, .inl ⟨n, rfl, ?_⟩⟩
    have ev : sidesV ts n = .int (r.2.2.2.length : Nat) := by unfold sidesV; rw [et]
    rw [ev]
    refine ⟨false, rfl, iteF ?_⟩
    refine ⟨_, rfl, sa, S, dx, _, _, rfl, h1, L.cl, L.aF, sf_F, fa, rfl, ⟨_, tof h4⟩, fun D nD => ?_⟩
    refine lc_fm (v := fv) (u := fun f => V.ref f.2.1) (xs := fs) (fun f => decide (f.2.2.1 = n)) (walk_tup (K := K) (a := fa) (xs := fs.map fv)) nD (fun H' s' => tof (s' _ _ h4)) len (fun x H2 Q1 Q2 hx s2 k1 k2 => ?_) (fun H2 s2 hD2 => ?_)
    · refine ⟨x.1, _, rfl, tof (s2 _ _ (fat x hx).1), rfl, _, _, rfl, _, _, rfl, rfl, rfl, ?_⟩
      refine ⟨_, rfl, _, rfl, rfl, _, rfl, ?_⟩
      by_cases hp : x.2.2.1 = n
      · rw [show decide (V.str x.2.2.1 = V.str n) = true from decide_eq_true (by rw [hp])]
        exact iteT ⟨_, rfl, k1 (decide_eq_true hp) _ (Same.refl _)⟩
      · rw [show decide (V.str x.2.2.1 = V.str n) = false from decide_eq_false fun z => hp (by injection z)]
        exact iteF (k2 (decide_eq_false hp) _ (Same.refl _))
    · exact kTup_seq (.inl hD2) fun q1 H3 s3 h3 => q q1 H3 (s2.trans s3) h3
end
end As

/-! ## A15 -/
set_option maxHeartbeats 2000000
namespace As
open PySem PySem.Spec PyProof.Rows L2
theorem tuple_mul1 (l : Addr) (items : Array Value) (n : Nat) (dd : Option Addr) (sl : Array (Option Value)) (u : Tok) :
    Meets (Builtin.«tuple.__mul__» ⟨[.ref l, .int 1 u], []⟩) (fun _ R s => s.heap.get? l = some { cls := .type "tuple", dict := dd, data := .seq items n, slots := sl } ∧
      R (.ok (.ret (Value.ref l))) s) :=
  .of_wp fun prog w A R s h => by
    obtain ⟨hp, g, d, tk, os⟩ := s
    obtain ⟨hl, h⟩ := h
    have f1 := AutoSeq1.idx_int
    wp_walk using wpAny_loadPart' hl
    repeat (first
      | (refine wpAny_ite_false (decide_eq_false (by decide)) ?_; wp_walk using wpAny_loadPart' hl)
      | (refine wpAny_ite_true (decide_eq_true (by simp)) ?_; wp_walk using wpAny_loadPart' hl))
    exact ⟨_, rfl, h⟩
def rRepT1 (K : PySem.W.Frag) : R2 := fun x y H Q => ∃ l xs, x = .ref l ∧ y = .int 1 ∧ SqT K H l xs ∧ Q (.ref l) H
theorem op_repT1 {X : Cx} : OpR X (binaryOp .Mult) (rRepT1 X.K) := by
  intro pins s σ H x y v u Q I rx ry h
  obtain ⟨l, xs, rfl, rfl, hT, q⟩ := h
  cases rx
  obtain ⟨t, rfl⟩ := ry
  obtain ⟨its, r, ⟨⟨cls, dd, data, sl⟩, ho, hc, n, hd⟩, hs⟩ := I.tuple hT
  simp only at hc hd
  subst hc hd
  refine wpAny_binaryOp_repeat_ref (T := "tuple") (U := "int") (by decide) ⟨_, ho, rfl⟩ (fun s' => typeIs_int s' 1 t) noFill_tuple_mul F.fills_int_mul F.slot_int_rmul repeat_tuple F.slot_int_index.lookup
    (call_meets F.slot_int_rmul (typeIs_int s 1 t) F.entry_int_rmul (F.args_int_rmul_2 _ _) (int_rmul_tuple 1 t l its.toArray n dd sl)
      ⟨ho, rfl, ⟨_, ho, rfl⟩, call_meets F.slot_tuple_mul ⟨_, ho, rfl⟩ F.entry_tuple_mul (F.args_tuple_mul_2 _ _) (tuple_mul1 l its.toArray n dd sl t) ⟨ho, ?_⟩⟩)
  exact ⟨.ref l, H, I, rfl, q⟩
end As

/-! ## C9 -/
namespace As
open PySem PySem.Spec PyProof.Rows L2
open PySem.W (alike alikeAll)
theorem perm_rows {ρ : Type} {f : ρ → V} {ys zs : List V} (p : ys.Perm zs) : ∀ rs : List ρ, zs = rs.map f → ∃ rs' : List ρ, rs'.Perm rs ∧ ys = rs'.map f := by
  induction p with
  | nil =>
    intro rs e
    cases rs with
    | nil => exact ⟨[], .refl _, rfl⟩
    | cons => cases e
  | cons x _ ih =>
    intro rs e
    cases rs with
    | nil => cases e
    | cons r t =>
      injection e with e1 e2
      obtain ⟨rs', p', e'⟩ := ih t e2
      exact ⟨r :: rs', p'.cons r, by rw [e1, e']; rfl⟩
  | swap x y l =>
    intro rs e
    match rs, e with
    | r :: u :: t, e =>
      injection e with e1 e2
      injection e2 with e2 e3
      exact ⟨u :: r :: t, .swap r u t, by rw [e1, e2, e3]; rfl⟩
  | trans _ _ ih1 ih2 =>
    intro rs e
    obtain ⟨rs', p', e'⟩ := ih2 rs e
    obtain ⟨rs'', p'', e''⟩ := ih1 rs' e'
    exact ⟨rs'', p''.trans p', e''⟩

theorem make_plan {K : PySem.W.Frag} {H : Hp} {C x dx a b : Addr} {cs : List CRow} {ts : List TRow} {R : VK} {E : XK} (nx : H x = none) (nd : H dx = none) (ne : dx ≠ x) (ha : Sq H a (cs.map cv)) (hb : Sq H b (ts.map tv)) (okc : ColsOk H cs) (okt : TabsOk H (cs.map (·.2.1)) ts)
    (q : ∀ H', Same H H' → PlanAt H' C x cs ts → R .non H') : spInit K C (V.ref x :: ([V.ref a, V.ref b] ++ [])) (upd (upd H dx (.own x)) x (.ins C dx [])) R E := by
  have s1 : Same H (upd (upd H dx (.own x)) x (.ins C dx [])) := fun c o e => by rw [upd_ne (ne_of_none e nx), upd_ne (ne_of_none e nd)]; exact e
  exact ⟨x, dx, a, b, cs, ts, rfl, upd_same, ha.same s1, hb.same s1, okc.same s1, okt.same s1, fun H' but pl => q H' (fun c o e => but c o (ne_of_none e nx) (s1 _ _ e)) pl⟩

/-- all that stands but two lists -/
def but2 (H : Hp) (a c : Addr) : Hp := fun b => if b = a ∨ b = c then none else H b
theorem but2_at {H : Hp} {a c b : Addr} (h1 : b ≠ a) (h2 : b ≠ c) : but2 H a c b = H b := if_neg (by rintro (h | h) <;> contradiction)
theorem but2_same {H : Hp} {a c : Addr} : Same (but2 H a c) H := fun b o e => by
  unfold but2 at e
  split at e
  · cases e
  · exact e
theorem but2_gd {H : Hp} {a c : Addr} (st : StAt H a c) : Gd a c (but2 H a c) H := ⟨but2_same, if_pos (.inl rfl), if_pos (.inr rfl), st⟩
theorem but2_sub {H B : Hp} {a c : Addr} (g : Gd a c B H) : Same B (but2 H a c) := fun b o e => by
  rw [but2_at (ne_of_none e g.na) (ne_of_none e g.nc)]; exact g.ex _ _ e
theorem StAt.ne {H : Hp} {a c b : Addr} {o : HO} (st : StAt H a c) (h : H b = some o) (n : ∀ xs, o ≠ .lst xs) : b ≠ a ∧ b ≠ c := by
  obtain ⟨i, z, ks, nac, ea, ec, _⟩ := st
  exact ⟨ne_lst ea h n, ne_lst ec h n⟩
/-- what is no list of the two stands -/
theorem but2_obj {H : Hp} {a c b : Addr} {o : HO} (st : StAt H a c) (h : H b = some o) (n : ∀ xs, o ≠ .lst xs) : but2 H a c b = some o := by
  rw [but2_at (st.ne h n).1 (st.ne h n).2]; exact h
/-- all but tables of code -/
def Sb (H H' : Hp) : Prop := ∀ b o, H b = some o → (∀ ps, o ≠ .tbl ps) → H' b = some o
theorem PlanAt.sub {H B : Hp} {C p : Addr} {cs : List CRow} {ts : List TRow} (h : PlanAt H C p cs ts) (t : ∀ b o, H b = some o → (∀ xs, o ≠ .lst xs) → (∀ ps, o ≠ .tbl ps) → B b = some o) : PlanAt B C p cs ts := by
  obtain ⟨dx, ct, tt, sz, sp, sh, ks, h1, h2, h3, h4, h5, hs, h6⟩ := h
  exact ⟨dx, ct, tt, sz, sp, sh, ks, t _ _ h1 (fun _ z => nomatch z) (fun _ z => nomatch z), t _ _ h2 (fun _ z => nomatch z) (fun _ z => nomatch z), t _ _ h3 (fun _ z => nomatch z) (fun _ z => nomatch z), t _ _ h4 (fun _ z => nomatch z) (fun _ z => nomatch z), t _ _ h5 (fun _ z => nomatch z) (fun _ z => nomatch z), t _ _ hs (fun _ z => nomatch z) (fun _ z => nomatch z),
    paired_imp (fun _ _ r => ⟨r.1, r.2.elim fun q z => ⟨q, z.1, t _ _ z.2 (fun _ z => nomatch z) (fun _ z => nomatch z)⟩⟩) h6⟩
theorem ColsOk.sub {H H' : Hp} {rs : List CRow} (h : ColsOk H rs) (e : Sb H H') : ColsOk H' rs := ⟨fun r hr => e _ _ (h.row r hr) (fun _ z => nomatch z), h.len, h.nm, h.sz, h.nd⟩
theorem TabsOk.sub {H H' : Hp} {cs : List Str} {rs : List TRow} (h : TabsOk H cs rs) (e : Sb H H') : TabsOk H' cs rs := ⟨fun r hr => e _ _ (h.row r hr) (fun _ z => nomatch z), fun r hr => e _ _ (h.prt r hr) (fun _ z => nomatch z), h.len, h.nm, h.two, h.own, h.nd⟩
theorem cut_take {xs : List V} {n : Nat} : cutV xs none (some ((n : Nat) : Int)) = xs.take n := by
  unfold cutV
  rw [HT.sIx_none, HT.sIx_nat, List.drop_zero, Nat.sub_zero]
  by_cases h : n ≤ xs.length
  · rw [Nat.min_eq_left h]
  · rw [Nat.min_eq_right (by omega), List.take_of_length_le (Nat.le_refl _), List.take_of_length_le (by omega)]
theorem alike_lks : ∀ ks : List LK, alikeAll (ks.map lkD) (ks.map lkD) = true
  | [] => by simp [alikeAll]
  | k :: ks => by rw [List.map_cons, alikeAll, alike_lks ks, alike_lk]; rfl
theorem eqv_lks (ks : List LK) : PyData.eqv (.list (ks.map lkD)) (.list (ks.map lkD)) = true := PySem.W.eqv_refl_alike _ (by rw [alike]; exact alike_lks ks)
theorem dp_lks {K : PySem.W.Frag} {H : Hp} : ∀ {ls : List LRow}, (∀ l ∈ ls, LAt H l) → DpAll K H (ls.map lv) ((ls.map (·.2)).map lkD)
  | [], _ => .nil
  | l :: ls, h => .cons (dp_lk (h l List.mem_cons_self)) (dp_lks fun x hx => h x (List.mem_cons_of_mem _ hx))
theorem lay_lks : ∀ {ks : List LK}, (∀ k ∈ ks, PyData.strOk k.1 = true) → PyData.canLayAll0 (ks.map lkD) = true
  | [], _ => by simp [PyData.canLayAll0]
  | k :: ks, h => by
    rw [List.map_cons, PyData.canLayAll0, lay_lk k (h k List.mem_cons_self), lay_lks fun x hx => h x (List.mem_cons_of_mem _ hx)]; rfl
theorem depth_lks : ∀ {ks : List LK}, PyData.depthAll (ks.map lkD) ≤ 2
  | [] => by simp [PyData.depthAll]
  | k :: ks => by
    rw [List.map_cons, PyData.depthAll]
    have h1 := lk_depth k
    have h2 := depth_lks (ks := ks)
    omega
theorem plain_lk {K : PySem.W.Frag} {B : Hp} {ls : List LRow} (h : ∀ l ∈ ls, LAt B l) (ok : ∀ l ∈ ls, PyData.strOk l.2.1 = true) : ∀ x ∈ ls.map lv, Plain K B x := fun x hx => by
  obtain ⟨l, hl, rfl⟩ := List.mem_map.mp hx
  exact ⟨lkD l.2, dp_lk (h l hl), lay_lk _ (ok l hl), lk_depth _⟩
theorem facts_pos {H : Hp} {cs : List CRow} {ts : List TRow} (okc : ColsOk H cs) (okt : TabsOk H (cs.map (·.2.1)) ts) : 0 < (ts.flatMap (factsT cs)).length := by
  obtain ⟨r, hr⟩ : ∃ r, r ∈ ts := by
    match ts, okt.len.1 with
    | r :: t, _ => exact ⟨r, List.mem_cons_self⟩
  have own := okt.own r hr
  have two := okt.two r hr
  refine List.length_pos_of_mem (a := ((r.2.1, r.2.2.2.map fun _ => 0) : FK)) (List.mem_flatMap.mpr ⟨r, hr, ?_⟩)
  obtain ⟨ra, n, qa, ps⟩ := r
  dsimp only at own two
  rcases ps with _ | ⟨x, _ | ⟨y, _ | ⟨z, w⟩⟩⟩
  · simp at two
  · have h := (valV_sz okc (own x (by simp))).2
    show ((n, [0]) : FK) ∈ (ir (sizeI cs x).toNat).map fun v => ((n, [v]) : FK)
    exact List.mem_map.mpr ⟨0, ir_mem.mpr ⟨by omega, by omega⟩, rfl⟩
  · have h := (valV_sz okc (own x (by simp))).2
    have h' := (valV_sz okc (own y (by simp))).2
    show ((n, [0, 0]) : FK) ∈ (ir (sizeI cs x).toNat).flatMap fun v => (ir (sizeI cs y).toNat).map fun o => ((n, [v, o]) : FK)
    exact List.mem_flatMap.mpr ⟨0, ir_mem.mpr ⟨by omega, by omega⟩, List.mem_map.mpr ⟨0, ir_mem.mpr ⟨by omega, by omega⟩, rfl⟩⟩
  · simp at two
theorem facts_max {H : Hp} {cs : List CRow} {ts : List TRow} (okc : ColsOk H cs) (okt : TabsOk H (cs.map (·.2.1)) ts) : (ts.flatMap (factsT cs)).length ≤ 1000 := by
  have h1 := flat_len (f := factsT cs) (m := 36) (l := ts) fun x hx => by
    have h2 : (factsT cs x).length ≤ 6 * firstN cs x.2.2.2 := factsUp_len (sizeI_le okc)
    have h3 : firstN cs x.2.2.2 ≤ 6 := by unfold firstN; have := sizeI_le okc (x.2.2.2.headD ⟨#[]⟩); omega
    omega
  have := okt.len.2
  have h6 : 36 * ts.length ≤ 36 * 8 := Nat.mul_le_mul_left _ this
  omega
theorem looks_max {H : Hp} {cs : List CRow} {ts : List TRow} (okc : ColsOk H cs) (okt : TabsOk H (cs.map (·.2.1)) ts) : (ts.flatMap (looksT cs)).length ≤ 1000 := by
  have h1 := flat_len (f := looksT cs) (m := 12) (l := ts) fun x hx => by
    have h2 : (looksT cs x).length ≤ 6 * x.2.2.2.length := looksUp_len (sizeI_le okc)
    have h3 := (okt.two x hx).2
    omega
  have := okt.len.2
  have h6 : 12 * ts.length ≤ 12 * 8 := Nat.mul_le_mul_left _ this
  omega
theorem rep_either {K : PySem.W.Frag} {H : Hp} {s : Addr} {n k : Int} {R : VK} (hs : H s = some (.tup [.int n])) (hk : k = 1 ∨ k = 2) (q : ∀ p H', Same H H' → H' p = some (.tup (List.replicate k.toNat [V.int n]).flatten) → R (.ref p) H') :
    rRepT1 K (.ref s) (.int k) H R ∨ rRepT K (.ref s) (.int k) H R := by
  rcases hk with rfl | rfl
  · exact .inl ⟨s, _, rfl, rfl, tof hs, q s H (Same.refl H) hs⟩
  · exact .inr ⟨s, 2, _, rfl, rfl, tof hs, (fun z => nomatch z), by decide, by decide, by show 1 ≤ 1000; decide, fun p np => q p _ (same_new np) upd_same⟩
end As

/-! ## E0 -/
namespace As
open PySem PySem.Spec PyProof.Rows L2
open PySem.W (dataLe AllAlike Sortable dataLt alike)
theorem eqvAll_ints : ∀ a b : List Int, PyData.eqvAll (a.map .int) (b.map .int) = decide (a = b) := fun a b => eqvAll_dec (f := PyData.int) (fun x y => by simp only [PyData.eqv]; by_cases h : x = y <;> simp [h])
theorem dp_fks {K : PySem.W.Frag} {H : Hp} : ∀ {fs : List FRow}, (∀ f ∈ fs, FAt H f) → DpAll K H (fs.map fv) ((fs.map (·.2.2)).map fkD)
  | [], _ => .nil
  | f :: _, h => .cons (dp_fk (h f List.mem_cons_self)) (dp_fks fun x hx => h x (List.mem_cons_of_mem _ hx))
theorem lay_fks : ∀ {ks : List FK}, (∀ k ∈ ks, PyData.strOk k.1 = true) → PyData.canLayAll0 (ks.map fkD) = true
  | [], _ => by simp [PyData.canLayAll0]
  | k :: ks, h => by
    simp only [List.map_cons, PyData.canLayAll0, lay_fk k (h k List.mem_cons_self), lay_fks (ks := ks) fun x hx => h x (List.mem_cons_of_mem _ hx), Bool.and_true]
theorem depth_fks : ∀ {ks : List FK}, PyData.depthAll (ks.map fkD) ≤ 2
  | [] => by simp [PyData.depthAll]
  | k :: ks => by
    have h1 := depth_fks (ks := ks)
    have h2 : PyData.depth (fkD k) ≤ 2 := by rcases fk_depth k with h | h <;> omega
    simp only [List.map_cons, PyData.depthAll]
    omega
theorem eqv_fk (a b : FK) : PyData.eqv (fkD a) (fkD b) = decide (a = b) := by
  obtain ⟨x, xs⟩ := a
  obtain ⟨y, ys⟩ := b
  have e : PyData.eqv (fkD (x, xs)) (fkD (y, ys)) = (PyData.eqv (.str x) (.str y) && (PyData.eqvAll (xs.map .int) (ys.map .int) && true)) := by simp only [fkD, PyData.eqv, PyData.eqvAll]
  rw [e, eqv_str, eqvAll_ints]
  by_cases h : x = y
  · subst h
    by_cases h2 : xs = ys
    · subst h2; simp
    · simp [h2]
  · simp [h]
theorem eqv_lk (a b : LK) : PyData.eqv (lkD a) (lkD b) = decide (a = b) := by
  obtain ⟨x, s, v⟩ := a
  obtain ⟨y, t, u⟩ := b
  have e : PyData.eqv (lkD (x, s, v)) (lkD (y, t, u)) = (PyData.eqv (.str x) (.str y) && ((s == t) && ((v == u) && true))) := by simp only [lkD, PyData.eqv, PyData.eqvAll]
  rw [e, eqv_str]
  by_cases h : x = y
  · subst h
    by_cases h2 : s = t
    · subst h2
      by_cases h3 : v = u
      · subst h3; simp
      · simp [h3]
    · simp [h2]
  · simp [h]
/-- two lists of facts compared -/
theorem ne_fks {K : PySem.W.Frag} {H : Hp} {a b : Addr} {fs gs : List FRow} {Q : VK} (ha : H a = some (.lst (fs.map fv))) (hb : H b = some (.lst (gs.map fv))) (fa : ∀ f ∈ fs, FAt H f) (ga : ∀ f ∈ gs, FAt H f) (fo : ∀ f ∈ fs, PyData.strOk f.2.2.1 = true) (go : ∀ f ∈ gs, PyData.strOk f.2.2.1 = true)
    (q : Q (.bl (!decide (fs.map (·.2.2) = gs.map (·.2.2)))) H) : rNeD K (.ref a) (.ref b) H Q := by
  have l1 : ∀ k ∈ fs.map (·.2.2), PyData.strOk k.1 = true := fun k hk => by obtain ⟨f, hf, rfl⟩ := List.mem_map.mp hk; exact fo f hf
  have l2 : ∀ k ∈ gs.map (·.2.2), PyData.strOk k.1 = true := fun k hk => by obtain ⟨f, hf, rfl⟩ := List.mem_map.mp hk; exact go f hf
  exact ⟨_, _, .lst (lof ha) (dp_fks fa), .lst (lof hb) (dp_fks ga), shaped_lst (lay_fks l1) depth_fks, shaped_lst (lay_fks l2) depth_fks, by rw [eqv_lst eqv_fk]; exact q⟩
theorem ne_lks {K : PySem.W.Frag} {H : Hp} {a b : Addr} {fs gs : List LRow} {Q : VK} (ha : H a = some (.lst (fs.map lv))) (hb : H b = some (.lst (gs.map lv))) (fa : ∀ f ∈ fs, LAt H f) (ga : ∀ f ∈ gs, LAt H f) (fo : ∀ f ∈ fs, PyData.strOk f.2.1 = true) (go : ∀ f ∈ gs, PyData.strOk f.2.1 = true)
    (q : Q (.bl (!decide (fs.map (·.2) = gs.map (·.2)))) H) : rNeD K (.ref a) (.ref b) H Q := by
  have l1 : ∀ k ∈ fs.map (·.2), PyData.strOk k.1 = true := fun k hk => by obtain ⟨f, hf, rfl⟩ := List.mem_map.mp hk; exact fo f hf
  have l2 : ∀ k ∈ gs.map (·.2), PyData.strOk k.1 = true := fun k hk => by obtain ⟨f, hf, rfl⟩ := List.mem_map.mp hk; exact go f hf
  exact ⟨_, _, .lst (lof ha) (dp_lks fa), .lst (lof hb) (dp_lks ga), shaped_lst (lay_lks l1) depth_lks, shaped_lst (lay_lks l2) depth_lks, by rw [eqv_lst eqv_lk]; exact q⟩
theorem plain_fk {K : PySem.W.Frag} {B : Hp} {fs : List FRow} (h : ∀ f ∈ fs, FAt B f) (ok : ∀ f ∈ fs, PyData.strOk f.2.2.1 = true) : ∀ x ∈ fs.map fv, Plain K B x := fun x hx => by
  obtain ⟨f, hf, rfl⟩ := List.mem_map.mp hx
  exact ⟨_, dp_fk (h f hf), lay_fk _ (ok f hf), by rcases fk_depth f.2.2 with h | h <;> omega⟩
theorem any_lk {ks : List LK} {k : LK} : ((ks.map lkD).any fun z => PyData.eqv z (lkD k)) = decide (k ∈ ks) := by
  rw [List.any_map]
  induction ks with
  | nil => simp
  | cons a l ih =>
    rw [List.any_cons, ih]
    show (PyData.eqv (lkD a) (lkD k) || _) = _
    rw [eqv_lk]
    by_cases h : a = k
    · subst h; simp
    · have h2 : ¬ k = a := fun z => h z.symm
      simp [h, h2]
end As

/-! ## F4 -/
namespace As
open PySem PySem.Spec PyProof.Rows L2
open PySem.W (dataLe AllAlike Sortable dataLt alike)
theorem any_fk {ks : List FK} {k : FK} : ((ks.map fkD).any fun z => PyData.eqv z (fkD k)) = decide (k ∈ ks) := by
  rw [List.any_map]
  induction ks with
  | nil => simp
  | cons a l ih =>
    rw [List.any_cons, ih]
    show (PyData.eqv (fkD a) (fkD k) || _) = _
    rw [eqv_fk]
    by_cases h : a = k
    · subst h; simp
    · have h2 : ¬ k = a := fun z => h z.symm
      simp [h, h2]
theorem OwnF.nm {H : Hp} {cs : List CRow} {ts : List TRow} {fs : List FRow} (ow : OwnF cs ts fs) (okt : TabsOk H (cs.map (·.2.1)) ts) : ∀ f ∈ fs, PyData.strOk f.2.2.1 = true := fun f hf => by
  obtain ⟨r, hr, hk⟩ := ow f hf
  rw [hk.1]; exact name_ok (okt.nm r hr)
theorem keys_ok {fs : List FRow} (h : ∀ f ∈ fs, PyData.strOk f.2.2.1 = true) : ∀ k ∈ fs.map (·.2.2), PyData.strOk k.1 = true := fun k hk => by
  obtain ⟨f, hf, rfl⟩ := List.mem_map.mp hk; exact h f hf
def seenR (fs : List FRow) (l : LK) : List V := (fs.filter fun f => seesB l f.2.2).map fun f => V.ref f.2.1
section
variable {P : Program} {w : World} {K : PySem.W.Frag} {mg : Str → Option Value} {base : Heap}
/-- seen -/
def spSeen (P : Program) (w : World) (C S : Addr) : Sp := fun vs H Q _ => ∃ (s p : Addr) (l : LRow) (fs : List FRow) (cs : List CRow) (ts : List TRow), vs = [.ref s, lv l] ∧ StoreAt P w H S s p fs ∧ fs.length ≤ 10000 ∧ PlanAt H C p cs ts ∧ ColsOk H cs ∧ TabsOk H (cs.map (·.2.1)) ts ∧ OwnF cs ts fs ∧ LAt H l ∧ (∃ r ∈ ts, LofT cs r l.2) ∧
  ∀ q H', Same H H' → H' q = some (.tup (seenR fs l.2)) → Q (.ref q) H'
abbrev nSeen : List Str := ["self", "look", "table", "side", "value", "row"]
theorem sc_seen : FnScope nSeen ["self", "look"] (defScope s_seen) := ⟨rfl, rfl, rfl, by decide +kernel, rfl, by decide +kernel, by decide +kernel⟩
theorem ok_seen {f fi fr C S : Addr} {fd di dr : FuncData} (F : Fun K "seen" "Store.seen" s_seen f fd) (T : Bi mg) (L : StF K S) (Di : Df K mg "is_look" s_is_look ["plan", "thing"] fi di) (Gi : FnOk P w K mg base CX0 3 fi di ["plan", "thing"] (spIsLook C))
    (mr : Meth K S "rows" fr) (Gr : FnOk P w K mg base CX0 3 fr dr ["self", "table"] (spRows P w C S)) (br : Binds K dr ["self", "table"] []) : FnOk P w K mg base CX0 4 f fd ["self", "look"] (spSeen P w C S) := by
  refine F.ok sc_seen (fun vs H Q E h => ?_) (fun cdv A outer s H vs Q E hr h => ?_)
  · obtain ⟨s, p, l, fs, cs, ts, rfl, _⟩ := h; rfl
  · obtain ⟨sa, p, l, fs, cs, ts, rfl, st, len, pl, okc, okt, ow, hl, ⟨r, hr', hk⟩, q⟩ := h
    have fat := st.fat
    obtain ⟨dx, pr, fa, us, h1, h2, h3, h3', h4, h5, h6⟩ := id st
    have ht := T.tuple
    refine ⟨_, pss_cons (ps_if (pt_not (pt_val (pcall Di Gi hr (pa_cons (pe_fld (pv 0) rfl) (pa_cons (pv 1) pa_nil))))) (pss_one ps_dead) pss_nil)
      (pss_cons (ps_asg (pv 1) (pg_tup rfl (pgs_cons (pg_name (i := 2) sc_seen.nd rfl (Or.inl rfl)) (pgs_cons (pg_name (i := 3) sc_seen.nd rfl (Or.inr rfl)) (pgs_cons (pg_name (i := 4) sc_seen.nd rfl (Or.inr rfl)) pgs_nil)))))
      (pss_one (ps_ret (tupK K (pe_lc (own := [("row", 5)]) (g := gName 5) rfl sc_seen.nd (piT K (pe_meth (pv 0) L.cl mr Gr hr br .nil pass0 (pa_cons (pv 2) pa_nil))) (blkOk_by (N := nSeen) (sc := defScope s_seen) (by decide +kernel))
        (fun _ _ _ _ _ => pg_name (i := 5) sc_seen.nd rfl (Or.inl rfl)) (fun _ _ _ _ _ => pts_one (pt_cmpR op_eq (pe_ix (ixT K) (pv 5) (pv 3) (fun _ _ => rfl)) (pv 4) (nomark _))) (fun _ _ _ _ _ => pv 5)))))), ?_⟩
    refine ⟨_, rfl, sa, S, dx, _, _, rfl, h1, L.cl, L.aP, sf_P, _, rfl, p, l, cs, ts, rfl, pl, okc, okt, hl, ⟨r, hr', hk⟩, fun H1 s1 => ⟨true, rfl, iteF ?_⟩⟩
    refine ⟨_, rfl, l.1, _, rfl, tof (s1 _ _ hl), rfl, _, _, rfl, _, _, rfl, _, _, rfl, rfl, ?_⟩
    have no : (sf p pr fa).lookup (Str.ofString "rows") = none := sf_no (by decide +kernel) (by decide +kernel) (by decide +kernel)
    refine ⟨_, rfl, sa, dx, _, rfl, s1 _ _ h1, no, _, rfl, sa, p, l.2.1, fs, cs, ts, r, rfl, st.same s1, len, pl.same s1, by rw [hk.1]; exact tabOf_of okt.nd hr', fun q1 H2 s2 hq1 => ?_⟩
    refine ⟨q1, rfl, ⟨_, tof hq1⟩, fun D nD => ?_⟩
    have s12 := s1.trans s2
    refine lc_fm (v := fun f : FRow => V.ref f.2.1) (u := fun f => V.ref f.2.1) (xs := fs.filter fun f => decide (f.2.2.1 = l.2.1)) (fun f => decide (atI f.2.2.2 l.2.2.1 = some l.2.2.2)) (walk_tup (K := K) (a := q1)) nD (fun H' s' => tof (s' _ _ hq1))
      (Nat.le_trans (List.length_filter_le _ _) len) (fun x H3 Q1 Q2 hx s3 k1 k2 => ?_) (fun H3 s3 hD3 => ?_)
    · obtain ⟨hx1, hx2⟩ := List.mem_filter.mp hx
      obtain ⟨rx, hrx, kx⟩ := ow x hx1
      obtain ⟨v, hv⟩ := own_at okt.nd hrx hr' hk kx (of_decide_eq_true hx2).symm
      have fx := (fat x hx1).imm (same_imm (s12.trans s3))
      refine ⟨rfl, _, rfl, _, rfl, x.2.1, _, l.2.2.1, .int v, rfl, rfl, tof fx.2, atI_map hv, _, rfl, rfl, _, rfl, ?_⟩
      rw [hv] at k1 k2
      by_cases e : v = l.2.2.2
      · rw [show decide (V.int v = V.int l.2.2.2) = true from decide_eq_true (by rw [e])]
        exact iteT ⟨_, rfl, k1 (decide_eq_true (by rw [e])) _ (Same.refl _)⟩
      · rw [show decide (V.int v = V.int l.2.2.2) = false from decide_eq_false fun z => e (by injection z)]
        exact iteF (k2 (decide_eq_false fun z => e (by injection z)) _ (Same.refl _))
    · rw [List.filter_filter] at hD3
      have e : (fs.filter fun f => decide (atI f.2.2.2 l.2.2.1 = some l.2.2.2) && decide (f.2.2.1 = l.2.1)) = fs.filter fun f => seesB l.2 f.2.2 := by
        apply List.filter_congr
        intro f _
        unfold seesB
        rw [Bool.and_comm]
        congr 1
        exact decide_eq_decide.mpr ⟨Eq.symm, Eq.symm⟩
      rw [e] at hD3
      exact kTup_seq (.inl hD3) fun q2 H4 s4 h4 => q q2 H4 (s12.trans (s3.trans s4)) h4
theorem make_store {H : Hp} {C S x dx p l : Addr} {cs : List CRow} {ts : List TRow} {gs : List FRow} {R : VK} {E : XK} (nx : H x = none) (nd : H dx = none) (ne : dx ≠ x) (pl : PlanAt H C p cs ts) (okc : ColsOk H cs) (okt : TabsOk H (cs.map (·.2.1)) ts)
    (hl : H l = some (.lst (gs.map fv))) (fa : ∀ f ∈ gs, FAt H f) (ow : OwnF cs ts gs) (len : gs.length ≤ 10000)
    (q : ∀ H' fs, Same H H' → StoreAt P w H' S x p fs → (∀ k, k ∈ keysF fs ↔ k ∈ keysF gs) → (∀ f ∈ fs, f ∈ gs) → R .non H') : spSInit P w K C S (V.ref x :: ([V.ref p, V.ref l] ++ [])) (upd (upd H dx (.own x)) x (.ins S dx [])) R E := by
  have s1 : Same H (upd (upd H dx (.own x)) x (.ins S dx [])) := fun c o e => by rw [upd_ne (ne_of_none e nx), upd_ne (ne_of_none e nd)]; exact e
  exact ⟨x, dx, p, l, cs, ts, gs, rfl, upd_same, pl.same s1, okc.same s1, okt.same s1, s1 _ _ hl, fun f hf => (fa f hf).imm (same_imm s1), ow, len, fun H' fs but st k sub => q H' fs (fun c o e => but c o (ne_of_none e nx) (s1 _ _ e)) st k sub⟩
end
end As

/-! ## F5 -/
namespace As
open PySem PySem.Spec PyProof.Rows L2
open PySem.W (dataLe AllAlike Sortable dataLt alike)
/-- the store's class, as a program names it -/
structure StC (K : PySem.W.Frag) (mg : Str → Option Value) (S fi : Addr) (di : FuncData) : Prop where
  m : mg "Store" = some (.ref S)
  mkr : Mk K S fi
  b : Binds K di ["self", "plan", "present"] []
section
variable {P : Program} {w : World} {K : PySem.W.Frag} {mg : Str → Option Value} {base : Heap}
/-- with_facts, without_facts: facts come as a tuple -/
def spWith (P : Program) (w : World) (C S : Addr) (g : List FK → List FK → FK → Prop) : Sp := fun vs H Q _ => ∃ (s p t : Addr) (gs fs : List FRow) (cs : List CRow) (ts : List TRow), vs = [.ref s, .ref t] ∧ StoreAt P w H S s p fs ∧ fs.length ≤ 5000 ∧ PlanAt H C p cs ts ∧ ColsOk H cs ∧ TabsOk H (cs.map (·.2.1)) ts ∧ OwnF cs ts fs ∧
  H t = some (.tup (gs.map fv)) ∧ (∀ f ∈ gs, FAt H f) ∧ OwnF cs ts gs ∧ gs.length ≤ 5000 ∧
  ∀ s' fs' H', Same H H' → H s' = none → StoreAt P w H' S s' p fs' → (∀ k, k ∈ keysF fs' ↔ g (keysF fs) (keysF gs) k) → (∀ f ∈ fs', f ∈ fs ∨ f ∈ gs) → Q (.ref s') H'
def spStar (sp : Sp) : Sp := fun vs H Q E => ∃ ws rest, vs = ws ++ rest ∧ ws.length = ["self"].length ∧ rest.length ≤ sizeLine ∧ ∀ p : Addr, H p = none → sp (ws ++ [V.ref p]) (upd H p (.tup rest)) Q E
theorem sc_with : FnScope ["self", "facts", "fact"] ["self", "facts"] (defScope s_with) := ⟨rfl, rfl, rfl, by decide +kernel, rfl, by decide +kernel, by decide +kernel⟩
theorem sc_without : FnScope ["self", "facts", "fact"] ["self", "facts"] (defScope s_without) := ⟨rfl, rfl, rfl, by decide +kernel, rfl, by decide +kernel, by decide +kernel⟩
theorem ok_with {f fc fi C S : Addr} {fd dc di : FuncData} (F : Fun K "with_facts" "Store.with_facts" s_with f fd) (L : StF K S) (Sc : StC K mg S fi di) (Gi : FnOk P w K mg base CX0 5 fi di ["self", "plan", "present"] (spSInit P w K C S))
    (Dc : Df K mg "check_fact" s_check_fact ["plan", "thing"] fc dc) (Gc : FnOk P w K mg base CX0 4 fc dc ["plan", "thing"] (spCheckV C)) :
    FnR P w K mg base CX0 7 f (spStar (spWith P w C S fun a b k => k ∈ a ∨ k ∈ b)) := by
  obtain ⟨oc, od, kV, doc, pm, an, cdv, ct, osl, rfl, l1, l2⟩ := F.ex
  refine StX.fn_star (ps := ["self"]) (pv := "facts") (sp := spWith P w C S fun a b k => k ∈ a ∨ k ∈ b) l1 l2 sc_with StX.cxUp_none (StX.bind_star1 (B := fun us => bindArgs (PySem.W.fnOf "with_facts" "Store.with_facts" (defArgs s_with) (defBody s_with) (defScope s_with) .none kV doc pm an cdv ct) { pos := us }) (p1 := "self") (pv := "facts") (fun a => rfl) (fun a r rs => rfl)) fun A outer s H vs Q E hr h => ?_
  obtain ⟨sa, p, t, gs, fs, cs, ts, rfl, st, flen, pl, okc, okt, ow, ht, ga, og, glen, q⟩ := h
  have fat := st.fat
  obtain ⟨dx, pr, fa, us, h1, h2, h3, h3', h4, h5, h6⟩ := id st
  have hr4 : Room 4 _ := hr.mono (by decide)
  refine ⟨_, L2.PSs.nox (pss_cons (ps_for PassesOwn.never rfl (pi_tup (pv 1)) (pg_name (i := 2) sc_with.nd rfl (Or.inl rfl)) (pss_one (ps_expr (pcall Dc Gc hr4 (pa_cons (pe_fld (pv 0) rfl) (pa_cons (pv 2) pa_nil))))))
    (pss_one (ps_ret (pe_make Sc.mkr Gi hr rfl Sc.m Sc.b .nil pass0 (pa_cons (pe_fld (pv 0) rfl) (pa_cons (pe_lst (StX.pa_star (pe_fld (pv 0) rfl) (StX.pa_star (pv 1) pa_nil))) pa_nil)))))), ?_⟩
  refine ⟨_, rfl, t, rfl, ⟨_, tof ht⟩, for_it (walk_tup (K := K) (a := t) (xs := gs.map fv)) (fun i σ H' => ∃ x2, σ = [some (.ref sa), some (.ref t), x2] ∧ Same H H') ⟨_, rfl, Same.refl H⟩ (fun i σ H' _ ⟨_, _, s'⟩ => tof (s' _ _ ht)) ?_ ?_⟩
  · rintro i x σ H2 H3 hi ⟨x2, rfl, s2⟩ ⟨rfl, hx⟩
    rw [List.getElem?_map] at hx
    obtain ⟨g', hg, rfl⟩ := Option.map_eq_some_iff.mp hx
    have gm := List.mem_of_getElem? hg
    refine ⟨_, rfl, sa, S, dx, _, _, rfl, s2 _ _ h1, L.cl, L.aP, sf_P, _, rfl, p, g', cs, ts, rfl, pl.same s2, okc.same s2, okt.same s2, (ga g' gm).imm (same_imm s2), og g' gm, fun H4 s4 => ⟨_, rfl, s2.trans s4⟩⟩
  · rintro σ H2 ⟨x2, rfl, s2⟩
    refine ⟨_, rfl, sa, S, dx, _, _, rfl, s2 _ _ h1, L.cl, L.aP, sf_P, _, rfl, sa, S, dx, _, _, rfl, s2 _ _ h1, L.cl, L.aF, sf_F, fa, fs.map fv, rfl, .inl (tof (s2 _ _ h4)), _, rfl, t, gs.map fv, rfl, .inl (tof (s2 _ _ ht)), ?_, fun l1 nl => ?_⟩
    · simp only [List.length_append, List.length_map, List.length_nil]
      exact Nat.le_trans (show fs.length + (gs.length + 0) ≤ 10000 by omega) (by decide)
    have e : fs.map fv ++ (gs.map fv ++ []) = (fs ++ gs).map fv := by rw [List.append_nil, List.map_append]
    rw [e]
    have s3 := s2.trans (same_new (o := .lst ((fs ++ gs).map fv)) nl)
    have hl3 : (upd H2 l1 (.lst ((fs ++ gs).map fv))) l1 = some (.lst ((fs ++ gs).map fv)) := upd_same
    generalize upd H2 l1 (.lst ((fs ++ gs).map fv)) = H3 at s3 hl3 ⊢
    refine fun y dy ny ndy ne => make_store ny ndy ne (pl.same s3) (okc.same s3) (okt.same s3) hl3 (fun f hf => ?_) (fun f hf => ?_) (by rw [List.length_append]; omega) fun H4 fs' s4 st4 km sub => ⟨rfl, ?_⟩
    · rcases List.mem_append.mp hf with hf | hf
      · exact (fat f hf).imm (same_imm s3)
      · exact (ga f hf).imm (same_imm s3)
    · rcases List.mem_append.mp hf with hf | hf
      · exact ow f hf
      · exact og f hf
    · refine q y fs' H4 (s3.trans s4) (s3.free ny) st4 (fun k => ?_) (fun f hf => List.mem_append.mp (sub f hf))
      rw [km]
      show k ∈ List.map _ (fs ++ gs) ↔ _
      rw [List.map_append, List.mem_append]; exact Iff.rfl
theorem ok_without {f fc fi C S : Addr} {fd dc di : FuncData} (F : Fun K "without_facts" "Store.without_facts" s_without f fd) (L : StF K S) (Sc : StC K mg S fi di) (Gi : FnOk P w K mg base CX0 5 fi di ["self", "plan", "present"] (spSInit P w K C S))
    (Dc : Df K mg "check_fact" s_check_fact ["plan", "thing"] fc dc) (Gc : FnOk P w K mg base CX0 4 fc dc ["plan", "thing"] (spCheckV C)) :
    FnR P w K mg base CX0 7 f (spStar (spWith P w C S fun a b k => k ∈ a ∧ ¬ k ∈ b)) := by
  obtain ⟨oc, od, kV, doc, pm, an, cdv, ct, osl, rfl, l1, l2⟩ := F.ex
  refine StX.fn_star (ps := ["self"]) (pv := "facts") (sp := spWith P w C S fun a b k => k ∈ a ∧ ¬ k ∈ b) l1 l2 sc_without StX.cxUp_none (StX.bind_star1 (B := fun us => bindArgs (PySem.W.fnOf "without_facts" "Store.without_facts" (defArgs s_without) (defBody s_without) (defScope s_without) .none kV doc pm an cdv ct) { pos := us }) (p1 := "self") (pv := "facts") (fun a => rfl) (fun a r rs => rfl)) fun A outer s H vs Q E hr h => ?_
  obtain ⟨sa, p, t, gs, fs, cs, ts, rfl, st, flen, pl, okc, okt, ow, ht, ga, og, glen, q⟩ := h
  have fat := st.fat
  obtain ⟨dx, pr, fa, us, h1, h2, h3, h3', h4, h5, h6⟩ := id st
  have hr4 : Room 4 _ := hr.mono (by decide)
  have hu65 : (A.deeper (envOfC (Str.ofString "Store.without_facts") (defScope s_without) s.heap.objs.size f cdv)).units + 65 < cLine := by have := hr.un; omega
  refine ⟨_, L2.PSs.nox (pss_cons (ps_for PassesOwn.never rfl (pi_tup (pv 1)) (pg_name (i := 2) sc_without.nd rfl (Or.inl rfl)) (pss_one (ps_expr (pcall Dc Gc hr4 (pa_cons (pe_fld (pv 0) rfl) (pa_cons (pv 2) pa_nil))))))
    (pss_one (ps_ret (pe_make Sc.mkr Gi hr rfl Sc.m Sc.b .nil pass0 (pa_cons (pe_fld (pv 0) rfl) (pa_cons (pe_lc (own := [("fact", 2)]) (g := gName 2) rfl sc_without.nd (piT K (pe_fld (pv 0) rfl)) (blkOk_by (N := ["self", "facts", "fact"]) (sc := defScope s_without) (by decide +kernel))
      (fun _ _ _ _ _ => pg_name (i := 2) sc_without.nd rfl (Or.inl rfl)) (fun _ _ _ _ _ => pts_one (pt_cmpR (notInTK K hu65) (pv 2) (pv 1) rfl)) (fun _ _ _ _ _ => pv 2)) pa_nil)))))), ?_⟩
  refine ⟨_, rfl, t, rfl, ⟨_, tof ht⟩, for_it (walk_tup (K := K) (a := t) (xs := gs.map fv)) (fun i σ H' => ∃ x2, σ = [some (.ref sa), some (.ref t), x2] ∧ Same H H') ⟨_, rfl, Same.refl H⟩ (fun i σ H' _ ⟨_, _, s'⟩ => tof (s' _ _ ht)) ?_ ?_⟩
  · rintro i x σ H2 H3 hi ⟨x2, rfl, s2⟩ ⟨rfl, hx⟩
    rw [List.getElem?_map] at hx
    obtain ⟨g', hg, rfl⟩ := Option.map_eq_some_iff.mp hx
    have gm := List.mem_of_getElem? hg
    refine ⟨_, rfl, sa, S, dx, _, _, rfl, s2 _ _ h1, L.cl, L.aP, sf_P, _, rfl, p, g', cs, ts, rfl, pl.same s2, okc.same s2, okt.same s2, (ga g' gm).imm (same_imm s2), og g' gm, fun H4 s4 => ⟨_, rfl, s2.trans s4⟩⟩
  · rintro σ H2 ⟨x2, rfl, s2⟩
    refine ⟨_, rfl, sa, S, dx, _, _, rfl, s2 _ _ h1, L.cl, L.aP, sf_P, _, rfl, sa, S, dx, _, _, rfl, s2 _ _ h1, L.cl, L.aF, sf_F, fa, rfl, ⟨_, tof (s2 _ _ h4)⟩, fun D nD => ?_⟩
    refine lc_filter (v := fv) (xs := fs) (fun f => !decide (f.2.2 ∈ keysF gs)) (walk_tup (K := K) (a := fa) (xs := fs.map fv)) nD (fun H' s' => tof (s' _ _ (s2 _ _ h4))) (by omega) (fun x H3 Q1 Q2 hx s3 k1 k2 => ?_) (fun H3 s3 hD3 => ?_)
    · have e3 := s2.trans s3
      refine ⟨rfl, _, rfl, _, rfl, fkD x.2.2, (gs.map (·.2.2)).map fkD, dp_fk ((fat x hx).imm (same_imm e3)), .tup (tof (e3 _ _ ht)) (dp_fks fun g' hg => (ga g' hg).imm (same_imm e3)), ?_, shaped_tup (lay_fks (keys_ok (og.nm okt))) depth_fks, ?_⟩
      · have a1 := lay_fk x.2.2 (ow.nm okt x hx)
        show (PyData.canLay0 (fkD x.2.2) && decide (PyData.depth (fkD x.2.2) ≤ 64)) = true
        rw [a1, Bool.true_and]; exact decide_eq_true (by rcases fk_depth x.2.2 with h | h <;> omega)
      · rw [any_fk]
        refine ⟨_, rfl, ?_⟩
        show if (!decide (x.2.2 ∈ keysF gs)) = true then _ else _
        cases hp : decide (x.2.2 ∈ keysF gs) with
        | false => exact iteT ⟨_, rfl, k1 (by rw [hp]; rfl) _ (Same.refl _)⟩
        | true => exact iteF (k2 (by rw [hp]; rfl) _ (Same.refl _))
    have s23 := s2.trans s3
    refine fun y dy ny ndy ne => make_store ny ndy ne (pl.same s23) (okc.same s23) (okt.same s23) hD3 (fun f hf => (fat f (List.mem_filter.mp hf).1).imm (same_imm s23)) (fun f hf => ow f (List.mem_filter.mp hf).1) (Nat.le_trans (List.length_filter_le _ _) (by omega)) fun H4 fs' s4 st4 km sub => ⟨rfl, ?_⟩
    refine q y fs' H4 (s23.trans s4) (s23.free ny) st4 (fun k => ?_) (fun f hf => .inl (List.mem_filter.mp (sub f hf)).1)
    rw [km]
    constructor
    · intro hk
      obtain ⟨f, hf, rfl⟩ := List.mem_map.mp hk
      obtain ⟨h1, h2⟩ := List.mem_filter.mp hf
      exact ⟨List.mem_map.mpr ⟨f, h1, rfl⟩, fun z => by rw [decide_eq_true z] at h2; cases h2⟩
    · rintro ⟨hk, hn⟩
      obtain ⟨f, hf, rfl⟩ := List.mem_map.mp hk
      exact List.mem_map.mpr ⟨f, List.mem_filter.mpr ⟨hf, by rw [decide_eq_false hn]; rfl⟩, rfl⟩
end
end As

/-! ## F6 -/
namespace As
open PySem PySem.Spec PyProof.Rows L2
open PySem.W (dataLe AllAlike Sortable dataLt alike)
def rowD (xs : List Int) : PyData := .tuple (xs.map .int)
theorem eqv_row (a b : List Int) : PyData.eqv (rowD a) (rowD b) = decide (a = b) := by
  have e : PyData.eqv (rowD a) (rowD b) = PyData.eqvAll (a.map .int) (b.map .int) := by simp only [rowD, PyData.eqv]
  rw [e, eqvAll_ints]
theorem lay_rows : ∀ {xs : List (List Int)}, PyData.canLayAll0 (xs.map rowD) = true ∧ PyData.depthAll (xs.map rowD) ≤ 2
  | [] => by simp [PyData.canLayAll0, PyData.depthAll]
  | x :: xs => by
    have h := lay_rows (xs := xs)
    have h1 : PyData.canLay0 (rowD x) = true := by simp [rowD, PyData.canLay0, ints_lay.1]
    have h2 : PyData.depth (rowD x) ≤ 2 := by simp [rowD, PyData.depth, ints_lay.2]
    simp only [List.map_cons, PyData.canLayAll0, PyData.depthAll, h1, h.1, Bool.and_true, true_and]
    have := h.2
    omega
def rowsK (fs : List FRow) (l : LK) : List (List Int) := (fs.filter fun f => seesB l f.2.2).map fun f => f.2.2.2
def seenK (ks : List FK) (l : LK) : List (List Int) := (ks.filter fun k => seesB l k).map (·.2)
theorem rows_seen {fs : List FRow} {l : LK} : rowsK fs l = seenK (keysF fs) l := by
  unfold rowsK seenK keysF
  rw [List.filter_map, List.map_map]; rfl
theorem dp_rows {K : PySem.W.Frag} {H : Hp} : ∀ {fs : List FRow}, (∀ f ∈ fs, FAt H f) → DpAll K H (fs.map fun f => V.ref f.2.1) ((fs.map fun f => f.2.2.2).map rowD)
  | [], _ => .nil
  | f :: _, h => .cons (.tup (tof (h f List.mem_cons_self).2) dp_ints) (dp_rows fun x hx => h x (List.mem_cons_of_mem _ hx))
theorem eq_seen {K : PySem.W.Frag} {H : Hp} {a b : Addr} {fs gs : List FRow} {l : LK} {Q : VK} (ha : H a = some (.tup (seenR fs l))) (hb : H b = some (.tup (seenR gs l))) (fa : ∀ f ∈ fs, FAt H f) (ga : ∀ f ∈ gs, FAt H f)
    (q : Q (.bl (decide (seenK (keysF fs) l = seenK (keysF gs) l))) H) : rEqD K (.ref a) (.ref b) H Q := by
  refine ⟨.tuple ((rowsK fs l).map rowD), .tuple ((rowsK gs l).map rowD), .tup (tof ha) (dp_rows fun f hf => fa f (List.mem_filter.mp hf).1), .tup (tof hb) (dp_rows fun f hf => ga f (List.mem_filter.mp hf).1), shaped_tup lay_rows.1 lay_rows.2, shaped_tup lay_rows.1 lay_rows.2, ?_⟩
  rw [eqv_tup eqv_row, rows_seen, rows_seen]; exact q
theorem ne_seen {K : PySem.W.Frag} {H : Hp} {a b : Addr} {fs gs : List FRow} {l : LK} {Q : VK} (ha : H a = some (.tup (seenR fs l))) (hb : H b = some (.tup (seenR gs l))) (fa : ∀ f ∈ fs, FAt H f) (ga : ∀ f ∈ gs, FAt H f)
    (q : Q (.bl (!decide (seenK (keysF fs) l = seenK (keysF gs) l))) H) : rNeD K (.ref a) (.ref b) H Q := by
  refine ⟨.tuple ((rowsK fs l).map rowD), .tuple ((rowsK gs l).map rowD), .tup (tof ha) (dp_rows fun f hf => fa f (List.mem_filter.mp hf).1), .tup (tof hb) (dp_rows fun f hf => ga f (List.mem_filter.mp hf).1), shaped_tup lay_rows.1 lay_rows.2, shaped_tup lay_rows.1 lay_rows.2, ?_⟩
  rw [eqv_tup eqv_row, rows_seen, rows_seen]; exact q
def agreeB (ks ks' : List FK) (ls : List LK) : Bool := ls.all fun l => decide (seenK ks l = seenK ks' l)
section
variable {P : Program} {w : World} {K : PySem.W.Frag} {mg : Str → Option Value} {base : Heap}
/-- two stores of one plan compared -/
def spSEq (P : Program) (w : World) (C S : Addr) : Sp := fun vs H Q _ => ∃ (a b p : Addr) (fs gs : List FRow) (cs : List CRow) (ts : List TRow), vs = [.ref a, .ref b] ∧ StoreAt P w H S a p fs ∧ StoreAt P w H S b p gs ∧ PlanAt H C p cs ts ∧ ColsOk H cs ∧ TabsOk H (cs.map (·.2.1)) ts ∧ OwnF cs ts fs ∧ OwnF cs ts gs ∧
  Q (.bl (decide (keysF fs = keysF gs))) H
theorem sc_Seq : FnScope ["self", "other"] ["self", "other"] (defScope s_Seq) := ⟨rfl, rfl, rfl, by decide +kernel, rfl, by decide +kernel, by decide +kernel⟩
theorem ok_Seq {f fe C S : Addr} {fd de : FuncData} (F : Fun K "__eq__" "Store.__eq__" s_Seq f fd) (T : Bi mg) (L : StF K S) (G : IsC K S) (hS : mg "Store" = some (.ref S)) (Ge : FnOk P w K mg base CX0 1 fe de ["self", "other"] (spEqP C)) (be : Binds K de ["self", "other"] []) (qe : EqC K C fe) :
    FnOk P w K mg base CX0 2 f fd ["self", "other"] (spSEq P w C S) := by
  refine F.ok sc_Seq (fun vs H Q E h => ?_) (fun cdv A outer s H vs Q E hr h => ?_)
  · obtain ⟨a, b, p, fs, gs, cs, ts, rfl, _⟩ := h; rfl
  · obtain ⟨a, b, p, fs, gs, cs, ts, rfl, st, st', pl, okc, okt, ow, ow', q⟩ := h
    have fat := st.fat
    have gat := st'.fat
    obtain ⟨dx, pr, fa, us, h1, h2, h3, h3', h4, h5, h6⟩ := st
    obtain ⟨dx', pr', fa', us', g1, g2, g3, g3', g4, g5, g6⟩ := st'
    obtain ⟨dp, ct, tt, sz, sp, sh, ks, e1, _⟩ := id pl
    refine ⟨_, pss_one (ps_ret (pe_and (pe_callB call_isi (by rfl) T.isinst (by decide +kernel) (pa_cons (pv 1) (pa_cons (pe_glob (v := .ref S) rfl hS rfl) pa_nil)))
      (pe_and (pe_cmpR (op_eqOwn Ge hr be qe) (pe_fld (pv 0) rfl) (pe_fld (pv 1) rfl) (nomark _)) (pe_one (pe_cmpR (op_eqD (hu64 hr)) (pe_fld (pv 0) rfl) (pe_fld (pv 1) rfl) (nomark _)))))), ?_⟩
    refine ⟨_, rfl, _, _, .ref S, _, true, rfl, .own S, .base (.ins g1 L.cl G.ha G.hn G.htk G.hm), kit_self, true, rfl, iteT ?_⟩
    refine ⟨_, rfl, a, S, dx, _, _, rfl, h1, L.cl, L.aP, sf_P, _, rfl, b, S, dx', _, _, rfl, g1, L.cl, L.aP, sf_P, p, p, dp, _, rfl, rfl, e1, .inl ⟨_, _, e1⟩, p, p, cs, ts, rfl, pl, okc, okt, .inl ⟨cs, ts, pl, okc, okt, _, rfl, ?_⟩⟩
    rw [decide_eq_true rfl, decide_eq_true rfl]
    refine ⟨true, rfl, iteT ?_⟩
    refine ⟨_, rfl, a, S, dx, _, _, rfl, h1, L.cl, L.aF, sf_F, _, rfl, b, S, dx', _, _, rfl, g1, L.cl, L.aF, sf_F, ?_⟩
    exact ⟨_, _, .tup (tof h4) (dp_fks fat), .tup (tof g4) (dp_fks gat), shaped_tup (lay_fks (keys_ok (ow.nm okt))) depth_fks, shaped_tup (lay_fks (keys_ok (ow'.nm okt))) depth_fks, by rw [eqv_tup eqv_fk]; exact q⟩
/-- agree -/
def spAgree (P : Program) (w : World) (C S : Addr) : Sp := fun vs H Q _ => ∃ (a b l p : Addr) (fs gs : List FRow) (ls : List LRow) (cs : List CRow) (ts : List TRow), vs = [.ref a, .ref b, .ref l] ∧ StoreAt P w H S a p fs ∧ StoreAt P w H S b p gs ∧ fs.length ≤ 10000 ∧ gs.length ≤ 10000 ∧ PlanAt H C p cs ts ∧ ColsOk H cs ∧ TabsOk H (cs.map (·.2.1)) ts ∧ OwnF cs ts fs ∧ OwnF cs ts gs ∧
  H l = some (.lst (ls.map lv)) ∧ (∀ x ∈ ls, LAt H x) ∧ (∀ x ∈ ls, ∃ r ∈ ts, LofT cs r x.2) ∧ ls.length ≤ 10000 ∧ ∀ H', Same H H' → Q (.bl (agreeB (keysF fs) (keysF gs) (ls.map (·.2)))) H'
abbrev nAgree : List Str := ["one", "other", "looks", "look"]
theorem sc_agree : FnScope nAgree ["one", "other", "looks"] (defScope s_agree) := ⟨rfl, rfl, rfl, by decide +kernel, rfl, by decide +kernel, by decide +kernel⟩
theorem ok_agree {f fe fc fs' pp gp C S : Addr} {fd de dc ds dgp : FuncData} (D : Df K mg "agree" s_agree ["one", "other", "looks"] f fd) (T : Bi mg) (L : StF K S) (Ge : FnOk P w K mg base CX0 1 fe de ["self", "other"] (spEqP C)) (be : Binds K de ["self", "other"] []) (qe : EqC K C fe)
    (hp : PropOf K S "plan" pp gp) (Gp : FnOk P w K mg base CX0 1 gp dgp ["self"] (getSp S (Str.ofString "_plan"))) (bp : Binds K dgp ["self"] [])
    (Dc : Df K mg "check_looks" s_check_looks ["plan", "thing"] fc dc) (Gc : FnOk P w K mg base CX0 4 fc dc ["plan", "thing"] (spCheckL C))
    (ms : Meth K S "seen" fs') (Gs : FnOk P w K mg base CX0 4 fs' ds ["self", "look"] (spSeen P w C S)) (bs : Binds K ds ["self", "look"] []) : FnOk P w K mg base CX0 5 f fd ["one", "other", "looks"] (spAgree P w C S) := by
  refine D.F.ok sc_agree (fun vs H Q E h => ?_) (fun cdv A outer s H vs Q E hr h => ?_)
  · obtain ⟨a, b, l, p, fs, gs, ls, cs, ts, rfl, _⟩ := h; rfl
  · obtain ⟨a, b, l, p, fs, gs, ls, cs, ts, rfl, st, st', fl, gl, pl, okc, okt, ow, ow', hl, la, lo, ll, q⟩ := h
    have fat := st.fat
    have gat := st'.fat
    obtain ⟨dx, pr, fa, us, h1, h2, h3, h3', h4, h5, h6⟩ := id st
    obtain ⟨dx', pr', fa', us', g1, g2, g3, g3', g4, g5, g6⟩ := id st'
    obtain ⟨dp, ct, tt, sz, sp, sh, ks, e1, _⟩ := id pl
    have hr2 : Room (1 + 1) _ := hr.mono (by decide)
    have hu := hu64 hr
    refine ⟨_, pss_cons (ps_if (pt_cmpR (op_neOwn Ge hr2 be qe) (pe_prop (pv 0) L.cl hp Gp hr2 bp .nil pass0 rfl) (pe_prop (pv 1) L.cl hp Gp hr2 bp .nil pass0 rfl) (nomark _)) (pss_one ps_dead) pss_nil)
      (pss_cons (ps_expr (pcall Dc Gc hr (pa_cons (pe_prop (pv 0) L.cl hp Gp hr2 bp .nil pass0 rfl) (pa_cons (pv 2) pa_nil))))
      (pss_one (ps_ret (pe_callB (cr_all rfl) (by rfl) T.all (by decide +kernel) (pa_cons (pe_lc (own := [("look", 3)]) (g := gName 3) (tt := tYes) rfl sc_agree.nd (pi_list (pv 2)) (blkOk_by (N := nAgree) (sc := defScope s_agree) (by decide +kernel))
        (fun _ _ _ _ _ => pg_name (i := 3) sc_agree.nd rfl (Or.inl rfl)) (fun _ _ _ _ _ => pts_nil) (fun _ _ _ _ _ => pe_cmpR (eqDK K hu) (pe_meth (pv 0) L.cl ms Gs hr bs .nil pass0 (pa_cons (pv 3) pa_nil)) (pe_meth (pv 1) L.cl ms Gs hr bs .nil pass0 (pa_cons (pv 3) pa_nil)) (nomark _))) pa_nil))))), ?_⟩
    refine ⟨_, rfl, a, dx, _, rfl, h1, a, dx, _, .ref p, rfl, h1, sf_P, _, rfl, b, dx', _, rfl, g1, b, dx', _, .ref p, rfl, g1, sf_P, p, p, dp, _, rfl, rfl, e1, .inl ⟨_, _, e1⟩, p, p, cs, ts, rfl, pl, okc, okt, .inl ⟨cs, ts, pl, okc, okt, _, rfl, ?_⟩⟩
    rw [decide_eq_true rfl, decide_eq_true rfl]
    refine ⟨false, rfl, iteF ?_⟩
    refine ⟨_, rfl, a, dx, _, rfl, h1, a, dx, _, .ref p, rfl, h1, sf_P, _, rfl, p, l, ls, cs, ts, rfl, pl, okc, okt, hl, la, lo, fun H1 s1 => ?_⟩
    refine ⟨_, rfl, l, rfl, ⟨_, lof (s1 _ _ hl)⟩, fun D nD => ?_⟩
    refine lc_fm (v := lv) (u := fun x => V.bl (decide (seenK (keysF fs) x.2 = seenK (keysF gs) x.2))) (xs := ls) (fun _ => true) (walk_list (K := K) (a := l) (xs := ls.map lv)) nD (fun H' s' => lof (s' _ _ (s1 _ _ hl))) ll (fun x H2 Q1 Q2 hx s2 k1 k2 => ?_) (fun H2 s2 hD2 => ?_)
    · have s12 := s1.trans s2
      have no : (sf p pr fa).lookup (Str.ofString "seen") = none := sf_no (by decide +kernel) (by decide +kernel) (by decide +kernel)
      have no' : (sf p pr' fa').lookup (Str.ofString "seen") = none := sf_no (by decide +kernel) (by decide +kernel) (by decide +kernel)
      refine ⟨rfl, ?_⟩
      refine iteT (B := Q2 H2) ?_
      refine ⟨_, rfl, a, dx, _, rfl, s12 _ _ h1, no, _, rfl, a, p, x, fs, cs, ts, rfl, st.same s12, fl, pl.same s12, okc.same s12, okt.same s12, ow, s12 _ _ (la x hx), lo x hx, fun q1 H3 s3 hq1 => ?_⟩
      have s13 := s12.trans s3
      refine ⟨_, rfl, b, dx', _, rfl, s13 _ _ g1, no', _, rfl, b, p, x, gs, cs, ts, rfl, st'.same s13, gl, pl.same s13, okc.same s13, okt.same s13, ow', s13 _ _ (la x hx), lo x hx, fun q2 H4 s4 hq2 => ?_⟩
      have s14 := s13.trans s4
      exact eq_seen (s4 _ _ hq1) hq2 (fun f hf => (fat f hf).imm (same_imm s14)) (fun f hf => (gat f hf).imm (same_imm s14)) (k1 rfl _ (s3.trans s4))
    · have e : (ls.filter fun _ => true).map (fun x => V.bl (decide (seenK (keysF fs) x.2 = seenK (keysF gs) x.2))) = (ls.map fun x => decide (seenK (keysF fs) x.2 = seenK (keysF gs) x.2)).map V.bl := by
        rw [List.filter_eq_self.mpr (fun _ _ => rfl), List.map_map]; rfl
      rw [e] at hD2
      refine ⟨D, _, rfl, lof hD2, ?_⟩
      have e2 : (ls.map fun x => decide (seenK (keysF fs) x.2 = seenK (keysF gs) x.2)).all id = agreeB (keysF fs) (keysF gs) (ls.map (·.2)) := by
        unfold agreeB; rw [List.all_map, List.all_map]; rfl
      rw [e2]
      exact q _ (s1.trans s2)
end
end As

/-! ## F7 -/
set_option maxHeartbeats 1000000
namespace As
open PySem PySem.Spec PyProof.Rows L2
open PySem.W (dataLe AllAlike Sortable dataLt alike)
theorem facts_max2 {H : Hp} {cs : List CRow} {ts : List TRow} (okc : ColsOk H cs) (okt : TabsOk H (cs.map (·.2.1)) ts) : (ts.flatMap (factsT cs)).length ≤ 288 := by
  have h1 := flat_len (f := factsT cs) (m := 36) (l := ts) fun x hx => by
    have h2 : (factsT cs x).length ≤ 6 * firstN cs x.2.2.2 := factsUp_len (sizeI_le okc)
    have h3 : firstN cs x.2.2.2 ≤ 6 := by unfold firstN; have := sizeI_le okc (x.2.2.2.headD ⟨#[]⟩); omega
    omega
  have := okt.len.2
  have h6 : 36 * ts.length ≤ 36 * 8 := Nat.mul_le_mul_left _ this
  omega
theorem agreeB_symm {a b : List FK} {ls : List LK} : agreeB a b ls = agreeB b a ls := by
  unfold agreeB
  congr 1
  funext l
  exact decide_eq_decide.mpr ⟨Eq.symm, Eq.symm⟩
theorem agreeB_self {a : List FK} {ls : List LK} : agreeB a a ls = true := by unfold agreeB; simp
theorem agreeB_one {a b : List FK} {l : LK} : agreeB a b [l] = decide (seenK a l = seenK b l) := by unfold agreeB; simp
theorem agree_none {a b : List FK} {ls : List LRow} : decide ((ls.filter fun x => !agreeB a b [x.2]).map lv = []) = agreeB a b (ls.map (·.2)) := by
  induction ls with
  | nil => simp [agreeB]
  | cons x ls ih =>
    have e : agreeB a b ((x :: ls).map (·.2)) = (decide (seenK a x.2 = seenK b x.2) && agreeB a b (ls.map (·.2))) := by
      unfold agreeB; rw [List.map_cons, List.all_cons]
    rw [e, ← ih, List.filter_cons, agreeB_one]
    by_cases h : seenK a x.2 = seenK b x.2
    · simp [h]
    · simp [h]
theorem agree_none' {a b : List FK} {ls : List LRow} : decide ((ls.filter fun x => !decide (seenK a x.2 = seenK b x.2)).map lv = []) = agreeB a b (ls.map (·.2)) := by
  rw [← agree_none]
  congr 3
  apply List.filter_congr
  intro x _
  rw [agreeB_one]
section
variable {P : Program} {w : World} {K : PySem.W.Frag} {mg : Str → Option Value} {base : Heap}
/-- _law_present -/
def spPres : Sp := fun vs H Q _ => ∃ (a c e : Addr) (fs : List FRow) (B : Hp), vs = [.ref a, .ref e] ∧ Gd a c B H ∧ B e = some (.lst (fs.map fv)) ∧ (∀ f ∈ fs, FAt B f) ∧ (∀ f ∈ fs, PyData.strOk f.2.2.1 = true) ∧ fs.length ≤ 300 ∧
  ∀ p (gs : List FRow) B' H', Same B B' → Gd a c B' H' → B p = none → B' p = some (.lst (gs.map fv)) → (∀ g ∈ gs, g ∈ fs) → gs.length ≤ 1000 → Q (.ref p) H'
abbrev nPres : List Str := ["state", "every", "way", "some", "fact"]
theorem sc_lpresent : FnScope nPres ["state", "every"] (defScope s_lpresent) := ⟨rfl, rfl, rfl, by decide +kernel, rfl, by decide +kernel, by decide +kernel⟩
theorem ok_lpresent {f fd' fm : Addr} {fd dd dm : FuncData} (D : Df K mg "_law_present" s_lpresent ["state", "every"] f fd) (T : Bi mg) (Dd : Df K mg "_law_draw" s_draw ["state", "size_most"] fd' dd) (Gd' : FnOk P w K mg base CX0 1 fd' dd ["state", "size_most"] spDraw)
    (Dm : Df K mg "_law_mixed" s_mixed ["state", "some"] fm dm) (Gm : FnOk P w K mg base CX0 2 fm dm ["state", "some"] (spMixed K)) : FnOk P w K mg base CX0 3 f fd ["state", "every"] spPres := by
  refine D.F.ok sc_lpresent (fun vs H Q E h => ?_) (fun cdv A outer s H vs Q E hr h => ?_)
  · obtain ⟨a, c, e, fs, B, rfl, _⟩ := h; rfl
  · obtain ⟨a, c, e, fs, B, rfl, g, he, fa, ok, len, q⟩ := h
    have hr1 : Room 1 _ := hr.mono (by decide)
    refine ⟨_, pss_cons (ps_set (i := 2) sc_lpresent.nd rfl (Or.inr rfl) (pcall Dd Gd' hr1 (pa_cons (pv 0) (pa_cons pe_int pa_nil))))
      (pss_cons (ps_setLc (i := 3) (own := [("fact", 4)]) (g := gName 4) rfl sc_lpresent.nd rfl rfl (sw_true rfl rfl rfl (by decide +kernel)) (pi_list (pv 1)) (blkOk_by (N := nPres) (sc := defScope s_lpresent) (by decide +kernel)) (fun _ _ _ _ _ => pg_name (i := 4) sc_lpresent.nd rfl (Or.inl rfl))
        (fun _ _ _ _ _ => pts_one (PW.pt (pw_or (pt_cmpR op_eq (pv 2) pe_int (nomark _)) (pw_or1 (PW.pt (pw_and (pt_cmpR op_gt (pv 2) pe_int (nomark _)) (pw_and1 (pt_cmpR op_gt (pcall Dd Gd' hr1 (pa_cons (pv 0) (pa_cons (pv 2) pa_nil))) pe_int (nomark _))))))))) (fun _ _ _ _ _ => pv 4))
      (pss_cons (ps_if (pt_cmpR op_eq (pv 2) pe_int (nomark _)) (pss_one (ps_set (i := 3) sc_lpresent.nd rfl (Or.inl rfl) (pe_slice sl_list (pcall Dm Gm hr (pa_cons (pv 0) (pa_cons (pv 1) pa_nil))) po_none (po_some pe_int)))) pss_nil)
      (pss_one (ps_ret (pcall Dm Gm hr (pa_cons (pv 0) (pa_cons (pe_op op_cat (pv 3) (pe_slice sl_list (pv 3) po_none (po_some (pcall Dd Gd' hr1 (pa_cons (pv 0) (pa_cons pe_int pa_nil)))))) pa_nil))))))), ?_⟩
    have fln : (fs.map fv).length = fs.length := List.length_map _
    refine ⟨_, rfl, a, c, 6, rfl, g.st, by decide, by decide, fun r H1 r0 r1 st1 fr1 => ?_⟩
    have g1 := g.fr fr1 st1
    refine ⟨_, rfl, e, rfl, ⟨_, lof (g1.ex _ _ he)⟩, fun D hD => ?_⟩
    refine lc_draw (B := B) (H1 := H1) (a := a) (c := c) (n := (fs.map fv).length) (walk_at (K := K) (a := e) (xs := fs.map fv) .non) g1 hD (fun B' H s gd => lof (gd.ex _ _ (s _ _ he))) (Nat.lt_of_le_of_lt (show (fs.map fv).length ≤ 300 by omega) (by decide))
      (fun i acc _ => ∃ gs : List FRow, acc = gs.map fv ∧ gs.length ≤ i ∧ ∀ g ∈ gs, g ∈ fs) ⟨[], rfl, Nat.le_refl _, fun _ z => nomatch z⟩ (fun _ _ _ _ h _ => h) (fun i acc _ ⟨gs, e, l, _⟩ => by rw [e, List.length_map]; exact l) (fun j H4 B4 acc Q1 Q2 hj s4 g4 p4 d4 k1 k2 => ?_) (fun H4 B4 acc s4 g4 d4 p4 => ?_)
    · obtain ⟨gs, rfl, lg, sub⟩ := p4
      have hj2 : j < fs.length := by omega
      have hx : fs[j]? = some fs[j] := List.getElem?_eq_getElem hj2
      rw [getD_map' hx]
      have more : ∃ gs' : List FRow, gs.map fv ++ [fv fs[j]] = gs'.map fv ∧ gs'.length ≤ j + 1 ∧ ∀ g ∈ gs', g ∈ fs := ⟨gs ++ [fs[j]], by rw [List.map_append]; rfl, by rw [List.length_append, List.length_singleton]; omega, fun y hy => by
        rcases List.mem_append.mp hy with hy | hy
        · exact sub y hy
        · rw [List.mem_singleton] at hy; subst hy; exact List.getElem_mem hj2⟩
      have less : ∃ gs' : List FRow, gs.map fv = gs'.map fv ∧ gs'.length ≤ j + 1 ∧ ∀ g ∈ gs', g ∈ fs := ⟨gs, rfl, by omega, sub⟩
      refine ⟨rfl, _, rfl, rfl, _, rfl, ?_⟩
      refine ite2 (fun _ => iteT ⟨_, rfl, k1 _ H4 B4 (Same.refl _) g4 more⟩) (fun _ => ⟨_, rfl, r, 1, rfl, rfl, _, rfl, ite2 (fun hw => ⟨_, rfl, _, rfl, a, c, r, rfl, g4.st, ?_, by omega, fun q5 H5 q0 q1 st5 fr5 => ⟨q5, 0, rfl, rfl, _, rfl, ?_⟩⟩) (fun _ => iteF (k2 H4 B4 (Same.refl _) g4 less))⟩)
      · have := of_decide_eq_true hw; omega
      · have g5 := g4.fr fr5 st5
        exact ite2 (fun _ => ⟨_, rfl, k1 _ H5 B4 (Same.refl _) g5 more⟩) (fun _ => k2 H5 B4 (Same.refl _) g5 less)
    · obtain ⟨gs, rfl, lg, sub⟩ := p4
      rw [fln] at lg
      refine ⟨_, rfl, rfl, _, rfl, ite2 (fun _ => ?_) (fun _ => ?_)⟩
      · refine ⟨_, rfl, _, rfl, a, c, e, fs.map fv, B4, rfl, g4, g4.ex _ _ (s4 _ _ he), by omega, plain_fk (fun y hy => (fa y hy).imm (same_imm s4)) ok, fun m ys Bm Hm pm sm gm nm hm => ?_⟩
        obtain ⟨fm', pfm, rfl⟩ := perm_rows pm fs rfl
        refine ⟨3, rfl, m, _, rfl, lof (gm.ex _ _ hm), fun S1 nS1 => ?_⟩
        rw [show (3 : Int) = ((3 : Nat) : Int) from rfl, cut_take, ← List.map_take]
        have gs1 := gm.add (o := .lst ((fm'.take 3).map fv)) nS1
        have hS1 : (upd Bm S1 (.lst ((fm'.take 3).map fv))) S1 = some (.lst ((fm'.take 3).map fv)) := upd_same
        have sS : Same B (upd Bm S1 (.lst ((fm'.take 3).map fv))) := (s4.trans sm).trans (same_new (gm.free nS1))
        generalize upd Bm S1 (.lst ((fm'.take 3).map fv)) = B5 at gs1 hS1 sS
        generalize upd Hm S1 (.lst ((fm'.take 3).map fv)) = H5 at gs1 ⊢
        have sub5 : ∀ y ∈ fm'.take 3, y ∈ fs := fun y hy => pfm.mem_iff.mp (List.mem_of_mem_take hy)
        have l5 : (fm'.take 3).length ≤ 300 := by rw [List.length_take]; omega
        obtain ⟨zz, ez⟩ : ∃ zz, fm'.take 3 = zz := ⟨_, rfl⟩
        rw [ez] at hS1 sub5 l5
        refine ⟨_, rfl, _, rfl, _, rfl, _, rfl, a, c, 3, rfl, gs1.st, by decide, by decide, fun r2 Ha ra rb sta fra => ⟨r2, rfl, S1, _, rfl, lof ((gs1.fr fra sta).ex _ _ hS1), fun U nU => ?_⟩⟩
        obtain ⟨rn, rfl⟩ : ∃ rn : Nat, r2 = (rn : Int) := ⟨r2.toNat, by omega⟩
        rw [cut_take, ← List.map_take]
        have ga := gs1.fr fra sta
        have gu := ga.new (o := .lst ((zz.take rn).map fv)) nU
        have hU : (upd Ha U (.lst ((zz.take rn).map fv))) U = some (.lst ((zz.take rn).map fv)) := upd_same
        have zl : zz.length + (zz.take rn).length ≤ 302 := by rw [List.length_take]; have := l5; omega
        refine ⟨S1, U, _, _, rfl, rfl, gu.ex _ _ hS1, hU, ?_, fun W nW => ?_⟩
        · rw [List.length_map, List.length_map]; exact Nat.le_trans zl (by decide)
        have gw := gu.new (o := .lst (zz.map fv ++ (zz.take rn).map fv)) nW
        have hW : (upd (upd Ha U (.lst ((zz.take rn).map fv))) W (.lst (zz.map fv ++ (zz.take rn).map fv))) W = some (.lst (zz.map fv ++ (zz.take rn).map fv)) := upd_same
        have subZ : ∀ y ∈ zz ++ zz.take rn, y ∈ fs := fun y hy => by
          rcases List.mem_append.mp hy with hy | hy
          · exact sub5 y hy
          · exact sub5 y (List.mem_of_mem_take hy)
        have eZ : zz.map fv ++ (zz.take rn).map fv = (zz ++ zz.take rn).map fv := by rw [List.map_append]
        refine ⟨a, c, W, zz.map fv ++ (zz.take rn).map fv, B5, rfl, gw, hW, ?_, ?_, fun p ys B6 H6 pm s6 g6 n6 h6 => ?_⟩
        · rw [List.length_append, List.length_map, List.length_map]; omega
        · rw [eZ]; exact plain_fk (fun y hy => (fa y (subZ y hy)).imm (same_imm sS)) fun y hy => ok y (subZ y hy)
        · rw [eZ] at pm
          obtain ⟨gs', pg, rfl⟩ := perm_rows pm (zz ++ zz.take rn) rfl
          refine q p gs' B6 H6 (sS.trans s6) g6 (sS.free (gw.free n6)) h6 (fun y hy => subZ y (pg.mem_iff.mp hy)) ?_
          have := pg.length_eq
          rw [List.length_append] at this
          omega
      · have l5 : gs.length ≤ 300 := by omega
        refine ⟨_, rfl, _, rfl, _, rfl, _, rfl, a, c, 3, rfl, g4.st, by decide, by decide, fun r2 Ha ra rb sta fra => ⟨r2, rfl, D, _, rfl, lof ((g4.fr fra sta).ex _ _ d4), fun U nU => ?_⟩⟩
        obtain ⟨rn, rfl⟩ : ∃ rn : Nat, r2 = (rn : Int) := ⟨r2.toNat, by omega⟩
        rw [cut_take, ← List.map_take]
        have ga := g4.fr fra sta
        have gu := ga.new (o := .lst ((gs.take rn).map fv)) nU
        have hU : (upd Ha U (.lst ((gs.take rn).map fv))) U = some (.lst ((gs.take rn).map fv)) := upd_same
        have zl : gs.length + (gs.take rn).length ≤ 302 := by rw [List.length_take]; have := l5; omega
        refine ⟨D, U, _, _, rfl, rfl, gu.ex _ _ d4, hU, ?_, fun W nW => ?_⟩
        · rw [List.length_map, List.length_map]; exact Nat.le_trans zl (by decide)
        have gw := gu.new (o := .lst (gs.map fv ++ (gs.take rn).map fv)) nW
        have hW : (upd (upd Ha U (.lst ((gs.take rn).map fv))) W (.lst (gs.map fv ++ (gs.take rn).map fv))) W = some (.lst (gs.map fv ++ (gs.take rn).map fv)) := upd_same
        have subZ : ∀ y ∈ gs ++ gs.take rn, y ∈ fs := fun y hy => by
          rcases List.mem_append.mp hy with hy | hy
          · exact sub y hy
          · exact sub y (List.mem_of_mem_take hy)
        have eZ : gs.map fv ++ (gs.take rn).map fv = (gs ++ gs.take rn).map fv := by rw [List.map_append]
        refine ⟨a, c, W, gs.map fv ++ (gs.take rn).map fv, B4, rfl, gw, hW, ?_, ?_, fun p ys B6 H6 pm s6 g6 n6 h6 => ?_⟩
        · rw [List.length_append, List.length_map, List.length_map]; omega
        · rw [eZ]; exact plain_fk (fun y hy => (fa y (subZ y hy)).imm (same_imm s4)) fun y hy => ok y (subZ y hy)
        · rw [eZ] at pm
          obtain ⟨gs', pg, rfl⟩ := perm_rows pm (gs ++ gs.take rn) rfl
          refine q p gs' B6 H6 (s4.trans s6) g6 (s4.free (gw.free n6)) h6 (fun y hy => subZ y (pg.mem_iff.mp hy)) ?_
          have := pg.length_eq
          rw [List.length_append] at this
          omega
end
end As

/-! ## F8 -/
set_option maxHeartbeats 1000000
namespace As
open PySem PySem.Spec PyProof.Rows L2
open PySem.W (dataLe AllAlike Sortable dataLt alike)
theorem lk_plain {K : PySem.W.Frag} {H : Hp} {ls : List LRow} (h : ∀ x ∈ ls, LAt H x) (ok : ∀ x ∈ ls, PyData.strOk x.2.1 = true) : ∀ x ∈ ls.map lv, Plain K H x := plain_lk h ok
/-- what a pair of stores of one plan has -/
structure TwoAt (P : Program) (w : World) (H : Hp) (C S a b p : Addr) (fs gs : List FRow) (cs : List CRow) (ts : List TRow) : Prop where
  s1 : StoreAt P w H S a p fs
  s2 : StoreAt P w H S b p gs
  l1 : fs.length ≤ 1000
  l2 : gs.length ≤ 1000
  pl : PlanAt H C p cs ts
  okc : ColsOk H cs
  okt : TabsOk H (cs.map (·.2.1)) ts
  o1 : OwnF cs ts fs
  o2 : OwnF cs ts gs
theorem TwoAt.same {P : Program} {w : World} {H H' : Hp} {C S a b p : Addr} {fs gs : List FRow} {cs : List CRow} {ts : List TRow} (x : TwoAt P w H C S a b p fs gs cs ts) (e : Same H H') : TwoAt P w H' C S a b p fs gs cs ts :=
  ⟨x.s1.same e, x.s2.same e, x.l1, x.l2, x.pl.same e, x.okc.same e, x.okt.same e, x.o1, x.o2⟩
theorem TwoAt.swap {P : Program} {w : World} {H : Hp} {C S a b p : Addr} {fs gs : List FRow} {cs : List CRow} {ts : List TRow} (x : TwoAt P w H C S a b p fs gs cs ts) : TwoAt P w H C S b a p gs fs cs ts :=
  ⟨x.s2, x.s1, x.l2, x.l1, x.pl, x.okc, x.okt, x.o2, x.o1⟩
theorem TwoAt.fst {P : Program} {w : World} {H : Hp} {C S a b p : Addr} {fs gs : List FRow} {cs : List CRow} {ts : List TRow} (x : TwoAt P w H C S a b p fs gs cs ts) : TwoAt P w H C S a a p fs fs cs ts :=
  ⟨x.s1, x.s1, x.l1, x.l1, x.pl, x.okc, x.okt, x.o1, x.o1⟩
/-- a list of looks of the plan -/
structure LksAt (H : Hp) (l : Addr) (ls : List LRow) (cs : List CRow) (ts : List TRow) : Prop where
  h : H l = some (.lst (ls.map lv))
  at_ : ∀ x ∈ ls, LAt H x
  own : ∀ x ∈ ls, ∃ r ∈ ts, LofT cs r x.2
  len : ls.length ≤ 1000
theorem LksAt.same {H H' : Hp} {l : Addr} {ls : List LRow} {cs : List CRow} {ts : List TRow} (x : LksAt H l ls cs ts) (e : Same H H') : LksAt H' l ls cs ts := ⟨e _ _ x.h, fun z hz => e _ _ (x.at_ z hz), x.own, x.len⟩
theorem LksAt.nm {H H' : Hp} {l : Addr} {ls : List LRow} {cs : List CRow} {ts : List TRow} (x : LksAt H l ls cs ts) (okt : TabsOk H' (cs.map (·.2.1)) ts) : ∀ z ∈ ls, PyData.strOk z.2.1 = true := fun z hz => by
  obtain ⟨r, hr, hk⟩ := x.own z hz
  rw [hk.1]; exact name_ok (okt.nm r hr)
section
variable {P : Program} {w : World} {K : PySem.W.Frag} {mg : Str → Option Value} {base : Heap}
/-- _law_pair_right -/
def spLPair (P : Program) (w : World) (C S : Addr) : Sp := fun vs H Q _ => ∃ (a b l e p : Addr) (fs gs : List FRow) (ls es : List LRow) (cs : List CRow) (ts : List TRow), vs = [.ref a, .ref b, .ref l, .ref e] ∧ TwoAt P w H C S a b p fs gs cs ts ∧ LksAt H l ls cs ts ∧ LksAt H e es cs ts ∧
  agreeB (keysF fs) (keysF gs) (es.map (·.2)) = decide (keysF fs = keysF gs) ∧ ∀ H', Same H H' → Q (.bl true) H'
abbrev nLPair : List Str := ["one", "two", "picked", "each", "told", "look"]
theorem sc_lpair : FnScope nLPair ["one", "two", "picked", "each"] (defScope s_lpair_right) := ⟨rfl, rfl, rfl, by decide +kernel, rfl, by decide +kernel, by decide +kernel⟩
theorem ok_lpair {f fa fs' fe C S : Addr} {fd da ds de : FuncData} (D : Df K mg "_law_pair_right" s_lpair_right ["one", "two", "picked", "each"] f fd) (L : StF K S) (Da : Df K mg "agree" s_agree ["one", "other", "looks"] fa da) (Ga : FnOk P w K mg base CX0 5 fa da ["one", "other", "looks"] (spAgree P w C S))
    (ms : Meth K S "seen" fs') (Gs : FnOk P w K mg base CX0 4 fs' ds ["self", "look"] (spSeen P w C S)) (bs : Binds K ds ["self", "look"] [])
    (Ge : FnOk P w K mg base CX0 2 fe de ["self", "other"] (spSEq P w C S)) (be : Binds K de ["self", "other"] []) (qe : EqC K S fe) : FnOk P w K mg base CX0 6 f fd ["one", "two", "picked", "each"] (spLPair P w C S) := by
  refine D.F.ok sc_lpair (fun vs H Q E h => ?_) (fun cdv A outer s H vs Q E hr h => ?_)
  · obtain ⟨a, b, l, e, p, fs, gs, ls, es, cs, ts, rfl, _⟩ := h; rfl
  · obtain ⟨a, b, l, e, p, fs, gs, ls, es, cs, ts, rfl, tw, lk, ek, all, q⟩ := h
    have hr2 : Room 2 _ := hr.mono (by decide)
    have hr4 : Room 4 _ := hr.mono (by decide)
    have hu := hu64 hr
    refine ⟨_, pss_cons (ps_set (i := 4) sc_lpair.nd rfl (Or.inl rfl) (pcall Da Ga hr (pa_cons (pv 0) (pa_cons (pv 1) (pa_cons (pv 2) pa_nil)))))
      (pss_cons (ps_if (pt_cmpR op_ne (pv 4) (pcall Da Ga hr (pa_cons (pv 1) (pa_cons (pv 0) (pa_cons (pv 2) pa_nil)))) (nomark _)) (pss_one (ps_ret pe_bl)) pss_nil)
      (pss_cons (ps_if (pt_cmpR op_ne (pv 4) (pe_cmpR (op_eqD hu) (pe_lc (own := [("look", 5)]) (g := gName 5) rfl sc_lpair.nd (pi_list (pv 2)) (blkOk_by (N := nLPair) (sc := defScope s_lpair_right) (by decide +kernel)) (fun _ _ _ _ _ => pg_name (i := 5) sc_lpair.nd rfl (Or.inl rfl))
          (fun _ _ _ _ _ => pts_one (pt_not (pt_val (pcall Da Ga hr (pa_cons (pv 0) (pa_cons (pv 1) (pa_cons (pe_lst (pa_cons (pv 5) pa_nil)) pa_nil))))))) (fun _ _ _ _ _ => pv 5)) (pe_lst pa_nil) (nomark _)) (nomark _)) (pss_one (ps_ret pe_bl)) pss_nil)
      (pss_cons (ps_if (pt_cmpR op_ne (pv 4) (pe_cmpR (op_eqD hu) (pe_lc (own := [("look", 5)]) (g := gName 5) rfl sc_lpair.nd (pi_list (pv 2)) (blkOk_by (N := nLPair) (sc := defScope s_lpair_right) (by decide +kernel)) (fun _ _ _ _ _ => pg_name (i := 5) sc_lpair.nd rfl (Or.inl rfl))
          (fun _ _ _ _ _ => pts_one (pt_cmpR (neDK K hu) (pe_meth (pv 0) L.cl ms Gs hr4 bs .nil pass0 (pa_cons (pv 5) pa_nil)) (pe_meth (pv 1) L.cl ms Gs hr4 bs .nil pass0 (pa_cons (pv 5) pa_nil)) (nomark _))) (fun _ _ _ _ _ => pv 5)) (pe_lst pa_nil) (nomark _)) (nomark _)) (pss_one (ps_ret pe_bl)) pss_nil)
      (pss_one (ps_ret (pe_and (pe_cmpR op_eq (pcall Da Ga hr (pa_cons (pv 0) (pa_cons (pv 1) (pa_cons (pv 3) pa_nil)))) (pe_cmpR (op_eqOwn Ge hr2 be qe) (pv 0) (pv 1) (nomark _)) (nomark _))
        (pe_and (pe_cmpR op_isBl (pcall Da Ga hr (pa_cons (pv 0) (pa_cons (pv 0) (pa_cons (pv 2) pa_nil)))) pe_bl (nomark _)) (pe_one (pe_cmpR op_isBl (pcall Da Ga hr (pa_cons (pv 0) (pa_cons (pv 1) (pa_cons (pe_lst pa_nil) pa_nil)))) pe_bl (nomark _)))))))))), ?_⟩
    have nm := lk.nm tw.okt
    obtain ⟨t, et⟩ : ∃ t, agreeB (keysF fs) (keysF gs) (ls.map (·.2)) = t := ⟨_, rfl⟩
    refine ⟨_, rfl, _, rfl, _, rfl, ⟨_, _, _, _, _, _, _, _, _, rfl, tw.s1, tw.s2, Nat.le_trans tw.l1 (by decide), Nat.le_trans tw.l2 (by decide), tw.pl, tw.okc, tw.okt, tw.o1, tw.o2, lk.h, lk.at_, lk.own, Nat.le_trans lk.len (by decide), fun H1 s1 => ?_⟩⟩
    rw [et]
    refine ⟨_, rfl, _, rfl, _, rfl, _, rfl, ⟨_, _, _, _, _, _, _, _, _, rfl, (tw.same s1).swap.s1, (tw.same s1).swap.s2, Nat.le_trans (tw.same s1).swap.l1 (by decide), Nat.le_trans (tw.same s1).swap.l2 (by decide), (tw.same s1).swap.pl, (tw.same s1).swap.okc, (tw.same s1).swap.okt, (tw.same s1).swap.o1, (tw.same s1).swap.o2, (lk.same s1).h, (lk.same s1).at_, (lk.same s1).own, Nat.le_trans (lk.same s1).len (by decide), fun H2 s2 => ?_⟩⟩
    rw [agreeB_symm, et]
    refine ⟨by cases t <;> rfl, _, rfl, ?_⟩
    rw [decide_eq_true rfl]
    refine iteF ?_
    have s12 := s1.trans s2
    -- the looks that do not agree
    refine ⟨_, rfl, _, rfl, l, rfl, ⟨_, lof (s12 _ _ lk.h)⟩, fun D nD => ?_⟩
    refine lc_filter (v := lv) (xs := ls) (fun x => !agreeB (keysF fs) (keysF gs) [x.2]) (walk_list (K := K) (a := l) (xs := ls.map lv)) nD (fun H' s' => lof (s' _ _ (s12 _ _ lk.h))) (Nat.le_trans lk.len (by decide)) (fun x H3 Q1 Q2 hx s3 k1 k2 => ?_) (fun H3 s3 hD3 => ?_)
    · have s13 := s12.trans s3
      refine ⟨rfl, _, rfl, _, rfl, _, rfl, by show 1 ≤ sizeLine; decide, fun n1 hn1 => ?_⟩
      have s4 := s13.trans (same_new (o := .lst [lv x]) hn1)
      have h4 : (upd H3 n1 (.lst [lv x])) n1 = some (.lst ([x].map lv)) := upd_same
      have s34 : Same H3 (upd H3 n1 (.lst [lv x])) := same_new hn1
      generalize upd H3 n1 (.lst [lv x]) = H4 at s4 h4 s34 ⊢
      have lk1 : LksAt H4 n1 [x] cs ts := ⟨h4, (fun z hz => by rw [List.mem_singleton] at hz; subst hz; exact s4 _ _ (lk.at_ z hx)), (fun z hz => by rw [List.mem_singleton] at hz; subst hz; exact lk.own z hx), by show 1 ≤ 1000; decide⟩
      refine ⟨_, _, _, _, _, _, _, _, _, rfl, (tw.same s4).s1, (tw.same s4).s2, Nat.le_trans (tw.same s4).l1 (by decide), Nat.le_trans (tw.same s4).l2 (by decide), (tw.same s4).pl, (tw.same s4).okc, (tw.same s4).okt, (tw.same s4).o1, (tw.same s4).o2, lk1.h, lk1.at_, lk1.own, Nat.le_trans lk1.len (by decide), fun H5 s5 => ?_⟩
      · show ∃ c, V.bl (agreeB (keysF fs) (keysF gs) [x.2]) = .bl c ∧ _
        refine ⟨_, rfl, ?_⟩
        cases hp : agreeB (keysF fs) (keysF gs) [x.2] with
        | false => exact iteT ⟨_, rfl, k1 (by rw [hp]; rfl) _ (s34.trans s5)⟩
        | true => exact iteF (k2 (by rw [hp]; rfl) _ (s34.trans s5))
    have s13 := s12.trans s3
    refine ⟨Nat.zero_le _, fun n2 hn2 => ?_⟩
    have s4 := s13.trans (same_new (o := .lst []) hn2)
    have hD4 := (same_new (o := .lst []) hn2) _ _ hD3
    have h4 : (upd H3 n2 (.lst [])) n2 = some (.lst []) := upd_same
    generalize upd H3 n2 (.lst []) = H4 at s4 hD4 h4 ⊢
    refine eq_nil (lk_plain (K := K) (H := H4) (ls := ls.filter fun x => !agreeB (keysF fs) (keysF gs) [x.2]) (fun z hz => s4 _ _ (lk.at_ z (List.mem_filter.mp hz).1)) (fun z hz => nm z (List.mem_filter.mp hz).1)) (Same.refl _) hD4 h4 ?_
    rw [agree_none, et]
    refine ⟨by cases t <;> rfl, _, rfl, ?_⟩
    rw [decide_eq_true rfl]
    refine iteF ?_
    -- the looks that see otherwise
    refine ⟨_, rfl, _, rfl, l, rfl, ⟨_, lof (s4 _ _ lk.h)⟩, fun D' nD' => ?_⟩
    refine lc_filter (v := lv) (xs := ls) (fun x => !decide (seenK (keysF fs) x.2 = seenK (keysF gs) x.2)) (walk_list (K := K) (a := l) (xs := ls.map lv)) nD' (fun H' s' => lof (s' _ _ (s4 _ _ lk.h))) (Nat.le_trans lk.len (by decide)) (fun x H5 Q1 Q2 hx s5 k1 k2 => ?_) (fun H5 s5 hD5 => ?_)
    · have e5 := s4.trans s5
      have tw5 := tw.same e5
      obtain ⟨dx, pr, fa, us, h1, _⟩ := id tw5.s1
      obtain ⟨dx', pr', fa', us', g1, _⟩ := id tw5.s2
      have no : (sf p pr fa).lookup (Str.ofString "seen") = none := sf_no (by decide +kernel) (by decide +kernel) (by decide +kernel)
      have no' : (sf p pr' fa').lookup (Str.ofString "seen") = none := sf_no (by decide +kernel) (by decide +kernel) (by decide +kernel)
      refine ⟨rfl, _, rfl, a, dx, _, rfl, h1, no, _, rfl, ⟨_, _, _, _, _, _, rfl, tw5.s1, Nat.le_trans tw5.l1 (by decide), tw5.pl, tw5.okc, tw5.okt, tw5.o1, (e5 _ _ (lk.at_ x hx)), (lk.own x hx), fun q1 H6 s6 hq1 => ?_⟩⟩
      refine ⟨_, rfl, b, dx', _, rfl, s6 _ _ g1, no', _, rfl, ⟨_, _, _, _, _, _, rfl, (tw5.same s6).swap.s1, Nat.le_trans (tw5.same s6).swap.l1 (by decide), (tw5.same s6).swap.pl, (tw5.same s6).swap.okc, (tw5.same s6).swap.okt, (tw5.same s6).swap.o1, (s6 _ _ (e5 _ _ (lk.at_ x hx))), (lk.own x hx), fun q2 H7 s7 hq2 => ?_⟩⟩
      have s57 := s6.trans s7
      refine ne_seen (s7 _ _ hq1) hq2 (fun f hf => (tw5.s1.fat f hf).imm (same_imm s57)) (fun f hf => (tw5.s2.fat f hf).imm (same_imm s57)) ⟨_, rfl, ?_⟩
      cases hp : decide (seenK (keysF fs) x.2 = seenK (keysF gs) x.2) with
      | false => exact iteT ⟨_, rfl, k1 (by rw [hp]; rfl) _ s57⟩
      | true => exact iteF (k2 (by rw [hp]; rfl) _ s57)
    have e5 := s4.trans s5
    refine ⟨Nat.zero_le _, fun n3 hn3 => ?_⟩
    have s6 := e5.trans (same_new (o := .lst []) hn3)
    have hD6 := (same_new (o := .lst []) hn3) _ _ hD5
    have h6 : (upd H5 n3 (.lst [])) n3 = some (.lst []) := upd_same
    generalize upd H5 n3 (.lst []) = H6 at s6 hD6 h6 ⊢
    refine eq_nil (lk_plain (K := K) (H := H6) (ls := ls.filter fun x => !decide (seenK (keysF fs) x.2 = seenK (keysF gs) x.2)) (fun z hz => s6 _ _ (lk.at_ z (List.mem_filter.mp hz).1)) (fun z hz => nm z (List.mem_filter.mp hz).1)) (Same.refl _) hD6 h6 ?_
    rw [agree_none', et]
    refine ⟨by cases t <;> rfl, _, rfl, ?_⟩
    rw [decide_eq_true rfl]
    refine iteF ?_
    -- all looks
    refine ⟨_, rfl, _, rfl, _, rfl, ⟨_, _, _, _, _, _, _, _, _, rfl, (tw.same s6).s1, (tw.same s6).s2, Nat.le_trans (tw.same s6).l1 (by decide), Nat.le_trans (tw.same s6).l2 (by decide), (tw.same s6).pl, (tw.same s6).okc, (tw.same s6).okt, (tw.same s6).o1, (tw.same s6).o2, (ek.same s6).h, (ek.same s6).at_, (ek.same s6).own, Nat.le_trans (ek.same s6).len (by decide), fun H7 s7 => ?_⟩⟩
    have tw7 := tw.same (s6.trans s7)
    obtain ⟨dx, pr, fa, us, h1, _⟩ := id tw7.s1
    obtain ⟨dx', pr', fa', us', g1, _⟩ := id tw7.s2
    refine ⟨_, rfl, _, rfl, a, b, dx, _, rfl, rfl, h1, .inl ⟨_, _, g1⟩, ⟨_, _, _, _, _, _, _, rfl, tw7.s1, tw7.s2, tw7.pl, tw7.okc, tw7.okt, tw7.o1, tw7.o2, ⟨_, rfl, ?_⟩⟩⟩
    rw [all]
    refine ⟨by generalize decide (keysF fs = keysF gs) = z; cases z <;> rfl, ?_⟩
    have e9 : decide (V.bl (decide (keysF fs = keysF gs)) = V.bl (id (decide (keysF fs = keysF gs)))) = true := decide_eq_true rfl
    rw [e9]
    refine ⟨_, rfl, iteT ?_⟩
    refine ⟨_, rfl, _, rfl, _, rfl, ⟨_, _, _, _, _, _, _, _, _, rfl, tw7.fst.s1, tw7.fst.s2, Nat.le_trans tw7.fst.l1 (by decide), Nat.le_trans tw7.fst.l2 (by decide), tw7.fst.pl, tw7.fst.okc, tw7.fst.okt, tw7.fst.o1, tw7.fst.o2, (lk.same (s6.trans s7)).h, (lk.same (s6.trans s7)).at_, (lk.same (s6.trans s7)).own, Nat.le_trans (lk.same (s6.trans s7)).len (by decide), fun H8 s8 => ?_⟩⟩
    rw [agreeB_self]
    refine ⟨true, true, rfl, rfl, ?_⟩
    rw [decide_eq_true rfl]
    refine ⟨_, rfl, iteT ?_⟩
    refine ⟨_, rfl, _, rfl, Nat.zero_le _, fun n4 hn4 => ?_⟩
    have s9 := (s6.trans (s7.trans s8)).trans (same_new (o := .lst []) hn4)
    have lk0 : LksAt (upd H8 n4 (.lst [])) n4 [] cs ts := ⟨upd_same, (fun _ z => nomatch z), (fun _ z => nomatch z), Nat.zero_le _⟩
    refine ⟨_, _, _, _, _, _, _, _, _, rfl, (tw.same s9).s1, (tw.same s9).s2, Nat.le_trans (tw.same s9).l1 (by decide), Nat.le_trans (tw.same s9).l2 (by decide), (tw.same s9).pl, (tw.same s9).okc, (tw.same s9).okt, (tw.same s9).o1, (tw.same s9).o2, lk0.h, lk0.at_, lk0.own, Nat.le_trans lk0.len (by decide), fun H9 s10 => ?_⟩
    refine ⟨true, true, rfl, rfl, ?_⟩
    rw [decide_eq_true rfl]
    exact q _ (s9.trans s10)
end
end As

/-! ## F9 -/
namespace As
open PySem PySem.Spec PyProof.Rows L2
open PySem.W (dataLe AllAlike Sortable dataLt alike)
/-! which stores agree -/
theorem agreeB_vec {a b : List FK} {ls : List LK} : agreeB a b ls = decide (ls.map (seenK a) = ls.map (seenK b)) := by
  induction ls with
  | nil => simp [agreeB]
  | cons l ls ih =>
    have e : agreeB a b (l :: ls) = (decide (seenK a l = seenK b l) && agreeB a b ls) := by unfold agreeB; rw [List.all_cons]
    rw [e, ih, List.map_cons, List.map_cons]
    by_cases h : seenK a l = seenK b l
    · simp [h]
    · simp [h]
theorem three {α : Type} [DecidableEq α] (x y z : α) : ([decide (z = x), decide (x = y), decide (y = z)].count false) ≠ 1 := by
  by_cases h1 : z = x
  · subst h1
    by_cases h2 : z = y
    · subst h2; simp
    · have h3 : ¬ y = z := fun e => h2 e.symm
      simp [h2, h3]
  · by_cases h2 : x = y
    · subst h2
      have h3 : ¬ x = z := fun e => h1 e.symm
      simp [h1, h3]
    · by_cases h3 : y = z
      · subst h3; have h4 : ¬ x = y := h2; simp [h1, h2]
      · simp [h1, h2, h3]
theorem agree_three {a b c : List FK} {ls : List LK} : ([agreeB c a ls, agreeB a b ls, agreeB b c ls].count false) ≠ 1 := by
  rw [agreeB_vec, agreeB_vec, agreeB_vec]; exact three _ _ _
def OwnK (cs : List CRow) (ts : List TRow) (ks : List FK) : Prop := ∀ k ∈ ks, ∃ r ∈ ts, OfT cs r k
theorem OwnF.keys {cs : List CRow} {ts : List TRow} {fs : List FRow} (h : OwnF cs ts fs) : OwnK cs ts (keysF fs) := fun k hk => by
  obtain ⟨f, hf, rfl⟩ := List.mem_map.mp hk; exact h f hf
section
variable {cs : List CRow} {ts : List TRow} (nd : (ts.map (·.2.1)).Nodup) {els : List LK} (all : ∀ l, l ∈ els ↔ l ∈ ts.flatMap (looksT cs))
include nd all
theorem side_in {k : FK} {r : TRow} (hr : r ∈ ts) (hk : OfT cs r k) {l : LK} : l ∈ sidesOf k ↔ l ∈ els ∧ seesB l k = true := by
  rw [← looks_filter nd hr hk, List.mem_filter, all]
omit nd all in
theorem seenK_mem {ks : List FK} {l : LK} {k : FK} (e : l.1 = k.1) (hs : seesB l k = true) : k.2 ∈ seenK ks l ↔ k ∈ ks := by
  unfold seenK
  constructor
  · intro h
    obtain ⟨g, hg, e2⟩ := List.mem_map.mp h
    obtain ⟨h1, h2⟩ := List.mem_filter.mp hg
    unfold seesB at h2
    rw [Bool.and_eq_true] at h2
    have e3 := of_decide_eq_true h2.1
    have : g = k := Prod.ext (by rw [← e3, e]) e2
    rw [← this]; exact h1
  · intro h
    exact List.mem_map.mpr ⟨k, List.mem_filter.mpr ⟨h, hs⟩, rfl⟩
omit nd all in
theorem sees_name {l : LK} {k : FK} (h : seesB l k = true) : l.1 = k.1 := by
  unfold seesB at h
  rw [Bool.and_eq_true] at h
  exact of_decide_eq_true h.1
theorem all_sub {a b : List FK} (oa : OwnK cs ts a) (h : ∀ l ∈ els, seenK a l = seenK b l) : ∀ k ∈ a, k ∈ b := fun k hk => by
  obtain ⟨r, hr, ho⟩ := oa k hk
  have ne : (sidesOf k).length ≠ 0 := by rw [sides_len ho]; have := (oft_len ho).2.2; omega
  obtain ⟨l, hl⟩ : ∃ l, l ∈ sidesOf k := by
    cases e : sidesOf k with
    | nil => rw [e] at ne; exact absurd rfl ne
    | cons x xs => exact ⟨x, List.mem_cons_self⟩
  obtain ⟨h1, h2⟩ := (side_in nd all hr ho).mp hl
  have e := sees_name h2
  rw [← seenK_mem e h2, ← h l h1, seenK_mem e h2]; exact hk
theorem agree_all {a b : List FK} (oa : OwnK cs ts a) (ob : OwnK cs ts b) (sa : Asc a) (sb : Asc b) : agreeB a b els = decide (a = b) := by
  by_cases h : a = b
  · subst h; rw [agreeB_self]; simp
  · rw [decide_eq_false h]
    cases e : agreeB a b els with
    | false => rfl
    | true =>
      refine absurd ?_ h
      unfold agreeB at e
      have e2 : ∀ l ∈ els, seenK a l = seenK b l := fun l hl => of_decide_eq_true (List.all_eq_true.mp e l hl)
      exact asc_eq sa sb fun k => ⟨all_sub nd all oa e2 k, all_sub nd all ob (fun l hl => (e2 l hl).symm) k⟩
/-- a fact more or less: the looks that see it tell, no others -/
theorem change_rest {a b : List FK} (sa : Asc a) (sb : Asc b) {k : FK} {r : TRow} (hr : r ∈ ts) (ho : OfT cs r k) (h : ∀ x, x ≠ k → (x ∈ a ↔ x ∈ b)) {ls : List LK} (hl : ∀ l ∈ ls, l ∈ els ∧ l ∉ sidesOf k) : agreeB a b ls = true := by
  unfold agreeB
  rw [List.all_eq_true]
  intro l hm
  refine decide_eq_true ?_
  obtain ⟨h1, h2⟩ := hl l hm
  have ns : seesB l k = false := by
    cases e : seesB l k with
    | false => rfl
    | true => exact absurd ((side_in nd all hr ho).mpr ⟨h1, e⟩) h2
  unfold seenK
  congr 1
  refine asc_eq (asc_filter _ sa) (asc_filter _ sb) fun x => ?_
  rw [List.mem_filter, List.mem_filter]
  by_cases hx : x = k
  · subst hx; simp [ns]
  · rw [h x hx]
theorem change_own {a b : List FK} {k : FK} {r : TRow} (hr : r ∈ ts) (ho : OfT cs r k) (h : k ∈ a ↔ ¬ k ∈ b) {l : LK} (hl : l ∈ sidesOf k) : agreeB a b [l] = false := by
  obtain ⟨_, h2⟩ := (side_in nd all hr ho).mp hl
  have e := sees_name h2
  rw [agreeB_one]
  refine decide_eq_false fun z => ?_
  have h3 := seenK_mem (ks := a) e h2
  rw [z, seenK_mem e h2] at h3
  by_cases hb : k ∈ b
  · exact (h.mp (h3.mp hb)) hb
  · exact hb (h3.mpr (h.mpr hb))
end
theorem nd_len {α : Type} [DecidableEq α] : ∀ {l1 l2 : List α}, l1.Nodup → (∀ x ∈ l1, x ∈ l2) → l1.length ≤ l2.length
  | [], _, _, _ => Nat.zero_le _
  | a :: t, l2, nd, h => by
    rw [List.nodup_cons] at nd
    have ha := h a List.mem_cons_self
    have ih := nd_len (l1 := t) (l2 := l2.erase a) nd.2 fun x hx => by
      have hne : x ≠ a := fun e => nd.1 (e ▸ hx)
      exact (List.mem_erase_of_ne hne).mpr (h x (List.mem_cons_of_mem _ hx))
    have := List.length_erase_of_mem ha
    have := List.length_pos_of_mem ha
    rw [List.length_cons]; omega
end As

/-! ## A14 -/
namespace As
open PySem PySem.Spec PyProof.Rows L2
/-- isinstance(e, (A, B, ..)), e an error that is known -/
def rIsXT (K : PySem.W.Frag) : List V → Hp → VK → Prop := fun xs H Q => ∃ (a D tp : Addr) (cs : List V) (us : List Value) (b : Bool), xs = [.ref a, .ref tp] ∧ H tp = some (.tup cs) ∧ Paired ClsV cs us ∧ H a = some (ExcO a (.ref D) none) ∧ ExcC K D ∧ PySem.W.kitAny K (.ref D) us = some b ∧ Q (.bl b) H
theorem call_isXT {X : Cx} : CallR X (.builtin "isinstance") (rIsXT X.K) := by
  rintro pins s σ H xs us Q I r ⟨a, D, tp, cs, ws, b, rfl, hT, k, ha, C, fits, q⟩
  obtain ⟨u1, u2, rfl, r1, r2⟩ := vals2 r
  cases (show u1 = Value.ref a from r1)
  cases (show u2 = Value.ref tp from r2)
  obtain ⟨_, its, rv, ⟨kc, kd, kt, ks⟩, at1, c1, n, d1⟩ := (show ObjOk X.prog X.w H s.heap tp (.tup cs) from I.hok tp _ hT)
  cases ClsV.all k rv
  cases (show kc = _ from c1)
  cases (show kt = _ from d1)
  obtain ⟨oe, vs, at2, z, f⟩ := (I.hok a _ ha).1
  exact PySem.W.kia_tup (PySem.W.handS_kitx_exc C.hg C.hk C.hs C.hd C.ha C.hn C.ht C.hm) I.kIn (inst_at at2 z f) at1 fits (fun z => nomatch z) fun tk => ⟨.bl b, H, I.tok tk, rfl, q⟩
theorem dp_bools {K : PySem.W.Frag} {H : Hp} : ∀ {bs : List Bool}, DpAll K H (bs.map V.bl) (bs.map .bool)
  | [] => .nil
  | b :: _ => .cons (.bl b) dp_bools
theorem bools_all : ∀ {bs : List Bool}, (bs.map PyData.bool).all Shape.bool.has = true
  | [] => rfl
  | b :: bs => by rw [List.map_cons, List.all_cons, bools_all]; rfl
theorem count_bools : ∀ {bs : List Bool}, countIn (.bool true) (bs.map PyData.bool) = (bs.count true : Nat)
  | [] => rfl
  | b :: bs => by
    rw [List.map_cons, countIn, count_bools, List.count_cons]
    cases b <;> simp [same] <;> omega
/-- xs.count(True), xs a list of bools -/
def rCntB (K : PySem.W.Frag) : V → List V → Hp → VK → Prop := fun x xs H Q => ∃ (p : Addr) (bs : List Bool), x = .ref p ∧ xs = [.bl true] ∧ SqL K H p (bs.map V.bl) ∧ Q (.int (bs.count true : Nat)) H
theorem mt_countB {X : Cx} : MtR X "list.count" (rCntB X.K) := by
  intro pins s σ H x xs v us Q I rx rxs h
  obtain ⟨p, bs, rfl, rfl, hl, q⟩ := h
  cases rx
  obtain ⟨u, rfl, ru⟩ := rxs.one
  cases ru
  obtain ⟨its, rv, pl, hz⟩ := I.list hl
  obtain ⟨as, ra⟩ := Dp.readsAll I (bs.map .bool) (bs.map V.bl) its dp_bools rv
  refine count_list_bools pl.isList ra bools_all ⟨.int (bs.count true : Nat), H, I.tok _, ⟨_, by rw [count_bools]⟩, q⟩
end As

/-! ## A21 -/
namespace As
open PySem PySem.Spec PyProof.Rows L2
theorem count_falses : ∀ {bs : List Bool}, countIn (.bool false) (bs.map PyData.bool) = (bs.count false : Nat)
  | [] => rfl
  | b :: bs => by
    rw [List.map_cons, countIn, count_falses, List.count_cons]
    cases b <;> simp [same] <;> omega
/-- xs.count(False), xs a list of bools -/
def rCntF (K : PySem.W.Frag) : V → List V → Hp → VK → Prop := fun x xs H Q => ∃ (p : Addr) (bs : List Bool), x = .ref p ∧ xs = [.bl false] ∧ SqL K H p (bs.map V.bl) ∧ Q (.int (bs.count false : Nat)) H
theorem mt_countF {X : Cx} : MtR X "list.count" (rCntF X.K) := by
  intro pins s σ H x xs v us Q I rx rxs h
  obtain ⟨p, bs, rfl, rfl, hl, q⟩ := h
  cases rx
  obtain ⟨u, rfl, ru⟩ := rxs.one
  cases ru
  obtain ⟨its, rv, pl, hz⟩ := I.list hl
  obtain ⟨as, ra⟩ := Dp.readsAll I (bs.map .bool) (bs.map V.bl) its dp_bools rv
  refine count_list_bools pl.isList ra bools_all ⟨.int (bs.count false : Nat), H, I.tok _, ⟨_, by rw [count_falses]⟩, q⟩
end As

/-! ## F10 -/
set_option maxHeartbeats 2000000
namespace As
open PySem PySem.Spec PyProof.Rows L2
open PySem.W (dataLe AllAlike Sortable dataLt alike)
abbrev nLaw : List Str := ["script", "state", "turn", "columns", "tables", "plan", "every", "each", "base", "group", "step", "some", "later", "k", "picked", "told", "fact", "other", "own", "rest", "look"]
theorem sc_law : FnScope nLaw ["script"] (defScope s_law) := ⟨rfl, rfl, rfl, by decide +kernel, rfl, by decide +kernel, by decide +kernel⟩
theorem StoreAt.sub {P : Program} {w : World} {H B : Hp} {S s p : Addr} {fs : List FRow} (h : StoreAt P w H S s p fs) (t : ∀ b o, H b = some o → (∀ xs, o ≠ .lst xs) → B b = some o) : StoreAt P w B S s p fs := by
  obtain ⟨dx, pr, fa, us, h1, h2, h3, h3', h4, h5, h6⟩ := h
  exact ⟨dx, pr, fa, us, t _ _ h1 (fun _ z => nomatch z), t _ _ h2 (fun _ z => nomatch z), fun f hf => ⟨t _ _ (h3 f hf).1 (fun _ z => nomatch z), t _ _ (h3 f hf).2 (fun _ z => nomatch z)⟩, h3', t _ _ h4 (fun _ z => nomatch z), h5, h6⟩
/-- a store of the law: its place, its facts -/
abbrev GSt := Addr × List FRow
def gv (g : GSt) : V := .ref g.1
structure GOk (P : Program) (w : World) (B : Hp) (S p : Addr) (fs : List FRow) (g : GSt) : Prop where
  at_ : StoreAt P w B S g.1 p g.2
  sub : ∀ f ∈ g.2, f ∈ fs
theorem GOk.same {P : Program} {w : World} {B B' : Hp} {S p : Addr} {fs : List FRow} {g : GSt} (h : GOk P w B S p fs g) (e : Same B B') : GOk P w B' S p fs g := ⟨h.at_.same e, h.sub⟩
theorem GOk.asc {P : Program} {w : World} {B : Hp} {S p : Addr} {fs : List FRow} {g : GSt} (h : GOk P w B S p fs g) : Asc (keysF g.2) := by
  obtain ⟨dx, pr, fa, us, h1, h2, h3, h3', h4, h5, h6⟩ := h.at_
  exact h6
theorem GOk.len {P : Program} {w : World} {B : Hp} {S p : Addr} {fs : List FRow} {g : GSt} (h : GOk P w B S p fs g) : g.2.length ≤ fs.length := by
  have := nd_len (l1 := keysF g.2) (l2 := keysF fs) h.asc.1 fun k hk => by
    obtain ⟨f, hf, rfl⟩ := List.mem_map.mp hk
    exact List.mem_map.mpr ⟨f, h.sub f hf, rfl⟩
  unfold keysF at this
  rw [List.length_map, List.length_map] at this
  exact this
theorem GOk.own {P : Program} {w : World} {B : Hp} {S p : Addr} {fs : List FRow} {g : GSt} {cs : List CRow} {ts : List TRow} (h : GOk P w B S p fs g) (o : OwnF cs ts fs) : OwnF cs ts g.2 := fun f hf => o f (h.sub f hf)
theorem GOk.ins {P : Program} {w : World} {B : Hp} {S p : Addr} {fs : List FRow} {g : GSt} (h : GOk P w B S p fs g) : ∃ dx pr fa, B g.1 = some (.ins S dx (sf p pr fa)) := by
  obtain ⟨dx, pr, fa, us, h1, _⟩ := h.at_
  exact ⟨dx, pr, fa, h1⟩
theorem two_at {P : Program} {w : World} {B : Hp} {C S p : Addr} {fs : List FRow} {g g' : GSt} {cs : List CRow} {ts : List TRow} (h : GOk P w B S p fs g) (h' : GOk P w B S p fs g') (len : fs.length ≤ 288) (pl : PlanAt B C p cs ts) (okc : ColsOk B cs) (okt : TabsOk B (cs.map (·.2.1)) ts) (o : OwnF cs ts fs) : TwoAt P w B C S g.1 g'.1 p g.2 g'.2 cs ts :=
  ⟨h.at_, h'.at_, by have := h.len; omega, by have := h'.len; omega, pl, okc, okt, h.own o, h'.own o⟩
def lftG (a b c : GSt) : Nat → GSt | 0 => c | 1 => a | _ => b
def rgtG (a b c : GSt) : Nat → GSt | 0 => a | 1 => b | _ => c
theorem at_three (a b c : GSt) : ∀ o : Nat, o < 3 → atI ([a, b, c].map gv) ((o : Int) - 1) = some (gv (lftG a b c o)) ∧ atI ([a, b, c].map gv) (o : Int) = some (gv (rgtG a b c o)) := by
  intro o ho
  rcases (show o = 0 ∨ o = 1 ∨ o = 2 by omega) with rfl | rfl | rfl <;> exact ⟨rfl, rfl⟩
theorem lft_mem {a b c : GSt} {o : Nat} : lftG a b c o ∈ [a, b, c] := by
  unfold lftG; split <;> simp
theorem rgt_mem {a b c : GSt} {o : Nat} : rgtG a b c o ∈ [a, b, c] := by
  unfold rgtG; split <;> simp
theorem at_first {α : Type} {v : α → V} {xs : List α} (h : 0 < xs.length) : ∃ x ∈ xs, atI (xs.map v) 0 = some (v x) := by
  cases xs with
  | nil => simp at h
  | cons x xs => exact ⟨x, List.mem_cons_self, by rw [List.map_cons]; exact atI_zero⟩
theorem at_last {α : Type} {v : α → V} {xs : List α} (h : 0 < xs.length) : ∃ x ∈ xs, atI (xs.map v) (-1) = some (v x) := by
  have hl : xs.length - 1 < xs.length := by omega
  refine ⟨xs[xs.length - 1], List.getElem_mem hl, ?_⟩
  unfold atI ixN
  rw [List.length_map, if_neg (by omega), if_pos (by omega)]
  show (xs.map v)[(-1 + (xs.length : Int)).toNat]? = _
  rw [show (-1 + (xs.length : Int)).toNat = xs.length - 1 by omega, List.getElem?_map, List.getElem?_eq_getElem hl]; rfl
theorem if_meth {b : Bool} {C : Addr} {m m' : Str} {sp sp' : Sp} {E E' : XK} {ta ta' : TE} {t t' : TA} {σ : L2.St} {H : Hp} {Q : VK} {R : V → Hp → Prop} (h1 : b = true → ∀ Q' : VK, (∀ v H', R v H' → Q' v H') → tMethR C m sp E ta t σ H Q') (h2 : b = false → ∀ Q' : VK, (∀ v H', R v H' → Q' v H') → tMethR C m' sp' E' ta' t' σ H Q')
    (k : ∀ v H', R v H' → Q v H') : if b = true then tMethR C m sp E ta t σ H Q else tMethR C m' sp' E' ta' t' σ H Q := by
  cases b with
  | true => exact iteT (h1 rfl Q k)
  | false => exact iteF (h2 rfl Q k)
section
variable {P : Program} {w : World} {K : PySem.W.Frag} {mg : Str → Option Value} {base : Heap}
def spLaw (K : PySem.W.Frag) : Sp := fun vs H Q _ => ∃ (s : Addr) (ns : List Int), vs = [.ref s] ∧ SqL K H s (ns.map V.int) ∧ ns.length ≤ 63 ∧ ∀ H', Q (.bl true) H'
theorem ok_law {f fs fd' fk fm fc ft ff fl fp fa fq fx fwo fw fh C S fi si : Addr} {fd dfs dd dk dm dc dt df dl dp da dq dx dh di dsi : FuncData} (D : Df K mg "law" s_law ["script"] f fd) (T : Bi mg) (L : PlC K mg C) (Mk' : Mk K C fi) (bI : Binds K di ["self", "columns", "tables"] []) (Gi : FnOk P w K mg base CX0 4 fi di ["self", "columns", "tables"] (spInit K C))
    (LS : StF K S) (Sc : StC K mg S si dsi) (GSi : FnOk P w K mg base CX0 5 si dsi ["self", "plan", "present"] (spSInit P w K C S))
    (Ds : Df K mg "_law_state" s_state ["script"] fs dfs) (Gs : FnOk P w K mg base CX0 1 fs dfs ["script"] (spState K))
    (Dd : Df K mg "_law_draw" s_draw ["state", "size_most"] fd' dd) (Gd' : FnOk P w K mg base CX0 1 fd' dd ["state", "size_most"] spDraw)
    (Dk : Df K mg "_law_pick" s_pick ["state", "some"] fk dk) (Gk : FnOk P w K mg base CX0 2 fk dk ["state", "some"] spPick)
    (Dm : Df K mg "_law_mixed" s_mixed ["state", "some"] fm dm) (Gm : FnOk P w K mg base CX0 2 fm dm ["state", "some"] (spMixed K))
    (Dc : Df K mg "_law_columns" s_lcolumns ["state", "most", "size_most"] fc dc) (Gc : FnOk P w K mg base CX0 4 fc dc ["state", "most", "size_most"] spLCols)
    (Dt : Df K mg "_law_tables" s_ltables ["state", "columns", "most"] ft dt) (Gt : FnOk P w K mg base CX0 4 ft dt ["state", "columns", "most"] spLTabs)
    (Df' : Df K mg "_law_facts" s_lfacts ["columns", "tables"] ff df) (Gf : FnOk P w K mg base CX0 1 ff df ["columns", "tables"] spLFacts)
    (Dl : Df K mg "_law_looks" s_llooks ["columns", "tables"] fl dl) (Gl' : FnOk P w K mg base CX0 1 fl dl ["columns", "tables"] spLLooks)
    (Dp : Df K mg "_law_present" s_lpresent ["state", "every"] fp dp) (Gp : FnOk P w K mg base CX0 3 fp dp ["state", "every"] spPres)
    (Da : Df K mg "agree" s_agree ["one", "other", "looks"] fa da) (Ga : FnOk P w K mg base CX0 5 fa da ["one", "other", "looks"] (spAgree P w C S))
    (Dq : Df K mg "_law_pair_right" s_lpair_right ["one", "two", "picked", "each"] fq dq) (Gq : FnOk P w K mg base CX0 6 fq dq ["one", "two", "picked", "each"] (spLPair P w C S))
    (Dx : Df K mg "seers" s_seers ["plan", "fact"] fx dx) (Gx : FnOk P w K mg base CX0 5 fx dx ["plan", "fact"] (spSeersV C))
    (mwo : Meth K S "without_facts" fwo) (Gwo : FnR P w K mg base CX0 7 fwo (spStar (spWith P w C S fun a b k => k ∈ a ∧ ¬ k ∈ b)))
    (mw : Meth K S "with_facts" fw) (Gw : FnR P w K mg base CX0 7 fw (spStar (spWith P w C S fun a b k => k ∈ a ∨ k ∈ b)))
    (mh : Meth K S "has" fh) (Gh : FnOk P w K mg base CX0 5 fh dh ["self", "fact"] (spHas P w C S)) (bh : Binds K dh ["self", "fact"] []) :
    FnOk P w K mg base CX0 8 f fd ["script"] (spLaw K) := by
  refine D.F.ok sc_law (fun vs H Q E h => ?_) (fun cdv A outer s H vs Q E hr h => ?_)
  · obtain ⟨s, ns, rfl, _⟩ := h; rfl
  · obtain ⟨sa, ns, rfl, hs, hl, q⟩ := h
    have hr1 : Room 1 _ := hr.mono (by decide)
    have hr2 : Room 2 _ := hr.mono (by decide)
    have hr3 : Room 3 _ := hr.mono (by decide)
    have hr4 : Room 4 _ := hr.mono (by decide)
    have hr5 : Room 5 _ := hr.mono (by decide)
    have hr6 : Room 6 _ := hr.mono (by decide)
    have hu := hu64 hr
    have hu65 : (A.deeper (envOfC (Str.ofString "law") (defScope s_law) s.heap.objs.size f cdv)).units + 65 < cLine := by have := hr.un; omega
    refine ⟨_, pss_cons (ps_set (i := 1) sc_law.nd rfl (Or.inr rfl) (pcall Ds Gs hr1 (pa_cons (pv 0) pa_nil)))
      (pss_cons (ps_for PassesOwn.never rfl (pi_range1 rfl T.range (pa_cons (pe_op op_add pe_int (pe_callB (call_min2 rfl) (by rfl) T.min (by decide +kernel) (pa_cons (pe_callB call_len_seq (by rfl) T.len PySem.boot_len (pa_cons (pv 0) pa_nil)) (pa_cons pe_int pa_nil)))) pa_nil)) (pg_name (i := 2) sc_law.nd rfl (Or.inl rfl))
        (pss_cons (ps_set (i := 3) sc_law.nd rfl (Or.inl rfl) (pcall Dc Gc hr4 (pa_cons (pv 1) (pa_cons pe_int (pa_cons pe_int pa_nil)))))
        (pss_cons (ps_set (i := 4) sc_law.nd rfl (Or.inl rfl) (pcall Dt Gt hr4 (pa_cons (pv 1) (pa_cons (pv 3) (pa_cons pe_int pa_nil)))))
        (pss_cons (ps_asg (pe_tup (pa_cons (pe_make Mk' Gi hr5 rfl L.m bI .nil pass0 (pa_cons (pv 3) (pa_cons (pv 4) pa_nil))) (pa_cons (pcall Df' Gf hr1 (pa_cons (pv 3) (pa_cons (pv 4) pa_nil))) (pa_cons (pcall Dl Gl' hr1 (pa_cons (pv 3) (pa_cons (pv 4) pa_nil))) pa_nil))))
            (pg_tup rfl (pgs_cons (pg_name (i := 5) sc_law.nd rfl (Or.inl rfl)) (pgs_cons (pg_name (i := 6) sc_law.nd rfl (Or.inl rfl)) (pgs_cons (pg_name (i := 7) sc_law.nd rfl (Or.inr rfl)) pgs_nil)))))
        (pss_cons (ps_set (i := 8) sc_law.nd rfl (Or.inr rfl) (pe_make Sc.mkr GSi hr6 rfl Sc.m Sc.b .nil pass0 (pa_cons (pv 5) (pa_cons (pcall Dp Gp hr3 (pa_cons (pv 1) (pa_cons (pv 6) pa_nil))) pa_nil))))
        (pss_cons (ps_set (i := 9) sc_law.nd rfl (Or.inr rfl) (pe_lst (pa_cons (pv 8) pa_nil)))
        (pss_cons (ps_for PassesOwn.never rfl (pi_range1 rfl T.range (pa_cons pe_int pa_nil)) (pg_name (i := 10) sc_law.nd rfl (Or.inl rfl))
          (pss_cons (ps_set (i := 11) sc_law.nd rfl (Or.inl rfl) (pe_slice sl_list (pcall Dm Gm hr2 (pa_cons (pv 1) (pa_cons (pv 6) pa_nil))) po_none (po_some pe_int)))
          (pss_cons (ps_set (i := 12) sc_law.nd rfl (Or.inl rfl) (pe_methR (pe_methR (pv 8) LS.cl mwo Gwo hr pass0 (pa_cons (pe_ix ix_list (pv 11) pe_int (fun _ _ => rfl)) pa_nil)) LS.cl mw Gw hr pass0 (pa_cons (pe_ix ix_list (pv 11) (pe_un un_neg pe_int) (fun _ _ => rfl)) pa_nil)))
          (pss_one (ps_expr (pe_bm PySem.F.plainAttrs_list PySem.F.slot_list_append PySem.F.type_list_append mt_append (pv 9) (pa_cons (pe_ifExp (pt_cmpR op_gt (pcall Dd Gd' hr1 (pa_cons (pv 1) (pa_cons pe_int pa_nil))) pe_int (nomark _)) (pv 12) (pe_ix ix_list (pv 9) (pe_un un_neg pe_int) (fun _ _ => rfl))) pa_nil)))))))
        (pss_cons (ps_for PassesOwn.never rfl (pi_range1 rfl T.range (pa_cons pe_int pa_nil)) (pg_name (i := 10) sc_law.nd rfl (Or.inl rfl))
          (pss_cons (ps_set (i := 14) sc_law.nd rfl (Or.inr rfl) (pe_lc (own := [("k", 13)]) (g := gName 13) (tt := tYes) rfl sc_law.nd (pi_range1 rfl T.range (pa_cons (pcall Dd Gd' hr1 (pa_cons (pv 1) (pa_cons pe_int pa_nil))) pa_nil)) (blkOk_by (N := nLaw) (sc := defScope s_law) (by decide +kernel)) (fun _ _ _ _ _ => pg_name (i := 13) sc_law.nd rfl (Or.inl rfl)) (fun _ _ _ _ _ => pts_nil)
              (fun _ _ _ _ _ => pcall Dk Gk hr2 (pa_cons (pv 1) (pa_cons (pv 7) pa_nil)))))
          (pss_cons (ps_setLc (i := 15) (own := [("k", 13)]) (g := gName 13) (tt := tYes) rfl sc_law.nd rfl rfl (sw_true rfl rfl rfl (by decide +kernel)) (pi_range1 rfl T.range (pa_cons pe_int pa_nil)) (blkOk_by (N := nLaw) (sc := defScope s_law) (by decide +kernel)) (fun _ _ _ _ _ => pg_name (i := 13) sc_law.nd rfl (Or.inl rfl)) (fun _ _ _ _ _ => pts_nil)
              (fun _ _ _ _ _ => pcall Da Ga hr5 (pa_cons (pe_ix (ixL K) (pv 9) (pe_op op_sub (pv 13) pe_int) (fun _ _ => rfl)) (pa_cons (pe_ix (ixL K) (pv 9) (pv 13) (fun _ _ => rfl)) (pa_cons (pv 14) pa_nil)))))
          (pss_cons (ps_if (pt_cmpR op_eq (pe_bm PySem.F.plainAttrs_list PySem.F.slot_list_count PySem.F.type_list_count mt_countF (pv 15) (pa_cons pe_bl pa_nil)) pe_int (nomark _)) (pss_one (ps_ret pe_bl)) pss_nil)
          (pss_one (ps_for PassesOwn.never rfl (pi_range1 rfl T.range (pa_cons pe_int pa_nil)) (pg_name (i := 13) sc_law.nd rfl (Or.inl rfl))
            (pss_one (ps_if (pt_not (pt_val (pcall Dq Gq hr6 (pa_cons (pe_ix ix_list (pv 9) (pe_op op_sub (pv 13) pe_int) (fun _ _ => rfl)) (pa_cons (pe_ix ix_list (pv 9) (pv 13) (fun _ _ => rfl)) (pa_cons (pv 14) (pa_cons (pv 7) pa_nil))))))) (pss_one (ps_ret pe_bl)) pss_nil))))))))
        (pss_cons (ps_set (i := 16) sc_law.nd rfl (Or.inl rfl) (pcall Dk Gk hr2 (pa_cons (pv 1) (pa_cons (pv 6) pa_nil))))
        (pss_cons (ps_set (i := 17) sc_law.nd rfl (Or.inr rfl) (pe_ifExp (pt_val (pe_meth (pv 8) LS.cl mh Gh hr5 bh .nil pass0 (pa_cons (pv 16) pa_nil))) (pe_methR (pv 8) LS.cl mwo Gwo hr pass0 (pa_cons (pv 16) pa_nil)) (pe_methR (pv 8) LS.cl mw Gw hr pass0 (pa_cons (pv 16) pa_nil))))
        (pss_cons (ps_set (i := 18) sc_law.nd rfl (Or.inr rfl) (pcall Dx Gx hr5 (pa_cons (pv 5) (pa_cons (pv 16) pa_nil))))
        (pss_cons (ps_setLc (i := 19) (own := [("look", 20)]) (g := gName 20) rfl sc_law.nd rfl rfl (sw_true rfl rfl rfl (by decide +kernel)) (pi_list (pv 7)) (blkOk_by (N := nLaw) (sc := defScope s_law) (by decide +kernel)) (fun _ _ _ _ _ => pg_name (i := 20) sc_law.nd rfl (Or.inl rfl))
            (fun _ _ _ _ _ => pts_one (pt_cmpR (notInTK K hu65) (pv 20) (pv 18) rfl)) (fun _ _ _ _ _ => pv 20))
        (pss_one (ps_if (PW.pt (pw_or (pt_not (pt_val (pcall Da Ga hr5 (pa_cons (pv 8) (pa_cons (pv 17) (pa_cons (pv 19) pa_nil)))))) (pw_or1 (pt_cmpR (op_neD hu) (pe_lc (own := [("look", 20)]) (g := gName 20) rfl sc_law.nd (pi_tup (pv 18)) (blkOk_by (N := nLaw) (sc := defScope s_law) (by decide +kernel)) (fun _ _ _ _ _ => pg_name (i := 20) sc_law.nd rfl (Or.inl rfl))
            (fun _ _ _ _ _ => pts_one (pt_val (pcall Da Ga hr5 (pa_cons (pv 8) (pa_cons (pv 17) (pa_cons (pe_lst (pa_cons (pv 20) pa_nil)) pa_nil)))))) (fun _ _ _ _ _ => pv 20)) (pe_lst pa_nil) (nomark _))))) (pss_one (ps_ret pe_bl)) pss_nil))))))))))))))
      (pss_one (ps_ret pe_bl))), ?_⟩
    have nsl : (ns.map V.int).length = ns.length := List.length_map _
    refine ⟨_, rfl, sa, ns, rfl, hs, hl, fun a c H1 g1 => ?_⟩
    refine ⟨_, rfl, sa, _, rfl, .inl (g1.ex.seq hs), _, 10, rfl, 2, _, rfl, rfl, _, rfl, ?_, ?_, for_range (lo := 0) (fun i σ H' => ∃ x2 x3 x4 x5 x6 x7 x8 x9 x10 x11 x12 x13 x14 x15 x16 x17 x18 x19 x20, σ = [some (.ref sa), some (.ref a), x2, x3, x4, x5, x6, x7, x8, x9, x10, x11, x12, x13, x14, x15, x16, x17, x18, x19, x20] ∧ StAt H' a c)
      ⟨_, _, _, _, _, _, _, _, _, _, _, _, _, _, _, _, _, _, _, rfl, g1.st⟩ ?_ ?_⟩
    · split <;> omega
    · rw [nsl]; split <;> omega
    · rintro i σ H4 _ ⟨x2, x3, x4, x5, x6, x7, x8, x9, x10, x11, x12, x13, x14, x15, x16, x17, x18, x19, x20, rfl, st4⟩
      have g4 := but2_gd st4
      refine ⟨_, rfl, a, c, 3, 4, but2 H4 a c, rfl, g4, ⟨by decide, by decide⟩, ⟨by decide, by decide⟩, fun cl cs B5 H5 s5 g5 n5 hcl okc => ?_⟩
      refine ⟨_, rfl, _, rfl, a, c, cl, 4, cs, B5, rfl, g5, hcl, okc, ⟨by decide, by decide⟩, fun tb ts B6 H6 s6 g6 n6 htb okt => ?_⟩
      have hcl6 := s6 _ _ hcl
      have okc6 := okc.same s6
      refine ⟨_, rfl, _, rfl, fun y dy ny ndy ne => make_plan ny ndy ne (.inl (g6.ex _ _ hcl6)) (.inl (g6.ex _ _ htb)) (okc6.same g6.ex) (okt.same g6.ex) fun H7 s7 pl7 => ⟨rfl, ?_⟩⟩
      have g7 := g6.same s7
      refine ⟨_, rfl, _, rfl, cl, tb, cs, ts, rfl, g7.ex _ _ hcl6, g7.ex _ _ htb, okc6.same g7.ex, okt.same g7.ex, fun pe fs H8 s8 npe hpe fat8 kf => ?_⟩
      have g8 := g7.same s8
      refine ⟨_, rfl, _, rfl, cl, tb, cs, ts, rfl, g8.ex _ _ hcl6, g8.ex _ _ htb, okc6.same g8.ex, okt.same g8.ex, fun pk ls H9 s9 npk hpk lat9 kl => ?_⟩
      refine ⟨by show 3 ≤ sizeLine; decide, fun t1 nt1 => ?_⟩
      refine ⟨t1, _, rfl, tof upd_same, rfl, _, _, rfl, _, _, rfl, _, _, rfl, rfl, ?_⟩
      have s10 := s9.trans (same_new (o := .tup [.ref y, .ref pe, .ref pk]) nt1)
      have s9k : Same H9 (upd H9 t1 (.tup [.ref y, .ref pe, .ref pk])) := same_new nt1
      generalize upd H9 t1 (.tup [.ref y, .ref pe, .ref pk]) = Hc at s10 s9k ⊢
      have gc := g8.same s10
      have stc := gc.st
      have gB := but2_gd stc
      have pl := (pl7.same (s8.trans s10)).sub (B := but2 Hc a c) fun b o e n _ => but2_obj stc e n
      have okcB : ColsOk (but2 Hc a c) cs := okc6.same (but2_sub gc)
      have oktB : TabsOk (but2 Hc a c) (cs.map (·.2.1)) ts := okt.same (but2_sub gc)
      have pea := g7.ne_a npe
      have pec := g7.ne_c npe
      have pka := g8.ne_a npk
      have pkc := g8.ne_c npk
      have hpe' : (but2 Hc a c) pe = some (.lst (fs.map fv)) := by rw [but2_at pea pec]; exact s10 _ _ hpe
      have hpk' : (but2 Hc a c) pk = some (.lst (ls.map lv)) := by rw [but2_at pka pkc]; exact s9k _ _ hpk
      have fat : ∀ f ∈ fs, FAt (but2 Hc a c) f := fun f hf => ⟨but2_obj stc (s10 _ _ (fat8 f hf).1) (fun _ z => nomatch z), but2_obj stc (s10 _ _ (fat8 f hf).2) (fun _ z => nomatch z)⟩
      have lat : ∀ l ∈ ls, LAt (but2 Hc a c) l := fun l hl => but2_obj stc (s9k _ _ (lat9 l hl)) (fun _ z => nomatch z)
      generalize but2 Hc a c = B at gB pl okcB oktB hpe' hpk' fat lat
      clear g4 g5 g6 g7 g8 gc stc hcl6 okc6 okt pl7 hpe hpk lat9 fat8 s10 s9k s9 s8 s7 s6 s5 st4 hcl htb okc n5 n6 npe npk nt1
      have nd := oktB.nd
      have ownf : OwnF cs ts fs := fun f hf => by
        have h : f.2.2 ∈ sortF (ts.flatMap (factsT cs)) := by rw [← kf]; exact List.mem_map.mpr ⟨f, hf, rfl⟩
        obtain ⟨r, hr, h⟩ := List.mem_flatMap.mp ((sortF_perm _).mem_iff.mp h)
        exact ⟨r, hr, factsT_of h⟩
      have elsm : ∀ l, l ∈ ls.map (·.2) ↔ l ∈ ts.flatMap (looksT cs) := fun l => by rw [kl]; exact (sortL_perm _).mem_iff
      have ownl : ∀ l ∈ ls, ∃ r ∈ ts, LofT cs r l.2 := fun l hl => by
        obtain ⟨r, hr, h⟩ := List.mem_flatMap.mp ((elsm l.2).mp (List.mem_map.mpr ⟨l, hl, rfl⟩))
        exact ⟨r, hr, looksT_of h⟩
      have flen : fs.length ≤ 288 := by
        have h := congrArg List.length kf
        rw [List.length_map, (sortF_perm _).length_eq] at h
        rw [h]; exact facts_max2 okcB oktB
      have fpos : 0 < fs.length := by
        have h := congrArg List.length kf
        rw [List.length_map, (sortF_perm _).length_eq] at h
        rw [h]; exact facts_pos okcB oktB
      have llen : ls.length ≤ 1000 := by
        have h := congrArg List.length kl
        rw [List.length_map, (sortL_perm _).length_eq] at h
        rw [h]; exact looks_max okcB oktB
      have nmF := ownf.nm oktB
      have lpos : 0 < ls.length := by
        obtain ⟨r, hr, ho⟩ := ownf _ (List.getElem_mem fpos)
        have ne : (sidesOf (fs[0]).2.2).length ≠ 0 := by rw [sides_len ho]; have := (oft_len ho).2.2; omega
        cases e : sidesOf (fs[0]).2.2 with
        | nil => rw [e] at ne; exact absurd rfl ne
        | cons x xs =>
          have h := ((side_in nd elsm hr ho).mp (show x ∈ sidesOf (fs[0]).2.2 by rw [e]; exact List.mem_cons_self)).1
          obtain ⟨l, hl, _⟩ := List.mem_map.mp h
          exact List.length_pos_of_mem hl
      have fln : (fs.map fv).length = fs.length := List.length_map _
      have lln : (ls.map lv).length = ls.length := List.length_map _
      -- the first store
      refine ⟨_, rfl, _, rfl, _, rfl, a, c, pe, fs, B, rfl, gB, hpe', fat, nmF, by omega, fun q0 gs0 B1 H11 s11 g11 n11 hq0 sub0 len0 => ?_⟩
      have e11 := s11.trans g11.ex
      refine fun x dx0 nx ndx ne0 => make_store nx ndx ne0 (pl.same e11) (okcB.same e11) (oktB.same e11) (g11.ex _ _ hq0) (fun f hf => (fat f (sub0 f hf)).imm (same_imm e11)) (fun f hf => ownf f (sub0 f hf)) (by omega) fun H12 f0 s12 st0 km0 sub1 => ⟨rfl, ?_⟩
      have g12 := g11.same s12
      have sB2 : Same B (but2 H12 a c) := s11.trans (but2_sub g12)
      have g2B := but2_gd g12.st
      have ok0 : GOk P w (but2 H12 a c) S y fs (x, f0) := ⟨st0.sub fun b o e n => but2_obj g12.st e n, fun f hf => sub0 f (sub1 f hf)⟩
      generalize but2 H12 a c = B2 at sB2 g2B ok0
      replace pl := pl.same sB2
      replace okcB := okcB.same sB2
      replace oktB := oktB.same sB2
      replace hpe' := sB2 _ _ hpe'
      replace hpk' := sB2 _ _ hpk'
      replace fat : ∀ f ∈ fs, FAt B2 f := fun f hf => (fat f hf).imm (same_imm sB2)
      replace lat : ∀ l ∈ ls, LAt B2 l := fun l hl => sB2 _ _ (lat l hl)
      clear gB s11 g11 n11 hq0 sub0 len0 e11 nx ndx ne0 s12 st0 km0 sub1 g12 sB2
      obtain ⟨dx1, pr1, fa1, hx1⟩ := ok0.ins
      refine ⟨_, rfl, by show 1 ≤ sizeLine; decide, fun gp ngp => ?_⟩
      have gpa := g2B.ne_a ngp
      have gpc := g2B.ne_c ngp
      have nBg := g2B.free ngp
      have g13 := g2B.new (o := .lst [.ref x]) ngp
      have hgp : (upd H12 gp (.lst [.ref x])) gp = some (.lst ([(x, f0)].map gv)) := upd_same
      generalize upd H12 gp (.lst [.ref x]) = H13 at g13 hgp ⊢
      refine ⟨2, rfl, by decide, by decide, for_range (n := 2) (lo := 0) (fun j σ H' => ∃ x10 x11 x12 x13 x14 x15 x16 x17 x18 x19 x20 B' gl, σ = [some (.ref sa), some (.ref a), some (.int (0 + (i : Nat))), some (.ref cl), some (.ref tb), some (.ref y), some (.ref pe), some (.ref pk), some (.ref x), some (.ref gp), x10, x11, x12, x13, x14, x15, x16, x17, x18, x19, x20] ∧
          Same B2 B' ∧ Gd a c B' H' ∧ B' gp = none ∧ H' gp = some (.lst (gl.map gv)) ∧ gl.length = j + 1 ∧ ∀ g ∈ gl, GOk P w B' S y fs g)
        ⟨_, _, _, _, _, _, _, _, _, _, _, B2, [(x, f0)], rfl, Same.refl _, g13, nBg, hgp, rfl, fun g hg => by rw [List.mem_singleton] at hg; subst hg; exact ok0⟩ ?_ ?_⟩
      · rintro j σ H14 hj ⟨x10, x11, x12, x13, x14, x15, x16, x17, x18, x19, x20, B', gl, rfl, s', g', nb', hg', gl1, gok⟩
        have gk := g'.know hg' gpa gpc
        have sk : Same B' (upd B' gp (.lst (gl.map gv))) := same_new nb'
        have kg : (upd B' gp (.lst (gl.map gv))) gp = some (.lst (gl.map gv)) := upd_same
        generalize upd B' gp (.lst (gl.map gv)) = Bk at gk sk kg
        have s2k := s'.trans sk
        refine ⟨_, rfl, _, rfl, a, c, pe, fs.map fv, Bk, rfl, gk, gk.ex _ _ (s2k _ _ hpe'), by omega, plain_fk (fun f hf => (fat f hf).imm (same_imm s2k)) nmF, fun m ys Bm Hm pm sm gm nm hm => ?_⟩
        obtain ⟨fm', pfm, rfl⟩ := perm_rows pm fs rfl
        refine ⟨2, rfl, m, _, rfl, lof (gm.ex _ _ hm), fun S1 nS1 => ?_⟩
        rw [show (2 : Int) = ((2 : Nat) : Int) from rfl, cut_take, ← List.map_take]
        have gs1 := gm.add (o := .lst ((fm'.take 2).map fv)) nS1
        have hS1 : (upd Bm S1 (.lst ((fm'.take 2).map fv))) S1 = some (.lst ((fm'.take 2).map fv)) := upd_same
        have sK : Same Bk (upd Bm S1 (.lst ((fm'.take 2).map fv))) := sm.trans (same_new (gm.free nS1))
        generalize upd Bm S1 (.lst ((fm'.take 2).map fv)) = B3 at gs1 hS1 sK
        generalize upd Hm S1 (.lst ((fm'.take 2).map fv)) = H15 at gs1 ⊢
        have t2 : 0 < (fm'.take 2).length := by rw [List.length_take, pfm.length_eq]; omega
        obtain ⟨u, hu1, hu2⟩ := at_first (v := fv) t2
        obtain ⟨z, hz1, hz2⟩ := at_last (v := fv) t2
        have um : u ∈ fs := pfm.mem_iff.mp (List.mem_of_mem_take hu1)
        have zm : z ∈ fs := pfm.mem_iff.mp (List.mem_of_mem_take hz1)
        have e15 := (s2k.trans sK).trans gs1.ex
        have no1 : (sf y pr1 fa1).lookup (Str.ofString "without_facts") = none := sf_no (by decide +kernel) (by decide +kernel) (by decide +kernel)
        refine ⟨_, rfl, x, dx1, _, rfl, e15 _ _ hx1, no1, _, rfl, S1, _, 0, fv u, rfl, rfl, lof (gs1.ex _ _ hS1), hu2, [.ref x], [fv u], rfl, rfl, by show 1 ≤ sizeLine; decide, fun ta nta => ?_⟩
        have s16 : Same H15 (upd H15 ta (.tup [fv u])) := same_new nta
        have hta : (upd H15 ta (.tup [fv u])) ta = some (.tup ([u].map fv)) := upd_same
        generalize upd H15 ta (.tup [fv u]) = H16 at s16 hta ⊢
        have e16 := e15.trans s16
        refine ⟨x, y, ta, [u], f0, cs, ts, rfl, ok0.at_.same e16, by have h0 : f0.length ≤ fs.length := ok0.len; omega, pl.same e16, okcB.same e16, oktB.same e16, ok0.own ownf, hta, (fun f hf => by rw [List.mem_singleton] at hf; subst hf; exact (fat _ um).imm (same_imm e16)), (fun f hf => by rw [List.mem_singleton] at hf; subst hf; exact ownf _ um), by show 1 ≤ 5000; decide, fun s1' f1 H17 s17 nn17 st17 km17 sub17 => ?_⟩
        have ok1 : GOk P w H17 S y fs (s1', f1) := ⟨st17, fun f hf => by
          rcases sub17 f hf with h | h
          · exact ok0.sub f h
          · rw [List.mem_singleton] at h; subst h; exact um⟩
        have e17 := e16.trans s17
        have s1517 := s16.trans s17
        obtain ⟨dx2, pr2, fa2, hx2⟩ := ok1.ins
        have no2 : (sf y pr2 fa2).lookup (Str.ofString "with_facts") = none := sf_no (by decide +kernel) (by decide +kernel) (by decide +kernel)
        refine ⟨s1', dx2, _, rfl, hx2, no2, _, rfl, 1, rfl, S1, _, -1, fv z, rfl, rfl, lof (s1517 _ _ (gs1.ex _ _ hS1)), hz2, [.ref s1'], [fv z], rfl, rfl, by show 1 ≤ sizeLine; decide, fun tc ntc => ?_⟩
        have s18 : Same H17 (upd H17 tc (.tup [fv z])) := same_new ntc
        have htc : (upd H17 tc (.tup [fv z])) tc = some (.tup ([z].map fv)) := upd_same
        generalize upd H17 tc (.tup [fv z]) = H18 at s18 htc ⊢
        have e18 := e17.trans s18
        refine ⟨s1', y, tc, [z], f1, cs, ts, rfl, ok1.at_.same s18, by have h0 : f1.length ≤ fs.length := ok1.len; omega, pl.same e18, okcB.same e18, oktB.same e18, ok1.own ownf, htc, (fun f hf => by rw [List.mem_singleton] at hf; subst hf; exact (fat _ zm).imm (same_imm e18)), (fun f hf => by rw [List.mem_singleton] at hf; subst hf; exact ownf _ zm), by show 1 ≤ 5000; decide, fun s2' f2 H19 s19 nn19 st19 km19 sub19 => ?_⟩
        have ok2 : GOk P w H19 S y fs (s2', f2) := ⟨st19, fun f hf => by
          rcases sub19 f hf with h | h
          · exact ok1.sub f h
          · rw [List.mem_singleton] at h; subst h; exact zm⟩
        have g19 := gs1.same (s1517.trans (s18.trans s19))
        have sK4 : Same Bk (but2 H19 a c) := sK.trans (but2_sub g19)
        have g4B := but2_gd g19.st
        have ok2' : GOk P w (but2 H19 a c) S y fs (s2', f2) := ⟨ok2.at_.sub fun b o e n => but2_obj g19.st e n, ok2.sub⟩
        generalize but2 H19 a c = B4 at sK4 g4B ok2'
        have kg4 := sK4 _ _ kg
        have gok4 : ∀ g ∈ gl, GOk P w B4 S y fs g := fun g hg => (gok g hg).same (sk.trans sK4)
        obtain ⟨ge, hge1, hge2⟩ := at_last (v := gv) (xs := gl) (by omega)
        have glN : (gl.map gv).length = gl.length := List.length_map _
        have remG : ∀ g, GOk P w B4 S y fs g → GOk P w (rem B4 gp) S y fs g := fun g hg => ⟨hg.at_.sub fun b o e n => by rw [rem_ne (fun q => by subst q; rw [kg4] at e; cases e; exact n _ rfl)]; exact e, hg.sub⟩
        have s2r : Same B2 (rem B4 gp) := same_into_rem (s2k.trans sK4) nBg
        refine ⟨_, rfl, .inl ⟨rfl, _, lof (g4B.ex _ _ kg4)⟩, _, rfl, a, c, 3, rfl, g4B.st, by decide, by decide, fun r H20 r0 r1 st20 fr20 => ⟨r, 0, rfl, rfl, _, rfl, ite2 (fun _ => ⟨_, rfl, ?_⟩) (fun _ => ⟨_, rfl, 1, rfl, gp, _, -1, gv ge, rfl, rfl, lof ((g4B.fr fr20 st20).ex _ _ kg4), hge2, ?_⟩)⟩⟩
        · have g20 := g4B.fr fr20 st20
          refine ⟨gp, gl.map gv, gv (s2', f2), rfl, rfl, g20.ex _ _ kg4, by rw [glN]; exact Nat.lt_of_le_of_lt (show gl.length ≤ 3 by omega) (by decide), ?_⟩
          refine ⟨_, _, _, _, _, _, _, _, _, _, _, rem B4 gp, gl ++ [(s2', f2)], rfl, s2r, (g20.less same_rem).chg rem_self gpa gpc, rem_self, by rw [upd_same, List.map_append]; rfl, by rw [List.length_append, gl1]; rfl, fun g hg => ?_⟩
          rcases List.mem_append.mp hg with hg | hg
          · exact remG g (gok4 g hg)
          · rw [List.mem_singleton] at hg; subst hg; exact remG _ ok2'
        · have g20 := g4B.fr fr20 st20
          refine ⟨gp, gl.map gv, gv ge, rfl, rfl, g20.ex _ _ kg4, by rw [glN]; exact Nat.lt_of_le_of_lt (show gl.length ≤ 3 by omega) (by decide), ?_⟩
          refine ⟨_, _, _, _, _, _, _, _, _, _, _, rem B4 gp, gl ++ [ge], rfl, s2r, (g20.less same_rem).chg rem_self gpa gpc, rem_self, by rw [upd_same, List.map_append]; rfl, by rw [List.length_append, gl1]; rfl, fun g hg => ?_⟩
          rcases List.mem_append.mp hg with hg | hg
          · exact remG g (gok4 g hg)
          · rw [List.mem_singleton] at hg; subst hg; exact remG _ (gok4 _ hge1)
      · rintro σ H14 ⟨x10, x11, x12, x13, x14, x15, x16, x17, x18, x19, x20, B', gl, rfl, s', g', nb', hg', gl1, gok⟩
        have g14 := g'.know hg' gpa gpc
        have sk : Same B' (upd B' gp (.lst (gl.map gv))) := same_new nb'
        have kg : (upd B' gp (.lst (gl.map gv))) gp = some (.lst (gl.map gv)) := upd_same
        generalize upd B' gp (.lst (gl.map gv)) = B5 at g14 sk kg
        have s25 := s'.trans sk
        replace gok : ∀ g ∈ gl, GOk P w B5 S y fs g := fun g hg => (gok g hg).same sk
        obtain ⟨ga, gb, gd, rfl⟩ : ∃ ga gb gd, gl = [ga, gb, gd] := by
          match gl, gl1 with
          | [p, q, r], _ => exact ⟨p, q, r, rfl⟩
        replace pl := pl.same s25
        replace okcB := okcB.same s25
        replace oktB := oktB.same s25
        replace hpe' := s25 _ _ hpe'
        replace hpk' := s25 _ _ hpk'
        replace fat : ∀ f ∈ fs, FAt B5 f := fun f hf => (fat f hf).imm (same_imm s25)
        replace lat : ∀ l ∈ ls, LAt B5 l := fun l hl => s25 _ _ (lat l hl)
        replace ok0 := ok0.same s25
        replace hx1 := s25 _ _ hx1
        clear g2B nBg g13 hgp s' g' nb' hg' gl1 sk s25
        have lkE : LksAt B5 pk ls cs ts := ⟨hpk', lat, ownl, llen⟩
        have tws : ∀ o, TwoAt P w B5 C S (lftG ga gb gd o).1 (rgtG ga gb gd o).1 y (lftG ga gb gd o).2 (rgtG ga gb gd o).2 cs ts := fun o => two_at (gok _ lft_mem) (gok _ rgt_mem) flen pl okcB oktB ownf
        refine ⟨3, rfl, by decide, by decide, for_range (n := 3) (lo := 0) (fun j σ H' => ∃ x10 x11 x12 x13 x14 x15 x16 x17 x18 x19 x20, σ = [some (.ref sa), some (.ref a), some (.int (0 + (i : Nat))), some (.ref cl), some (.ref tb), some (.ref y), some (.ref pe), some (.ref pk), some (.ref x), some (.ref gp), x10, x11, x12, x13, x14, x15, x16, x17, x18, x19, x20] ∧ Gd a c B5 H')
          ⟨_, _, _, _, _, _, _, _, _, _, _, rfl, g14⟩ ?_ ?_⟩
        · rintro j σ H15 hj ⟨x10, x11, x12, x13, x14, x15, x16, x17, x18, x19, x20, rfl, g15⟩
          refine ⟨_, rfl, a, c, 6, rfl, g15.st, by decide, by decide, fun r H16 r0 r1 st16 fr16 => ⟨r, rfl, by omega, by omega, fun D hD => ?_⟩⟩
          have g16 := g15.fr fr16 st16
          refine lc_draw (B := B5) (H1 := H16) (a := a) (c := c) walk_range g16 hD (fun _ _ _ _ => trivial) (Nat.lt_of_le_of_lt (show r.toNat ≤ 6 by omega) (by decide)) (fun i acc _ => ∃ ps : List LRow, acc = ps.map lv ∧ ps.length ≤ i ∧ ∀ l ∈ ps, l ∈ ls)
            ⟨[], rfl, Nat.le_refl _, fun _ z => nomatch z⟩ (fun _ _ _ _ h _ => h) (fun i acc _ ⟨ps, e, l, _⟩ => by rw [e, List.length_map]; exact l) (fun o H4 B4 acc Q1 Q2 ho s4 g4 p4 d4 k1 k2 => ?_) (fun H4 B4 acc s4 g4 d4 p4 => ?_)
          · obtain ⟨ps, rfl, lp, sub⟩ := p4
            refine ⟨rfl, ?_⟩
            refine iteT (B := Q2 H4) ?_
            refine ⟨_, rfl, _, rfl, a, c, .ref pk, rfl, g4.st, .inl ⟨pk, _, rfl, ne_of_none hpk' g15.na, ne_of_none hpk' g15.nc, (s4.trans g4.ex) _ _ hpk', by rw [lln]; exact lpos, by rw [lln]; omega, fun v H5 hv st5 fr5 => ?_⟩⟩
            obtain ⟨l, hl, rfl⟩ := List.mem_map.mp hv
            refine k1 _ _ B4 (Same.refl _) (g4.fr fr5 st5) ⟨ps ++ [l], by rw [List.map_append]; rfl, by rw [List.length_append, List.length_singleton]; omega, fun z hz => ?_⟩
            rcases List.mem_append.mp hz with hz | hz
            · exact sub z hz
            · rw [List.mem_singleton] at hz; subst hz; exact hl
          obtain ⟨ps, rfl, lp, sub⟩ := p4
          have lk : LksAt B4 D ps cs ts := ⟨d4, fun l hl => s4 _ _ (lat l (sub l hl)), fun l hl => ownl l (sub l hl), by omega⟩
          have kg4 := s4 _ _ kg
          obtain ⟨bo, ebo⟩ : ∃ bo : Nat → Bool, bo = fun o => agreeB (keysF (lftG ga gb gd o).2) (keysF (rgtG ga gb gd o).2) (ps.map (·.2)) := ⟨_, rfl⟩
          refine ⟨3, rfl, by decide, by decide, fun D2 nD2 => ?_⟩
          refine lc_new (H1 := H4) walk_range nD2 (fun _ _ => trivial) (Nat.lt_of_le_of_lt (show (3 : Int).toNat ≤ 3 by decide) (by decide)) (fun i acc _ => acc = (List.range i).map fun o => V.bl (bo o)) rfl (fun _ _ _ _ _ p => p) (fun o H5 acc Q1 Q2 ho s5 p k1 k2 => ?_) (fun H5 acc s5 hD5 p => ?_)
          · have ho3 : o < 3 := ho
            rw [show (0 : Int) + (o : Nat) = (o : Nat) from Int.zero_add _]
            subst p
            refine ⟨rfl, ?_⟩
            refine iteT (B := Q2 H5) ?_
            have e5 := g4.ex.trans s5
            have tw := (tws o).same (s4.trans e5)
            have lk5 := lk.same e5
            refine ⟨_, rfl, _, rfl, (o : Int), 1, rfl, rfl, gp, _, (o : Int) - 1, gv (lftG ga gb gd o), rfl, rfl, lof (e5 _ _ kg4), (at_three ga gb gd o ho3).1, ?_⟩
            refine ⟨_, rfl, _, rfl, gp, _, (o : Int), gv (rgtG ga gb gd o), rfl, rfl, lof (e5 _ _ kg4), (at_three ga gb gd o ho3).2, _, rfl, ⟨_, _, _, _, _, _, _, _, _, rfl, tw.s1, tw.s2, Nat.le_trans tw.l1 (by decide), Nat.le_trans tw.l2 (by decide), tw.pl, tw.okc, tw.okt, tw.o1, tw.o2, lk5.h, lk5.at_, lk5.own, Nat.le_trans lk5.len (by decide), fun H6 s6 => ?_⟩⟩
            refine k1 _ _ s6 ?_
            rw [List.range_succ, List.map_append, ebo]; rfl
          subst p
          have g5 := g4.same s5
          have hD5' : H5 D2 = some (.lst ([bo 0, bo 1, bo 2].map V.bl)) := hD5
          refine ⟨_, rfl, .inl ⟨rfl, _, lof hD5'⟩, D2, [bo 0, bo 1, bo 2], rfl, rfl, lof hD5', rfl, _, rfl, ?_⟩
          have e3 : decide (V.int (([bo 0, bo 1, bo 2].count false : Nat) : Int) = V.int 1) = false := decide_eq_false fun z => by
            have := agree_three (a := keysF ga.2) (b := keysF gb.2) (c := keysF gd.2) (ls := ps.map (·.2))
            rw [ebo] at z
            injection z with z
            exact this (by exact_mod_cast z)
          rw [e3]
          refine iteF ?_
          refine ⟨3, rfl, by decide, by decide, for_range (n := 3) (lo := 0) (fun k σ H' => ∃ x13 x16 x17 x18 x19 x20, σ = [some (.ref sa), some (.ref a), some (.int (0 + (i : Nat))), some (.ref cl), some (.ref tb), some (.ref y), some (.ref pe), some (.ref pk), some (.ref x), some (.ref gp), some (.int (0 + (j : Nat))), x11, x12, x13, some (.ref D), some (.ref D2), x16, x17, x18, x19, x20] ∧ Gd a c B4 H')
            ⟨_, _, _, _, _, _, rfl, g5⟩ ?_ ?_⟩
          · rintro o σ H6 ho ⟨x13, x16, x17, x18, x19, x20, rfl, g6⟩
            have ho3 : o < 3 := ho
            rw [show (0 : Int) + (o : Nat) = (o : Nat) from Int.zero_add _]
            have e6 := g6.ex
            have tw := (tws o).same (s4.trans e6)
            have lk6 := lk.same e6
            have lkE6 := lkE.same (s4.trans e6)
            refine ⟨_, rfl, _, rfl, (o : Int), 1, rfl, rfl, gp, _, (o : Int) - 1, gv (lftG ga gb gd o), rfl, rfl, lof (e6 _ _ kg4), (at_three ga gb gd o ho3).1, ?_⟩
            refine ⟨_, rfl, _, rfl, gp, _, (o : Int), gv (rgtG ga gb gd o), rfl, rfl, lof (e6 _ _ kg4), (at_three ga gb gd o ho3).2, _, rfl, _, rfl, ?_⟩
            refine ⟨_, _, _, _, _, _, _, _, _, _, _, rfl, tw, lk6, lkE6, agree_all nd elsm tw.o1.keys tw.o2.keys (gok _ lft_mem).asc (gok _ rgt_mem).asc, fun H7 s7 => ⟨true, rfl, iteF ⟨_, _, _, _, _, _, rfl, g6.same s7⟩⟩⟩
          · rintro σ H6 ⟨x13, x16, x17, x18, x19, x20, rfl, g6⟩
            exact ⟨_, _, _, _, _, _, _, _, _, _, _, rfl, g6.less s4⟩
        · rintro σ H15 ⟨x10, x11, x12, x13, x14, x15, x16, x17, x18, x19, x20, rfl, g15⟩
          refine ⟨_, rfl, _, rfl, a, c, .ref pe, rfl, g15.st, .inl ⟨pe, _, rfl, ne_of_none hpe' g15.na, ne_of_none hpe' g15.nc, g15.ex _ _ hpe', by rw [fln]; exact fpos, by rw [fln]; omega, fun v H16 hv st16 fr16 => ?_⟩⟩
          obtain ⟨k0, hk0, rfl⟩ := List.mem_map.mp hv
          have g16 := g15.fr fr16 st16
          have e16 := g16.ex
          have noH : (sf y pr1 fa1).lookup (Str.ofString "has") = none := sf_no (by decide +kernel) (by decide +kernel) (by decide +kernel)
          have noW : (sf y pr1 fa1).lookup (Str.ofString "without_facts") = none := sf_no (by decide +kernel) (by decide +kernel) (by decide +kernel)
          have noT : (sf y pr1 fa1).lookup (Str.ofString "with_facts") = none := sf_no (by decide +kernel) (by decide +kernel) (by decide +kernel)
          refine ⟨_, rfl, x, dx1, _, rfl, e16 _ _ hx1, noH, _, rfl, x, y, k0, f0, cs, ts, rfl, ok0.at_.same e16, pl.same e16, okcB.same e16, oktB.same e16, (fat k0 hk0).imm (same_imm e16), ownf k0 hk0, fun H17 s17 => ⟨_, rfl, ?_⟩⟩
          have e17 := e16.trans s17
          have h0 : f0.length ≤ fs.length := ok0.len
          have g17 := g16.same s17
          have one : ∀ z, z ∈ keysF [k0] ↔ z = k0.2.2 := fun z => by unfold keysF; simp
          refine if_meth (R := fun v H' => ∃ so fo, v = .ref so ∧ Same H17 H' ∧ GOk P w H' S y fs (so, fo) ∧ (k0.2.2 ∈ keysF f0 ↔ ¬ k0.2.2 ∈ keysF fo) ∧ ∀ z, z ≠ k0.2.2 → (z ∈ keysF f0 ↔ z ∈ keysF fo)) (fun hb Q' kk => ?_) (fun hb Q' kk => ?_) ?_
          · refine ⟨_, rfl, x, dx1, _, rfl, e17 _ _ hx1, noW, _, rfl, [.ref x], [fv k0], rfl, rfl, by show 1 ≤ sizeLine; decide, fun ta nta => ?_⟩
            have s18 : Same H17 (upd H17 ta (.tup [fv k0])) := same_new nta
            have hta : (upd H17 ta (.tup [fv k0])) ta = some (.tup ([k0].map fv)) := upd_same
            generalize upd H17 ta (.tup [fv k0]) = H18 at s18 hta ⊢
            have e18 := e17.trans s18
            refine ⟨x, y, ta, [k0], f0, cs, ts, rfl, ok0.at_.same e18, by omega, pl.same e18, okcB.same e18, oktB.same e18, ok0.own ownf, hta, (fun f hf => by rw [List.mem_singleton] at hf; subst hf; exact (fat _ hk0).imm (same_imm e18)), (fun f hf => by rw [List.mem_singleton] at hf; subst hf; exact ownf _ hk0), by show 1 ≤ 5000; decide, fun so fo H19 s19 nn19 st19 km19 sub19 => ?_⟩
            have km : ∀ k, k ∈ keysF fo ↔ (k ∈ keysF f0 ∧ ¬ k ∈ keysF [k0]) := km19
            refine kk _ _ ⟨so, fo, rfl, s18.trans s19, ⟨st19, fun f hf => ?_⟩, ?_, fun z hz => ?_⟩
            · rcases sub19 f hf with h | h
              · exact ok0.sub f h
              · rw [List.mem_singleton] at h; subst h; exact hk0
            · rw [km, one]
              exact ⟨fun _ h => h.2 rfl, fun _ => of_decide_eq_true hb⟩
            · rw [km, one]
              exact ⟨fun h => ⟨h, hz⟩, fun h => h.1⟩
          · refine ⟨_, rfl, x, dx1, _, rfl, e17 _ _ hx1, noT, _, rfl, [.ref x], [fv k0], rfl, rfl, by show 1 ≤ sizeLine; decide, fun ta nta => ?_⟩
            have s18 : Same H17 (upd H17 ta (.tup [fv k0])) := same_new nta
            have hta : (upd H17 ta (.tup [fv k0])) ta = some (.tup ([k0].map fv)) := upd_same
            generalize upd H17 ta (.tup [fv k0]) = H18 at s18 hta ⊢
            have e18 := e17.trans s18
            refine ⟨x, y, ta, [k0], f0, cs, ts, rfl, ok0.at_.same e18, by omega, pl.same e18, okcB.same e18, oktB.same e18, ok0.own ownf, hta, (fun f hf => by rw [List.mem_singleton] at hf; subst hf; exact (fat _ hk0).imm (same_imm e18)), (fun f hf => by rw [List.mem_singleton] at hf; subst hf; exact ownf _ hk0), by show 1 ≤ 5000; decide, fun so fo H19 s19 nn19 st19 km19 sub19 => ?_⟩
            have km : ∀ k, k ∈ keysF fo ↔ (k ∈ keysF f0 ∨ k ∈ keysF [k0]) := km19
            refine kk _ _ ⟨so, fo, rfl, s18.trans s19, ⟨st19, fun f hf => ?_⟩, ?_, fun z hz => ?_⟩
            · rcases sub19 f hf with h | h
              · exact ok0.sub f h
              · rw [List.mem_singleton] at h; subst h; exact hk0
            · rw [km, one]
              exact ⟨fun h => absurd h (of_decide_eq_false hb), fun h => absurd (.inr rfl) h⟩
            · rw [km, one]
              exact ⟨.inl, fun h => h.elim id fun h => absurd h hz⟩
          · rintro v H18 ⟨so, fo, rfl, s18, okO, c1, c2⟩
            have g18 := g17.same s18
            have e18 := g18.ex
            obtain ⟨r0', hr0, ho0⟩ := ownf k0 hk0
            refine ⟨_, rfl, _, rfl, y, k0, cs, ts, rfl, pl.same e18, okcB.same e18, oktB.same e18, (fat k0 hk0).imm (same_imm e18), ownf k0 hk0, fun t tl H19 s19 ht latT ktl => ?_⟩
            have e19 := e18.trans s19
            have tlS : ∀ l ∈ tl, l.2 ∈ sidesOf k0.2.2 := fun l hl => by rw [← ktl]; exact List.mem_map.mpr ⟨l, hl, rfl⟩
            have tlO : ∀ l ∈ tl, ∃ r ∈ ts, LofT cs r l.2 := fun l hl => by
              obtain ⟨l', h1, h2⟩ := List.mem_map.mp ((side_in nd elsm hr0 ho0).mp (tlS l hl)).1
              rw [← h2]; exact ownl l' h1
            have tll : tl.length ≤ 2 := by
              have h := congrArg List.length ktl
              rw [List.length_map, sides_len ho0] at h
              have := (oft_len ho0).2.1
              omega
            have tln : ∀ l ∈ tl, PyData.strOk l.2.1 = true := fun l hl => by
              obtain ⟨r, hr, hk⟩ := tlO l hl
              rw [hk.1]; exact name_ok (oktB.nm r hr)
            have lsn : ∀ l ∈ ls, PyData.strOk l.2.1 = true := fun l hl => by
              obtain ⟨r, hr, hk⟩ := ownl l hl
              rw [hk.1]; exact name_ok (oktB.nm r hr)
            refine ⟨_, rfl, pk, rfl, ⟨_, lof (e19 _ _ hpk')⟩, fun D nD => ?_⟩
            refine lc_filter (v := lv) (xs := ls) (fun l => !decide (l.2 ∈ tl.map (·.2))) (walk_list (K := K) (a := pk) (xs := ls.map lv)) nD (fun H' s' => lof (s' _ _ (e19 _ _ hpk'))) (by omega) (fun l H20 Q1 Q2 hl s20 k1 k2 => ?_) (fun H20 s20 hD20 => ?_)
            · refine ⟨rfl, _, rfl, _, rfl, lkD l.2, (tl.map (·.2)).map lkD, dp_lk (s20 _ _ (e19 _ _ (lat l hl))), .tup (tof (s20 _ _ ht)) (dp_lks fun z hz => s20 _ _ (latT z hz)), ?_, shaped_tup (lay_lks fun k hk => ?_) depth_lks, ?_⟩
              · have a1 := lay_lk l.2 (lsn l hl)
                have a2 := lk_depth l.2
                show (PyData.canLay0 (lkD l.2) && decide (PyData.depth (lkD l.2) ≤ 64)) = true
                rw [a1, Bool.true_and]; exact decide_eq_true (by omega)
              · obtain ⟨z, hz, rfl⟩ := List.mem_map.mp hk
                exact tln z hz
              · rw [any_lk]
                refine ⟨_, rfl, ?_⟩
                cases hp : decide (l.2 ∈ tl.map (·.2)) with
                | false => exact iteT ⟨_, rfl, k1 (by rw [hp]; rfl) _ (Same.refl _)⟩
                | true => exact iteF (k2 (by rw [hp]; rfl) _ (Same.refl _))
            have e20 := e19.trans s20
            have lkR : LksAt H20 D (ls.filter fun l => !decide (l.2 ∈ tl.map (·.2))) cs ts := ⟨hD20, fun z hz => e20 _ _ (lat z (List.mem_filter.mp hz).1), fun z hz => ownl z (List.mem_filter.mp hz).1, Nat.le_trans (List.length_filter_le _ _) llen⟩
            have okO20 := okO.same (s19.trans s20)
            have tw : TwoAt P w H20 C S x so y f0 fo cs ts := two_at (ok0.same e20) okO20 flen (pl.same e20) (okcB.same e20) (oktB.same e20) ownf
            have rest1 : agreeB (keysF f0) (keysF fo) ((ls.filter fun l => !decide (l.2 ∈ tl.map (·.2))).map (·.2)) = true := change_rest nd elsm ok0.asc okO20.asc hr0 ho0 c2 fun l hl => by
              obtain ⟨z, hz, rfl⟩ := List.mem_map.mp hl
              obtain ⟨z1, z2⟩ := List.mem_filter.mp hz
              refine ⟨List.mem_map.mpr ⟨z, z1, rfl⟩, fun h => ?_⟩
              rw [← ktl] at h
              rw [decide_eq_true h] at z2; cases z2
            refine ⟨_, rfl, _, rfl, _, rfl, ⟨_, _, _, _, _, _, _, _, _, rfl, tw.s1, tw.s2, Nat.le_trans tw.l1 (by decide), Nat.le_trans tw.l2 (by decide), tw.pl, tw.okc, tw.okt, tw.o1, tw.o2, lkR.h, lkR.at_, lkR.own, Nat.le_trans lkR.len (by decide), fun H21 s21 => ?_⟩⟩
            rw [rest1]
            refine ⟨true, rfl, iteF ?_⟩
            have ht21 := s21 _ _ (s20 _ _ ht)
            refine ⟨_, rfl, t, rfl, ⟨_, tof ht21⟩, fun D3 nD3 => ?_⟩
            refine lc_filter (v := lv) (xs := tl) (fun l => agreeB (keysF f0) (keysF fo) [l.2]) (walk_tup (K := K) (a := t) (xs := tl.map lv)) nD3 (fun H' s' => tof (s' _ _ ht21)) (by omega) (fun l H22 Q1 Q2 hl s22 k1 k2 => ?_) (fun H22 s22 hD22 => ?_)
            · refine ⟨rfl, _, rfl, _, rfl, _, rfl, by show 1 ≤ sizeLine; decide, fun n1 hn1 => ?_⟩
              have s23 : Same H22 (upd H22 n1 (.lst [lv l])) := same_new hn1
              have h23 : (upd H22 n1 (.lst [lv l])) n1 = some (.lst ([l].map lv)) := upd_same
              generalize upd H22 n1 (.lst [lv l]) = H23 at s23 h23 ⊢
              have s2023 := s21.trans (s22.trans s23)
              have tw23 := tw.same s2023
              have lk1 : LksAt H23 n1 [l] cs ts := ⟨h23, (fun z hz => by rw [List.mem_singleton] at hz; subst hz; exact (s20.trans s2023) _ _ (latT _ hl)), (fun z hz => by rw [List.mem_singleton] at hz; subst hz; exact tlO _ hl), by show 1 ≤ 1000; decide⟩
              refine ⟨_, _, _, _, _, _, _, _, _, rfl, tw23.s1, tw23.s2, Nat.le_trans tw23.l1 (by decide), Nat.le_trans tw23.l2 (by decide), tw23.pl, tw23.okc, tw23.okt, tw23.o1, tw23.o2, lk1.h, lk1.at_, lk1.own, Nat.le_trans lk1.len (by decide), fun H24 s24 => ?_⟩
              show ∃ c, V.bl (agreeB (keysF f0) (keysF fo) [l.2]) = .bl c ∧ _
              refine ⟨_, rfl, ?_⟩
              cases hp : agreeB (keysF f0) (keysF fo) [l.2] with
              | true => exact iteT ⟨_, rfl, k1 hp _ (s23.trans s24)⟩
              | false => exact iteF (k2 hp _ (s23.trans s24))
            have emp : tl.filter (fun l => agreeB (keysF f0) (keysF fo) [l.2]) = [] := List.filter_eq_nil_iff.mpr fun l hl => by
              rw [change_own nd elsm hr0 ho0 c1 (tlS l hl)]; decide
            rw [emp] at hD22
            refine ⟨Nat.zero_le _, fun n2 hn2 => ?_⟩
            have s23 : Same H22 (upd H22 n2 (.lst [])) := same_new hn2
            have h23 : (upd H22 n2 (.lst [])) n2 = some (.lst []) := upd_same
            have hD23 := s23 _ _ hD22
            generalize upd H22 n2 (.lst []) = H23 at s23 h23 hD23 ⊢
            refine ne_nil (B := H23) (xs := []) (fun _ z => nomatch z) (Same.refl _) hD23 h23 ⟨_, rfl, ?_⟩
            rw [decide_eq_true rfl]
            exact iteF ⟨_, _, _, _, _, _, _, _, _, _, _, _, _, _, _, _, _, _, _, rfl, (g18.same (s19.trans (s20.trans (s21.trans (s22.trans s23))))).st⟩
    · rintro σ H4 ⟨x2, x3, x4, x5, x6, x7, x8, x9, x10, x11, x12, x13, x14, x15, x16, x17, x18, x19, x20, rfl, st4⟩
      exact q _
end
end As

/-! ## C1 -/
namespace As
open PySem PySem.Spec PyProof.Rows L2 TL
open PySem.W (dataLe AllAlike Sortable dataLt alike)
section
variable {P : Program} {w : World} {K : PySem.W.Frag} {mg : Str → Option Value} {base : Heap}
abbrev nLFacts : List Str := ["columns", "tables", "sizes", "found", "name", "parts", "value", "other"]
theorem sc_lfacts : FnScope nLFacts ["columns", "tables"] (defScope s_lfacts) := ⟨rfl, rfl, rfl, by decide +kernel, rfl, by decide +kernel, by decide +kernel⟩
theorem ok_lfacts {f : Addr} {fd : FuncData} (D : Df K mg "_law_facts" s_lfacts ["columns", "tables"] f fd) (T : Bi mg) : FnOk P w K mg base CX0 1 f fd ["columns", "tables"] spLFacts := by
  refine D.F.ok sc_lfacts (fun vs H Q E h => ?_) (fun cdv A outer s H vs Q E hr h => ?_)
  · obtain ⟨cl, tl, cs, ts, rfl, _⟩ := h; rfl
  · obtain ⟨cl, tl, cs, ts, rfl, hcl, htl, okc, okt, q⟩ := h
    refine ⟨_, pss_cons (ps_par (i := 2) (j := 3) rfl sc_lfacts.nd rfl rfl (by decide) rfl rfl (pa_cons (pe_callTy (call_dictP rfl) (by rfl) T.dict (by decide +kernel) (pa_cons (pv 0) pa_nil)) (pa_cons (pe_lst pa_nil) pa_nil)) (by rfl))
      (pss_cons (ps_for PassesOwn.never rfl (pi_list (pv 1)) (pg_tup rfl (pgs_cons (pg_name (i := 4) sc_lfacts.nd rfl (Or.inr rfl)) (pgs_cons (pg_name (i := 5) sc_lfacts.nd rfl (Or.inl rfl)) pgs_nil)))
        (pss_one (ps_for PassesOwn.never rfl (pi_range1 rfl T.range (pa_cons (pe_dget (hu_of hr) (pv 2) (pe_ix ix_tup (pv 5) pe_int (fun _ _ => rfl)) (fun _ _ => rfl)) pa_nil)) (pg_name (i := 6) sc_lfacts.nd rfl (Or.inr rfl))
          (pss_one (ps_if (pt_cmpR op_eq (pe_callB call_len_seq (by rfl) T.len PySem.boot_len (pa_cons (pv 5) pa_nil)) pe_int (nomark _))
            (pss_one (ps_expr (pe_bm PySem.F.plainAttrs_list PySem.F.slot_list_append PySem.F.type_list_append mt_append (pv 3) (pa_cons (pe_tup (pa_cons (pv 4) (pa_cons (pe_tup (pa_cons (pv 6) pa_nil)) pa_nil))) pa_nil))))
            (pss_one (ps_set (i := 3) sc_lfacts.nd rfl (Or.inl rfl) (pe_op op_cat (pv 3) (pe_lc (own := [("other", 7)]) (g := gName 7) (tt := tYes) rfl sc_lfacts.nd (pi_range1 rfl T.range (pa_cons (pe_dget (hu_of hr) (pv 2) (pe_ix ix_tup (pv 5) pe_int (fun _ _ => rfl)) (fun _ _ => rfl)) pa_nil))
              (blkOk_by (N := nLFacts) (sc := defScope s_lfacts) (by decide +kernel)) (fun _ _ _ _ _ => pg_name (i := 7) sc_lfacts.nd rfl (Or.inl rfl)) (fun _ _ _ _ _ => pts_nil)
              (fun _ _ _ _ _ => pe_tup (pa_cons (pv 4) (pa_cons (pe_tup (pa_cons (pv 6) (pa_cons (pv 7) pa_nil))) pa_nil))))))))))))
      (pss_one (ps_ret (pe_callB (cr_sortedD (hu64 hr)) (by rfl) T.sorted (by decide +kernel) (pa_cons (pv 3) pa_nil))))), ?_⟩
    refine ⟨_, rfl, cl, cs.map (·.1), colsD cs, rfl, lof (by rw [cols_refs]; exact hcl), cols_pairs okc, fun sz nsz => ?_⟩
    rw [mergeK_cols okc]
    refine ⟨Nat.zero_le _, fun f nf => ⟨_, _, rfl, ?_⟩⟩
    have s0 : Same H (upd (upd H sz (.dK (colsD cs))) f (.lst [])) := (same_new nsz).trans (same_new nf)
    have hz0 : (upd (upd H sz (.dK (colsD cs))) f (.lst [])) sz = some (.dK (colsD cs)) := same_new nf _ _ upd_same
    have hf0 : (upd (upd H sz (.dK (colsD cs))) f (.lst [])) f = some (.lst []) := upd_same
    have Hf : H f = none := (same_new nsz).free nf
    generalize upd (upd H sz (.dK (colsD cs))) f (.lst []) = H0 at s0 hz0 hf0
    refine ⟨_, rfl, tl, rfl, ⟨_, lof (s0 _ _ htl)⟩, for_list (K := K) (a := tl) (xs := ts.map tv) (fun i σ H' => ∃ (f : Addr) (fs : List FRow) (x4 x5 x6 x7 : Option V), σ = [some (.ref cl), some (.ref tl), some (.ref sz), some (.ref f), x4, x5, x6, x7] ∧ Same H H' ∧ H f = none ∧ H' sz = some (.dK (colsD cs)) ∧
        H' f = some (.lst (fs.map fv)) ∧ (∀ r ∈ fs, FAt H' r) ∧ fs.map (·.2.2) = (ts.take i).flatMap (factsT cs))
      ⟨f, [], none, none, none, none, rfl, s0, Hf, hz0, hf0, (fun _ z => nomatch z), rfl⟩ (fun i σ H' _ ⟨_, _, _, _, _, _, _, s', _⟩ => lof (s' _ _ htl)) ?_ ?_⟩
    · rintro i x σ H1 hx ⟨f, fs, x4, x5, x6, x7, rfl, s1, nf, hz1, hf1, fat, key⟩
      have hi : i < ts.length := by have := (List.getElem?_eq_some_iff.mp hx).1; rw [List.length_map] at this; exact this
      obtain ⟨r, hr⟩ : ∃ r, ts[i] = r := ⟨_, rfl⟩
      have ex : x = tv r := by
        rw [List.getElem?_map, List.getElem?_eq_getElem hi, hr] at hx; exact (Option.some.inj hx).symm
      subst ex
      have hm : r ∈ ts := hr ▸ List.getElem_mem hi
      obtain ⟨ra, n, qa, ps⟩ := r
      have hrow := okt.row _ hm
      have hprt := okt.prt _ hm
      have htwo := okt.two _ hm
      have hown := okt.own _ hm
      have le6 := sizeI_le okc
      dsimp only at hrow hprt htwo hown
      obtain ⟨c, pr, rfl⟩ : ∃ c pr, ps = c :: pr := by
        match ps, htwo with
        | c :: pr, _ => exact ⟨c, pr, rfl⟩
      obtain ⟨vc, c1, c6⟩ := valV_sz okc (hown c List.mem_cons_self)
      have fT : factsT cs (ra, n, qa, c :: pr) = factsUp cs n (c :: pr) (sizeI cs c).toNat := rfl
      have tk : ts.take (i + 1) = ts.take i ++ [(ra, n, qa, c :: pr)] := by rw [List.take_succ, List.getElem?_eq_getElem hi, hr]; rfl
      have Llen : ((ts.take i).flatMap (factsT cs)).length ≤ 36 * 8 := by
        have h1 := flat_len (f := factsT cs) (m := 36) (l := ts.take i) fun x hx => by
          have h2 : (factsT cs x).length ≤ 6 * firstN cs x.2.2.2 := factsUp_len le6
          have h3 : firstN cs x.2.2.2 ≤ 6 := by unfold firstN; have := le6 (x.2.2.2.headD ⟨#[]⟩); omega
          omega
        have h4 := List.length_take_le i ts
        have h5 := okt.len.2
        have h6 : 36 * (ts.take i).length ≤ 36 * 8 := Nat.mul_le_mul_left _ (by omega)
        omega
      refine ⟨ra, _, rfl, tof (s1 _ _ hrow), rfl, _, _, rfl, _, _, rfl, rfl, ?_⟩
      have gz := fun (H2 : Hp) (h : H2 sz = some (.dK (colsD cs))) (c : Str) => DGet.k (k := Sum.inr c) h
      have g1 := gz H1 hz1 c
      rw [vc] at g1
      refine ⟨_, rfl, _, rfl, qa, _, 0, .str c, rfl, rfl, tof (s1 _ _ hprt), atI_lt (i := 0) (by decide) (by simp) rfl, sz, .int (sizeI cs c), rfl, g1, sizeI cs c, rfl, by omega, by omega, for_range (lo := 0) (fun j σ H2 => ∃ (f : Addr) (fs : List FRow) (x6 x7 : Option V), σ = [some (.ref cl), some (.ref tl), some (.ref sz), some (.ref f), some (.str n), some (.ref qa), x6, x7] ∧ Same H H2 ∧ H f = none ∧ H2 sz = some (.dK (colsD cs)) ∧
        H2 f = some (.lst (fs.map fv)) ∧ (∀ r ∈ fs, FAt H2 r) ∧ fs.map (·.2.2) = (ts.take i).flatMap (factsT cs) ++ factsUp cs n (c :: pr) j) ⟨f, fs, x6, x7, rfl, s1, nf, hz1, hf1, fat, ?_⟩ ?_ ?_⟩
      · rw [key]
        have e : factsUp cs n (c :: pr) 0 = [] := by
          unfold factsUp
          split <;> rfl
        rw [e, List.append_nil]
      · rintro j σ H2 hj ⟨f, fs, x6, x7, rfl, s2, nf, hz2, hf2, fat, key⟩
        have hj6 : j ≤ 6 := by omega
        have flen : fs.length ≤ 36 * 8 + 6 * j := by
          have h1 : (fs.map (·.2.2)).length = fs.length := List.length_map _
          have h2 := factsUp_len (n := n) (ps := c :: pr) (j := j) le6
          rw [key, List.length_append] at h1
          omega
        rw [show (0 : Int) + (j : Nat) = (j : Nat) from Int.zero_add _]
        refine ⟨_, rfl, qa, _, rfl, .inr (tof (s2 _ _ hprt)), ⟨rfl, _, rfl, ?_⟩⟩
        rcases pr with _ | ⟨d, _ | ⟨e, pr⟩⟩
        · refine iteT ?_
          refine ⟨_, rfl, .inl ⟨rfl, _, lof hf2⟩, _, rfl, _, rfl, by show 1 ≤ sizeLine; decide, fun qq nq => ⟨by show 2 ≤ sizeLine; decide, fun t nt => ?_⟩⟩
          have s3 : Same H2 (upd (upd H2 qq (.tup [.int (j : Nat)])) t (.tup [.str n, .ref qq])) := (same_new nq).trans (same_new nt)
          have k1 : (upd (upd H2 qq (.tup [.int (j : Nat)])) t (.tup [.str n, .ref qq])) qq = some (.tup [.int (j : Nat)]) := same_new nt _ _ upd_same
          have k2 : (upd (upd H2 qq (.tup [.int (j : Nat)])) t (.tup [.str n, .ref qq])) t = some (.tup [.str n, .ref qq]) := upd_same
          generalize upd (upd H2 qq (.tup [.int (j : Nat)])) t (.tup [.str n, .ref qq]) = H3 at s3 k1 k2 ⊢
          have hf3 := s3 _ _ hf2
          have im := imm_lst (o := .lst (fs.map fv ++ [.ref t])) hf3
          refine ⟨f, _, .ref t, rfl, rfl, hf3, ?_, f, fs ++ [(t, qq, n, [(j : Int)])], _, _, rfl, same_mut (s2.trans s3) nf, nf, ?_, ?_, fun x hx => ?_, ?_⟩
          · rw [List.length_map]; exact Nat.lt_of_le_of_lt (show fs.length ≤ 1000 by omega) (by decide)
          · rw [upd_ne (fun z => by subst z; rw [s3 _ _ hz2] at hf3; cases hf3)]; exact s3 _ _ hz2
          · rw [upd_same, List.map_append]; rfl
          · rcases List.mem_append.mp hx with hx | hx
            · exact ((fat x hx).imm (same_imm s3)).imm im
            · rw [List.mem_singleton] at hx; subst hx; exact ⟨im _ _ k2, im _ _ k1⟩
          · rw [List.map_append, key, List.append_assoc]
            rw [factsUp_one]; rfl
        · refine iteF ?_
          obtain ⟨vd, d1, d6⟩ := valV_sz okc (hown d (by simp))
          have g2 := gz H2 hz2 d
          rw [vd] at g2
          refine ⟨_, rfl, _, rfl, _, rfl, qa, _, 1, .str d, rfl, rfl, tof (s2 _ _ hprt), atI_lt (i := 1) (by decide) (by simp) rfl, sz, .int (sizeI cs d), rfl, g2, sizeI cs d, rfl, by omega, by omega, fun D nD => ?_⟩
          refine lc_new (H1 := H2) walk_range nD (fun _ _ => trivial) (Nat.lt_of_le_of_lt (show (sizeI cs d).toNat ≤ 6 by omega) (by decide)) (fun i acc H' => ∃ gs : List FRow, acc = gs.map fv ∧ (∀ r ∈ gs, FAt H' r) ∧ gs.map (·.2.2) = (ir i).map fun o => ((n, [(j : Int), o]) : FK))
            ⟨[], rfl, (fun _ z => nomatch z), rfl⟩ (fun i acc H H' im ⟨gs, e, fa, k⟩ => ⟨gs, e, fun r hr => (fa r hr).imm im, k⟩) (fun o H3 acc Q1 Q2 ho s3 ⟨gs, e, fa, k⟩ k1 k2 => ?_) (fun H3 acc s3 hD3 ⟨gs, e, fa, k⟩ => ?_)
          · rw [show (0 : Int) + (o : Nat) = (o : Nat) from Int.zero_add _]
            subst e
            refine ⟨rfl, ?_⟩
            refine iteT (B := Q2 H3) ?_
            refine ⟨_, rfl, _, rfl, _, rfl, by show 2 ≤ sizeLine; decide, fun qq nq => ⟨by show 2 ≤ sizeLine; decide, fun t nt => ?_⟩⟩
            have s4 : Same H3 (upd (upd H3 qq (.tup [.int (j : Nat), .int (o : Nat)])) t (.tup [.str n, .ref qq])) := (same_new nq).trans (same_new nt)
            have k3 : (upd (upd H3 qq (.tup [.int (j : Nat), .int (o : Nat)])) t (.tup [.str n, .ref qq])) qq = some (.tup [.int (j : Nat), .int (o : Nat)]) := same_new nt _ _ upd_same
            refine k1 _ _ s4 ⟨gs ++ [(t, qq, n, [(j : Int), (o : Int)])], ?_, fun x hx => ?_, ?_⟩
            · rw [List.map_append]; rfl
            · rcases List.mem_append.mp hx with hx | hx
              · exact (fa x hx).imm (same_imm s4)
              · rw [List.mem_singleton] at hx; subst hx; exact ⟨upd_same, k3⟩
            · rw [List.map_append, k, ir_succ, List.map_append]; rfl
          · subst e
            have hf3 := s3 _ _ hf2
            have glen : gs.length ≤ 6 := by
              have h1 : (gs.map (·.2.2)).length = gs.length := List.length_map _
              rw [k, List.length_map, ir_len] at h1
              omega
            refine ⟨f, D, _, _, rfl, rfl, hf3, hD3, ?_, fun S nS => ⟨S, fs ++ gs, _, _, rfl, same_new' (s2.trans s3) nS, (s2.trans s3).free nS, same_new nS _ _ (s3 _ _ hz2), ?_, fun x hx => ?_, ?_⟩⟩
            · rw [List.length_map, List.length_map]; exact Nat.le_trans (show fs.length + gs.length ≤ 1000 by omega) (by decide)
            · rw [upd_same, List.map_append]
            · rcases List.mem_append.mp hx with hx | hx
              · exact ((fat x hx).imm (same_imm s3)).imm (imm_new nS)
              · exact (fa x hx).imm (imm_new nS)
            · rw [List.map_append, key, k, List.append_assoc]
              rw [factsUp_two]
        · exfalso; simp at htwo
      · rintro σ H2 ⟨f, fs, x6, x7, rfl, s2, nf, hz2, hf2, fat, key⟩
        refine ⟨f, fs, _, _, _, _, rfl, s2, nf, hz2, hf2, fat, ?_⟩
        rw [key, tk, List.flatMap_append, List.flatMap_cons, List.flatMap_nil, List.append_nil, fT]
    · rintro σ H1 ⟨f, fs, x4, x5, x6, x7, rfl, s1, nf, hz1, hf1, fat, key⟩
      rw [List.length_map, List.take_length] at key
      refine ⟨_, rfl, FRow, f, fs, fv, (fun r => fkD r.2.2), rfl, lof hf1, (fun r hr => ⟨dp_fk (fat r hr), ?_⟩), fk_all _ _, fk_sortable _ _, fun p np => ?_⟩
      · have := fk_depth r.2.2; show (fkD r.2.2).depth ≤ 60; omega
      · refine q p (fs.mergeSort (dataLe false fun r => fkD r.2.2)) _ (same_new' s1 np) (s1.free np) upd_same (fun r hr => (fat r ((List.mergeSort_perm _ _).mem_iff.mp hr)).imm (imm_new np)) ?_
        rw [← key]
        exact PySem.W.sort_maps (r := dataLe false fun r : FRow => fkD r.2.2) (s := dataLe false fkD) (fun r : FRow => r.2.2) fun _ _ _ _ => rfl
end
end As

/-! ## C2 -/
namespace As
open PySem PySem.Spec PyProof.Rows L2 TL
open PySem.W (dataLe AllAlike Sortable dataLt alike)
section
variable {P : Program} {w : World} {K : PySem.W.Frag} {mg : Str → Option Value} {base : Heap}
abbrev nLLooks : List Str := ["columns", "tables", "sizes", "found", "name", "parts", "side", "part", "value"]
theorem sc_llooks : FnScope nLLooks ["columns", "tables"] (defScope s_llooks) := ⟨rfl, rfl, rfl, by decide +kernel, rfl, by decide +kernel, by decide +kernel⟩
theorem ok_llooks {f : Addr} {fd : FuncData} (D : Df K mg "_law_looks" s_llooks ["columns", "tables"] f fd) (T : Bi mg) (en : mg "enumerate" = none) : FnOk P w K mg base CX0 1 f fd ["columns", "tables"] spLLooks := by
  refine D.F.ok sc_llooks (fun vs H Q E h => ?_) (fun cdv A outer s H vs Q E hr h => ?_)
  · obtain ⟨cl, tl, cs, ts, rfl, _⟩ := h; rfl
  · obtain ⟨cl, tl, cs, ts, rfl, hcl, htl, okc, okt, q⟩ := h
    refine ⟨_, pss_cons (ps_par (i := 2) (j := 3) rfl sc_llooks.nd rfl rfl (by decide) rfl rfl (pa_cons (pe_callTy (call_dictP rfl) (by rfl) T.dict (by decide +kernel) (pa_cons (pv 0) pa_nil)) (pa_cons (pe_lst pa_nil) pa_nil)) (by rfl))
      (pss_cons (ps_for PassesOwn.never rfl (pi_list (pv 1)) (pg_tup rfl (pgs_cons (pg_name (i := 4) sc_llooks.nd rfl (Or.inr rfl)) (pgs_cons (pg_name (i := 5) sc_llooks.nd rfl (Or.inl rfl)) pgs_nil)))
        (pss_one (ps_for PassesOwn.never rfl (pi_enumT (by rfl) en (pa_cons (pv 5) pa_nil)) (pg_tup rfl (pgs_cons (pg_name (i := 6) sc_llooks.nd rfl (Or.inr rfl)) (pgs_cons (pg_name (i := 7) sc_llooks.nd rfl (Or.inl rfl)) pgs_nil)))
          (pss_one (ps_set (i := 3) sc_llooks.nd rfl (Or.inl rfl) (pe_op op_cat (pv 3) (pe_lc (own := [("value", 8)]) (g := gName 8) (tt := tYes) rfl sc_llooks.nd (pi_range1 rfl T.range (pa_cons (pe_dget (hu_of hr) (pv 2) (pv 7) (fun _ _ => rfl)) pa_nil))
              (blkOk_by (N := nLLooks) (sc := defScope s_llooks) (by decide +kernel)) (fun _ _ _ _ _ => pg_name (i := 8) sc_llooks.nd rfl (Or.inl rfl)) (fun _ _ _ _ _ => pts_nil)
              (fun _ _ _ _ _ => pe_tup (pa_cons (pv 4) (pa_cons (pv 6) (pa_cons (pv 8) pa_nil)))))))))))
      (pss_one (ps_ret (pe_callB (cr_sortedD (hu64 hr)) (by rfl) T.sorted (by decide +kernel) (pa_cons (pv 3) pa_nil))))), ?_⟩
    refine ⟨_, rfl, cl, cs.map (·.1), colsD cs, rfl, lof (by rw [cols_refs]; exact hcl), cols_pairs okc, fun sz nsz => ?_⟩
    rw [mergeK_cols okc]
    refine ⟨Nat.zero_le _, fun f nf => ⟨_, _, rfl, ?_⟩⟩
    have s0 : Same H (upd (upd H sz (.dK (colsD cs))) f (.lst [])) := (same_new nsz).trans (same_new nf)
    have hz0 : (upd (upd H sz (.dK (colsD cs))) f (.lst [])) sz = some (.dK (colsD cs)) := same_new nf _ _ upd_same
    have hf0 : (upd (upd H sz (.dK (colsD cs))) f (.lst [])) f = some (.lst []) := upd_same
    have Hf : H f = none := (same_new nsz).free nf
    generalize upd (upd H sz (.dK (colsD cs))) f (.lst []) = H0 at s0 hz0 hf0
    refine ⟨_, rfl, tl, rfl, ⟨_, lof (s0 _ _ htl)⟩, for_list (K := K) (a := tl) (xs := ts.map tv) (fun i σ H' => ∃ (f : Addr) (fs : List LRow) (x4 x5 x6 x7 x8 : Option V), σ = [some (.ref cl), some (.ref tl), some (.ref sz), some (.ref f), x4, x5, x6, x7, x8] ∧ Same H H' ∧ H f = none ∧ H' sz = some (.dK (colsD cs)) ∧
        H' f = some (.lst (fs.map lv)) ∧ (∀ r ∈ fs, LAt H' r) ∧ fs.map (·.2) = (ts.take i).flatMap (looksT cs))
      ⟨f, [], none, none, none, none, none, rfl, s0, Hf, hz0, hf0, (fun _ z => nomatch z), rfl⟩ (fun i σ H' _ ⟨_, _, _, _, _, _, _, _, s', _⟩ => lof (s' _ _ htl)) ?_ ?_⟩
    · rintro i x σ H1 hx ⟨f, fs, x4, x5, x6, x7, x8, rfl, s1, nf, hz1, hf1, fat, key⟩
      have hi : i < ts.length := by have := (List.getElem?_eq_some_iff.mp hx).1; rw [List.length_map] at this; exact this
      obtain ⟨r, hr⟩ : ∃ r, ts[i] = r := ⟨_, rfl⟩
      have ex : x = tv r := by
        rw [List.getElem?_map, List.getElem?_eq_getElem hi, hr] at hx; exact (Option.some.inj hx).symm
      subst ex
      have hm : r ∈ ts := hr ▸ List.getElem_mem hi
      obtain ⟨ra, n, qa, ps⟩ := r
      have hrow := okt.row _ hm
      have hprt := okt.prt _ hm
      have htwo := okt.two _ hm
      have hown := okt.own _ hm
      have le6 := sizeI_le okc
      dsimp only at hrow hprt htwo hown
      have fT : looksT cs (ra, n, qa, ps) = looksUp cs n ps ps.length := rfl
      have tk : ts.take (i + 1) = ts.take i ++ [(ra, n, qa, ps)] := by rw [List.take_succ, List.getElem?_eq_getElem hi, hr]; rfl
      have Llen : ((ts.take i).flatMap (looksT cs)).length ≤ 12 * 8 := by
        have h1 := flat_len (f := looksT cs) (m := 12) (l := ts.take i) fun x hx => by
          have h2 : (looksT cs x).length ≤ 6 * x.2.2.2.length := looksUp_len le6
          have h3 := (okt.two x (List.mem_of_mem_take hx)).2
          omega
        have h4 := List.length_take_le i ts
        have h5 := okt.len.2
        have h6 : 12 * (ts.take i).length ≤ 12 * 8 := Nat.mul_le_mul_left _ (by omega)
        omega
      refine ⟨ra, _, rfl, tof (s1 _ _ hrow), rfl, _, _, rfl, _, _, rfl, rfl, ?_⟩
      have gz := fun (H2 : Hp) (h : H2 sz = some (.dK (colsD cs))) (c : Str) => DGet.k (k := Sum.inr c) h
      have psl : (ps.map V.str).length = ps.length := List.length_map _
      refine ⟨_, rfl, qa, _, rfl, tof (s1 _ _ hprt), for_it walk_enumT (fun j σ H2 => ∃ (f : Addr) (fs : List LRow) (x6 x7 x8 : Option V), σ = [some (.ref cl), some (.ref tl), some (.ref sz), some (.ref f), some (.str n), some (.ref qa), x6, x7, x8] ∧ Same H H2 ∧ H f = none ∧ H2 sz = some (.dK (colsD cs)) ∧
        H2 f = some (.lst (fs.map lv)) ∧ (∀ r ∈ fs, LAt H2 r) ∧ fs.map (·.2) = (ts.take i).flatMap (looksT cs) ++ looksUp cs n ps j) ⟨f, fs, x6, x7, x8, rfl, s1, nf, hz1, hf1, fat, ?_⟩ (fun j σ H2 _ ⟨_, _, _, _, _, _, s', _⟩ => tof (s' _ _ hprt)) ?_ ?_⟩
      · rw [key]; exact (List.append_nil _).symm
      · rintro j x σ H2 H3 hj ⟨f, fs, x6, x7, x8, rfl, s2, nf, hz2, hf2, fat, key⟩ ⟨T1, ya, yb, rfl, nT, rfl, ha, hb⟩
        rw [psl] at hj
        obtain ⟨d, hd⟩ : ∃ d, ps[j] = d := ⟨_, rfl⟩
        have ea : ya = .int (j : Nat) := (Option.some.inj ha).symm
        have eb : yb = .str d := by
          have hb' : (ps.map V.str)[j]? = some yb := hb
          rw [List.getElem?_map, List.getElem?_eq_getElem hj, hd] at hb'; exact (Option.some.inj hb').symm
        subst ea eb
        have dm : d ∈ ps := hd ▸ List.getElem_mem hj
        obtain ⟨vd, d1, d6⟩ := valV_sz okc (hown d dm)
        have s3 : Same H2 (upd H2 T1 (.tup [.int (j : Nat), .str d])) := same_new nT
        have kT : (upd H2 T1 (.tup [.int (j : Nat), .str d])) T1 = some (.tup [.int (j : Nat), .str d]) := upd_same
        generalize upd H2 T1 (.tup [.int (j : Nat), .str d]) = H3 at s3 kT ⊢
        have flen : fs.length ≤ 12 * 8 + 6 * j := by
          have h1 : (fs.map (·.2)).length = fs.length := List.length_map _
          have h2 := looksUp_len (n := n) (ps := ps) (i := j) le6
          rw [key, List.length_append] at h1
          omega
        refine ⟨T1, _, rfl, tof kT, rfl, _, _, rfl, _, _, rfl, rfl, ?_⟩
        have g2 := gz H3 (s3 _ _ hz2) d
        rw [vd] at g2
        refine ⟨_, rfl, _, rfl, _, rfl, sz, .int (sizeI cs d), rfl, g2, sizeI cs d, rfl, by omega, by omega, fun D nD => ?_⟩
        refine lc_new (H1 := H3) walk_range nD (fun _ _ => trivial) (Nat.lt_of_le_of_lt (show (sizeI cs d).toNat ≤ 6 by omega) (by decide)) (fun i acc H' => ∃ gs : List LRow, acc = gs.map lv ∧ (∀ r ∈ gs, LAt H' r) ∧ gs.map (·.2) = (ir i).map fun v => ((n, (j : Int), v) : LK))
          ⟨[], rfl, (fun _ z => nomatch z), rfl⟩ (fun i acc H H' im ⟨gs, e, fa, k⟩ => ⟨gs, e, fun r hr => (fa r hr).imm im, k⟩) (fun o H4 acc Q1 Q2 ho s4 ⟨gs, e, fa, k⟩ k1 k2 => ?_) (fun H4 acc s4 hD4 ⟨gs, e, fa, k⟩ => ?_)
        · rw [show (0 : Int) + (o : Nat) = (o : Nat) from Int.zero_add _]
          subst e
          refine ⟨rfl, ?_⟩
          refine iteT (B := Q2 H4) ?_
          refine ⟨_, rfl, _, rfl, _, rfl, by show 3 ≤ sizeLine; decide, fun t nt => ?_⟩
          refine k1 _ _ (same_new nt) ⟨gs ++ [(t, n, (j : Int), (o : Int))], ?_, fun x hx => ?_, ?_⟩
          · rw [List.map_append]; rfl
          · rcases List.mem_append.mp hx with hx | hx
            · exact (fa x hx).imm (imm_new nt)
            · rw [List.mem_singleton] at hx; subst hx; exact upd_same
          · rw [List.map_append, k, ir_succ, List.map_append]; rfl
        · subst e
          have s24 := s3.trans s4
          have hf4 := s24 _ _ hf2
          have glen : gs.length ≤ 6 := by
            have h1 : (gs.map (·.2)).length = gs.length := List.length_map _
            rw [k, List.length_map, ir_len] at h1
            omega
          refine ⟨f, D, _, _, rfl, rfl, hf4, hD4, ?_, fun S nS => ⟨S, fs ++ gs, _, _, _, rfl, same_new' (s2.trans s24) nS, (s2.trans s24).free nS, same_new nS _ _ (s24 _ _ hz2), ?_, fun x hx => ?_, ?_⟩⟩
          · rw [List.length_map, List.length_map]; exact Nat.le_trans (show fs.length + gs.length ≤ 1000 by omega) (by decide)
          · rw [upd_same, List.map_append]
          · rcases List.mem_append.mp hx with hx | hx
            · exact ((fat x hx).imm (same_imm s24)).imm (imm_new nS)
            · exact (fa x hx).imm (imm_new nS)
          · rw [List.map_append, key, k, List.append_assoc, looksUp_succ, List.getD_eq_getElem?_getD, List.getElem?_eq_getElem hj, hd]; rfl
      · rintro σ H2 ⟨f, fs, x6, x7, x8, rfl, s2, nf, hz2, hf2, fat, key⟩
        refine ⟨f, fs, _, _, _, _, _, rfl, s2, nf, hz2, hf2, fat, ?_⟩
        rw [key, tk, List.flatMap_append, List.flatMap_cons, List.flatMap_nil, List.append_nil, fT, psl]
    · rintro σ H1 ⟨f, fs, x4, x5, x6, x7, x8, rfl, s1, nf, hz1, hf1, fat, key⟩
      rw [List.length_map, List.take_length] at key
      refine ⟨_, rfl, LRow, f, fs, lv, (fun r => lkD r.2), rfl, lof hf1, (fun r hr => ⟨dp_lk (fat r hr), ?_⟩), lk_all _ _, lk_sortable _ _, fun p np => ?_⟩
      · have := lk_depth r.2; show (lkD r.2).depth ≤ 60; omega
      · refine q p (fs.mergeSort (dataLe false fun r => lkD r.2)) _ (same_new' s1 np) (s1.free np) upd_same (fun r hr => (fat r ((List.mergeSort_perm _ _).mem_iff.mp hr)).imm (imm_new np)) ?_
        rw [← key]
        exact PySem.W.sort_maps (r := dataLe false fun r : LRow => lkD r.2) (s := dataLe false lkD) (fun r : LRow => r.2) fun _ _ _ _ => rfl
end
end As

/-! ## A22 -/
namespace As
open PySem PySem.Spec PyProof.Rows L2
theorem kit_notL {K : PySem.W.Frag} {T : String} {C : Addr} (h1 : PySem.W.hasDictIn K C = true) (h2 : PySem.W.typeIn K (.ref C) = some (.type "type")) (h3 : PySem.W.notFirst K C (.type T) = true) : PySem.W.kitOne K (.type T) (.ref C) = some false := by
  have e : ((Value.type T == Value.ref C) = true) = False := by simp
  obtain ⟨cd, hc, _⟩ := PySem.W.any_some h1
  unfold PySem.W.kitOne PySem.W.kitCls
  rw [if_neg (by rw [e]; exact id)]
  show (if ((PySem.W.clsIn K C).isSome && PySem.W.typeIn K (.ref C) == some (.type "type")) = true then PySem.W.subIn K (.type T) (.ref C) else none) = _
  rw [hc, h2, if_pos (by simp)]
  unfold PySem.W.notFirst at h3
  rw [Bool.or_eq_true] at h3
  rcases h3 with h3 | h3
  · rw [e] at h3; exact h3.elim
  · exact eq_of_beq h3
end As

/-! ## F11 -/
namespace As
open PySem PySem.Spec PyProof.Rows L2 TL
set_option maxHeartbeats 0 in
theorem all_mk {l : PySem.W.OpenLaw} {w : World} {K : PySem.W.Frag} {h : Heap} {mg : Str → Option Value} {fa C : Addr} {t6 t8 wMOST_LETTERS wMOST_VALUES wMOST_SIDES : Tok} (X : K.In h) (G : h.Ns mainGlobals mg) (hfa : mg "law" = some (.ref fa))
    {fnu : Addr} {odnu annu : Option Addr} {slnu : Array (Option Value)} {ocnu kVnu dcnu pmnu cdnu ctnu : Value} {fbe : Addr} {odbe anbe : Option Addr} {slbe : Array (Option Value)} {ocbe kVbe dcbe pmbe cdbe ctbe : Value} {fna : Addr} {odna anna : Option Addr} {slna : Array (Option Value)} {ocna kVna dcna pmna cdna ctna : Value} {fli : Addr} {odli anli : Option Addr} {slli : Array (Option Value)} {ocli kVli dcli pmli cdli ctli : Value} {fpa : Addr} {odpa anpa : Option Addr} {slpa : Array (Option Value)} {ocpa kVpa dcpa pmpa cdpa ctpa : Value} {fco : Addr} {odco anco : Option Addr} {slco : Array (Option Value)} {occo kVco dcco pmco cdco ctco : Value} {fta : Addr} {odta anta : Option Addr} {slta : Array (Option Value)} {octa kVta dcta pmta cdta ctta : Value} {fdi : Addr} {oddi andi : Option Addr} {sldi : Array (Option Value)} {ocdi kVdi dcdi pmdi cddi ctdi : Value} {fac : Addr} {odac anac : Option Addr} {slac : Array (Option Value)} {ocac kVac dcac pmac cdac ctac : Value} {fat : Addr} {odat anat : Option Addr} {slat : Array (Option Value)} {ocat kVat dcat pmat cdat ctat : Value} {fic : Addr} {odic anic : Option Addr} {slic : Array (Option Value)} {ocic kVic dcic pmic cdic ctic : Value} {fil : Addr} {odil anil : Option Addr} {slil : Array (Option Value)} {ocil kVil dcil pmil cdil ctil : Value} {fcf : Addr} {odcf ancf : Option Addr} {slcf : Array (Option Value)} {occf kVcf dccf pmcf cdcf ctcf : Value} {fcks : Addr} {odcks ancks : Option Addr} {slcks : Array (Option Value)} {occks kVcks dccks pmcks cdcks ctcks : Value} {fls : Addr} {odls anls : Option Addr} {slls : Array (Option Value)} {ocls kVls dcls pmls cdls ctls : Value} {fsr : Addr} {odsr ansr : Option Addr} {slsr : Array (Option Value)} {ocsr kVsr dcsr pmsr cdsr ctsr : Value} {faf2 : Addr} {odaf2 anaf2 : Option Addr} {slaf2 : Array (Option Value)} {ocaf2 kVaf2 dcaf2 pmaf2 cdaf2 ctaf2 : Value} {fag : Addr} {odag anag : Option Addr} {slag : Array (Option Value)} {ocag kVag dcag pmag cdag ctag : Value} {fst : Addr} {odst anst : Option Addr} {slst : Array (Option Value)} {ocst kVst dcst pmst cdst ctst : Value} {fdr : Addr} {oddr andr : Option Addr} {sldr : Array (Option Value)} {ocdr kVdr dcdr pmdr cddr ctdr : Value} {fpi : Addr} {odpi anpi : Option Addr} {slpi : Array (Option Value)} {ocpi kVpi dcpi pmpi cdpi ctpi : Value} {fmi : Addr} {odmi anmi : Option Addr} {slmi : Array (Option Value)} {ocmi kVmi dcmi pmmi cdmi ctmi : Value} {fnm : Addr} {odnm annm : Option Addr} {slnm : Array (Option Value)} {ocnm kVnm dcnm pmnm cdnm ctnm : Value} {flc : Addr} {odlc anlc : Option Addr} {sllc : Array (Option Value)} {oclc kVlc dclc pmlc cdlc ctlc : Value} {flt : Addr} {odlt anlt : Option Addr} {sllt : Array (Option Value)} {oclt kVlt dclt pmlt cdlt ctlt : Value} {flf : Addr} {odlf anlf : Option Addr} {sllf : Array (Option Value)} {oclf kVlf dclf pmlf cdlf ctlf : Value} {flk : Addr} {odlk anlk : Option Addr} {sllk : Array (Option Value)} {oclk kVlk dclk pmlk cdlk ctlk : Value} {fpr : Addr} {odpr anpr : Option Addr} {slpr : Array (Option Value)} {ocpr kVpr dcpr pmpr cdpr ctpr : Value} {fpq : Addr} {odpq anpq : Option Addr} {slpq : Array (Option Value)} {ocpq kVpq dcpq pmpq cdpq ctpq : Value} {fla : Addr} {odla anla : Option Addr} {slla : Array (Option Value)} {ocla kVla dcla pmla cdla ctla : Value} {fin : Addr} {odin anin : Option Addr} {slin : Array (Option Value)} {ocin kVin dcin pmin cdin ctin : Value} {feq : Addr} {odeq aneq : Option Addr} {sleq : Array (Option Value)} {oceq kVeq dceq pmeq cdeq cteq : Value} {fsi : Addr} {odsi ansi : Option Addr} {slsi : Array (Option Value)} {ocsi kVsi dcsi pmsi cdsi ctsi : Value} {fsp : Addr} {odsp ansp : Option Addr} {slsp : Array (Option Value)} {ocsp kVsp dcsp pmsp cdsp ctsp : Value}
    {S : Addr} {fsei dTsei eTsei : Addr} {odsei ansei otsei : Option Addr} {slsei stsei : Array (Option Value)} {ntsei : Nat} {ocsei kVsei dcsei pmsei cdsei ctsei cTsei : Value} {fseq : Addr} {odseq anseq : Option Addr} {slseq : Array (Option Value)} {ocseq kVseq dcseq pmseq cdseq ctseq : Value} {fsha : Addr} {odsha ansha : Option Addr} {slsha : Array (Option Value)} {ocsha kVsha dcsha pmsha cdsha ctsha : Value} {fsro : Addr} {odsro ansro : Option Addr} {slsro : Array (Option Value)} {ocsro kVsro dcsro pmsro cdsro ctsro : Value} {fsse : Addr} {odsse ansse : Option Addr} {slsse : Array (Option Value)} {ocsse kVsse dcsse pmsse cdsse ctsse : Value} {fswi : Addr} {odswi answi : Option Addr} {slswi : Array (Option Value)} {ocswi kVswi dcswi pmswi cdswi ctswi : Value} {fswo : Addr} {odswo answo : Option Addr} {slswo : Array (Option Value)} {ocswo kVswo dcswo pmswo cdswo ctswo : Value} {fspp pspp : Addr} {restspp : List Value} {odspp anspp : Option Addr} {slspp : Array (Option Value)} {ocspp kVspp dcspp pmspp cdspp ctspp : Value}
    (anu : PySem.W.nsIn K mainGlobals "is_number" = some (some (.ref fnu)))
    (lnu : K.lookup fnu = some ⟨ocnu, odnu, .func (PySem.W.fnOf "is_number" "is_number" (defArgs s_is_number) (defBody s_is_number) (defScope s_is_number) .none kVnu dcnu pmnu annu cdnu ctnu), slnu⟩)
    (cnu : PySem.W.codeIn K cdnu "is_number" = true)
    (kpnu : PySem.W.keepIn K (.ref fnu) = true)
    (abe : PySem.W.nsIn K mainGlobals "is_below" = some (some (.ref fbe)))
    (lbe : K.lookup fbe = some ⟨ocbe, odbe, .func (PySem.W.fnOf "is_below" "is_below" (defArgs s_is_below) (defBody s_is_below) (defScope s_is_below) .none kVbe dcbe pmbe anbe cdbe ctbe), slbe⟩)
    (cbe : PySem.W.codeIn K cdbe "is_below" = true)
    (kpbe : PySem.W.keepIn K (.ref fbe) = true)
    (ana : PySem.W.nsIn K mainGlobals "is_name" = some (some (.ref fna)))
    (lna : K.lookup fna = some ⟨ocna, odna, .func (PySem.W.fnOf "is_name" "is_name" (defArgs s_is_name) (defBody s_is_name) (defScope s_is_name) .none kVna dcna pmna anna cdna ctna), slna⟩)
    (cna : PySem.W.codeIn K cdna "is_name" = true)
    (kpna : PySem.W.keepIn K (.ref fna) = true)
    (ali : PySem.W.nsIn K mainGlobals "is_list" = some (some (.ref fli)))
    (lli : K.lookup fli = some ⟨ocli, odli, .func (PySem.W.fnOf "is_list" "is_list" (defArgs s_is_list) (defBody s_is_list) (defScope s_is_list) .none kVli dcli pmli anli cdli ctli), slli⟩)
    (cli : PySem.W.codeIn K cdli "is_list" = true)
    (kpli : PySem.W.keepIn K (.ref fli) = true)
    (apa : PySem.W.nsIn K mainGlobals "is_pair" = some (some (.ref fpa)))
    (lpa : K.lookup fpa = some ⟨ocpa, odpa, .func (PySem.W.fnOf "is_pair" "is_pair" (defArgs s_is_pair) (defBody s_is_pair) (defScope s_is_pair) .none kVpa dcpa pmpa anpa cdpa ctpa), slpa⟩)
    (cpa : PySem.W.codeIn K cdpa "is_pair" = true)
    (kppa : PySem.W.keepIn K (.ref fpa) = true)
    (aco : PySem.W.nsIn K mainGlobals "is_column" = some (some (.ref fco)))
    (lco : K.lookup fco = some ⟨occo, odco, .func (PySem.W.fnOf "is_column" "is_column" (defArgs s_is_column) (defBody s_is_column) (defScope s_is_column) .none kVco dcco pmco anco cdco ctco), slco⟩)
    (cco : PySem.W.codeIn K cdco "is_column" = true)
    (kpco : PySem.W.keepIn K (.ref fco) = true)
    (ata : PySem.W.nsIn K mainGlobals "is_table" = some (some (.ref fta)))
    (lta : K.lookup fta = some ⟨octa, odta, .func (PySem.W.fnOf "is_table" "is_table" (defArgs s_is_table) (defBody s_is_table) (defScope s_is_table) .none kVta dcta pmta anta cdta ctta), slta⟩)
    (cta : PySem.W.codeIn K cdta "is_table" = true)
    (kpta : PySem.W.keepIn K (.ref fta) = true)
    (adi : PySem.W.nsIn K mainGlobals "have_distinct_names" = some (some (.ref fdi)))
    (ldi : K.lookup fdi = some ⟨ocdi, oddi, .func (PySem.W.fnOf "have_distinct_names" "have_distinct_names" (defArgs s_have_distinct_names) (defBody s_have_distinct_names) (defScope s_have_distinct_names) .none kVdi dcdi pmdi andi cddi ctdi), sldi⟩)
    (cdi : PySem.W.codeIn K cddi "have_distinct_names" = true)
    (kpdi : PySem.W.keepIn K (.ref fdi) = true)
    (aac : PySem.W.nsIn K mainGlobals "are_columns" = some (some (.ref fac)))
    (lac : K.lookup fac = some ⟨ocac, odac, .func (PySem.W.fnOf "are_columns" "are_columns" (defArgs s_are_columns) (defBody s_are_columns) (defScope s_are_columns) .none kVac dcac pmac anac cdac ctac), slac⟩)
    (cac : PySem.W.codeIn K cdac "are_columns" = true)
    (kpac : PySem.W.keepIn K (.ref fac) = true)
    (aat : PySem.W.nsIn K mainGlobals "are_tables" = some (some (.ref fat)))
    (lat : K.lookup fat = some ⟨ocat, odat, .func (PySem.W.fnOf "are_tables" "are_tables" (defArgs s_are_tables) (defBody s_are_tables) (defScope s_are_tables) .none kVat dcat pmat anat cdat ctat), slat⟩)
    (cat : PySem.W.codeIn K cdat "are_tables" = true)
    (kpat : PySem.W.keepIn K (.ref fat) = true)
    (aic : PySem.W.nsIn K mainGlobals "is_fact" = some (some (.ref fic)))
    (lic : K.lookup fic = some ⟨ocic, odic, .func (PySem.W.fnOf "is_fact" "is_fact" (defArgs s_is_fact) (defBody s_is_fact) (defScope s_is_fact) .none kVic dcic pmic anic cdic ctic), slic⟩)
    (cic : PySem.W.codeIn K cdic "is_fact" = true)
    (kpic : PySem.W.keepIn K (.ref fic) = true)
    (ail : PySem.W.nsIn K mainGlobals "is_look" = some (some (.ref fil)))
    (lil : K.lookup fil = some ⟨ocil, odil, .func (PySem.W.fnOf "is_look" "is_look" (defArgs s_is_look) (defBody s_is_look) (defScope s_is_look) .none kVil dcil pmil anil cdil ctil), slil⟩)
    (cil : PySem.W.codeIn K cdil "is_look" = true)
    (kpil : PySem.W.keepIn K (.ref fil) = true)
    (acf : PySem.W.nsIn K mainGlobals "check_fact" = some (some (.ref fcf)))
    (lcf : K.lookup fcf = some ⟨occf, odcf, .func (PySem.W.fnOf "check_fact" "check_fact" (defArgs s_check_fact) (defBody s_check_fact) (defScope s_check_fact) .none kVcf dccf pmcf ancf cdcf ctcf), slcf⟩)
    (ccf : PySem.W.codeIn K cdcf "check_fact" = true)
    (kpcf : PySem.W.keepIn K (.ref fcf) = true)
    (acks : PySem.W.nsIn K mainGlobals "check_looks" = some (some (.ref fcks)))
    (lcks : K.lookup fcks = some ⟨occks, odcks, .func (PySem.W.fnOf "check_looks" "check_looks" (defArgs s_check_looks) (defBody s_check_looks) (defScope s_check_looks) .none kVcks dccks pmcks ancks cdcks ctcks), slcks⟩)
    (ccks : PySem.W.codeIn K cdcks "check_looks" = true)
    (kpcks : PySem.W.keepIn K (.ref fcks) = true)
    (als : PySem.W.nsIn K mainGlobals "looks_that_see" = some (some (.ref fls)))
    (lls : K.lookup fls = some ⟨ocls, odls, .func (PySem.W.fnOf "looks_that_see" "looks_that_see" (defArgs s_looks_that_see) (defBody s_looks_that_see) (defScope s_looks_that_see) .none kVls dcls pmls anls cdls ctls), slls⟩)
    (cls : PySem.W.codeIn K cdls "looks_that_see" = true)
    (kpls : PySem.W.keepIn K (.ref fls) = true)
    (asr : PySem.W.nsIn K mainGlobals "seers" = some (some (.ref fsr)))
    (lsr : K.lookup fsr = some ⟨ocsr, odsr, .func (PySem.W.fnOf "seers" "seers" (defArgs s_seers) (defBody s_seers) (defScope s_seers) .none kVsr dcsr pmsr ansr cdsr ctsr), slsr⟩)
    (csr : PySem.W.codeIn K cdsr "seers" = true)
    (kpsr : PySem.W.keepIn K (.ref fsr) = true)
    (aaf2 : PySem.W.nsIn K mainGlobals "are_facts" = some (some (.ref faf2)))
    (laf2 : K.lookup faf2 = some ⟨ocaf2, odaf2, .func (PySem.W.fnOf "are_facts" "are_facts" (defArgs s_are_facts) (defBody s_are_facts) (defScope s_are_facts) .none kVaf2 dcaf2 pmaf2 anaf2 cdaf2 ctaf2), slaf2⟩)
    (caf2 : PySem.W.codeIn K cdaf2 "are_facts" = true)
    (kpaf2 : PySem.W.keepIn K (.ref faf2) = true)
    (aag : PySem.W.nsIn K mainGlobals "agree" = some (some (.ref fag)))
    (lag : K.lookup fag = some ⟨ocag, odag, .func (PySem.W.fnOf "agree" "agree" (defArgs s_agree) (defBody s_agree) (defScope s_agree) .none kVag dcag pmag anag cdag ctag), slag⟩)
    (cag : PySem.W.codeIn K cdag "agree" = true)
    (kpag : PySem.W.keepIn K (.ref fag) = true)
    (ast : PySem.W.nsIn K mainGlobals "_law_state" = some (some (.ref fst)))
    (lst : K.lookup fst = some ⟨ocst, odst, .func (PySem.W.fnOf "_law_state" "_law_state" (defArgs s_state) (defBody s_state) (defScope s_state) .none kVst dcst pmst anst cdst ctst), slst⟩)
    (cst : PySem.W.codeIn K cdst "_law_state" = true)
    (kpst : PySem.W.keepIn K (.ref fst) = true)
    (adr : PySem.W.nsIn K mainGlobals "_law_draw" = some (some (.ref fdr)))
    (ldr : K.lookup fdr = some ⟨ocdr, oddr, .func (PySem.W.fnOf "_law_draw" "_law_draw" (defArgs s_draw) (defBody s_draw) (defScope s_draw) .none kVdr dcdr pmdr andr cddr ctdr), sldr⟩)
    (cdr : PySem.W.codeIn K cddr "_law_draw" = true)
    (kpdr : PySem.W.keepIn K (.ref fdr) = true)
    (api : PySem.W.nsIn K mainGlobals "_law_pick" = some (some (.ref fpi)))
    (lpi : K.lookup fpi = some ⟨ocpi, odpi, .func (PySem.W.fnOf "_law_pick" "_law_pick" (defArgs s_pick) (defBody s_pick) (defScope s_pick) .none kVpi dcpi pmpi anpi cdpi ctpi), slpi⟩)
    (cpi : PySem.W.codeIn K cdpi "_law_pick" = true)
    (kppi : PySem.W.keepIn K (.ref fpi) = true)
    (ami : PySem.W.nsIn K mainGlobals "_law_mixed" = some (some (.ref fmi)))
    (lmi : K.lookup fmi = some ⟨ocmi, odmi, .func (PySem.W.fnOf "_law_mixed" "_law_mixed" (defArgs s_mixed) (defBody s_mixed) (defScope s_mixed) .none kVmi dcmi pmmi anmi cdmi ctmi), slmi⟩)
    (cmi : PySem.W.codeIn K cdmi "_law_mixed" = true)
    (kpmi : PySem.W.keepIn K (.ref fmi) = true)
    (anm : PySem.W.nsIn K mainGlobals "_law_names" = some (some (.ref fnm)))
    (lnm : K.lookup fnm = some ⟨ocnm, odnm, .func (PySem.W.fnOf "_law_names" "_law_names" (defArgs s_names) (defBody s_names) (defScope s_names) .none kVnm dcnm pmnm annm cdnm ctnm), slnm⟩)
    (cnm : PySem.W.codeIn K cdnm "_law_names" = true)
    (kpnm : PySem.W.keepIn K (.ref fnm) = true)
    (alc : PySem.W.nsIn K mainGlobals "_law_columns" = some (some (.ref flc)))
    (llc : K.lookup flc = some ⟨oclc, odlc, .func (PySem.W.fnOf "_law_columns" "_law_columns" (defArgs s_lcolumns) (defBody s_lcolumns) (defScope s_lcolumns) .none kVlc dclc pmlc anlc cdlc ctlc), sllc⟩)
    (clc : PySem.W.codeIn K cdlc "_law_columns" = true)
    (kplc : PySem.W.keepIn K (.ref flc) = true)
    (alt : PySem.W.nsIn K mainGlobals "_law_tables" = some (some (.ref flt)))
    (llt : K.lookup flt = some ⟨oclt, odlt, .func (PySem.W.fnOf "_law_tables" "_law_tables" (defArgs s_ltables) (defBody s_ltables) (defScope s_ltables) .none kVlt dclt pmlt anlt cdlt ctlt), sllt⟩)
    (clt : PySem.W.codeIn K cdlt "_law_tables" = true)
    (kplt : PySem.W.keepIn K (.ref flt) = true)
    (alf : PySem.W.nsIn K mainGlobals "_law_facts" = some (some (.ref flf)))
    (llf : K.lookup flf = some ⟨oclf, odlf, .func (PySem.W.fnOf "_law_facts" "_law_facts" (defArgs s_lfacts) (defBody s_lfacts) (defScope s_lfacts) .none kVlf dclf pmlf anlf cdlf ctlf), sllf⟩)
    (clf : PySem.W.codeIn K cdlf "_law_facts" = true)
    (kplf : PySem.W.keepIn K (.ref flf) = true)
    (alk : PySem.W.nsIn K mainGlobals "_law_looks" = some (some (.ref flk)))
    (llk : K.lookup flk = some ⟨oclk, odlk, .func (PySem.W.fnOf "_law_looks" "_law_looks" (defArgs s_llooks) (defBody s_llooks) (defScope s_llooks) .none kVlk dclk pmlk anlk cdlk ctlk), sllk⟩)
    (clk : PySem.W.codeIn K cdlk "_law_looks" = true)
    (kplk : PySem.W.keepIn K (.ref flk) = true)
    (apr : PySem.W.nsIn K mainGlobals "_law_present" = some (some (.ref fpr)))
    (lpr : K.lookup fpr = some ⟨ocpr, odpr, .func (PySem.W.fnOf "_law_present" "_law_present" (defArgs s_lpresent) (defBody s_lpresent) (defScope s_lpresent) .none kVpr dcpr pmpr anpr cdpr ctpr), slpr⟩)
    (cpr : PySem.W.codeIn K cdpr "_law_present" = true)
    (kppr : PySem.W.keepIn K (.ref fpr) = true)
    (apq : PySem.W.nsIn K mainGlobals "_law_pair_right" = some (some (.ref fpq)))
    (lpq : K.lookup fpq = some ⟨ocpq, odpq, .func (PySem.W.fnOf "_law_pair_right" "_law_pair_right" (defArgs s_lpair_right) (defBody s_lpair_right) (defScope s_lpair_right) .none kVpq dcpq pmpq anpq cdpq ctpq), slpq⟩)
    (cpq : PySem.W.codeIn K cdpq "_law_pair_right" = true)
    (kppq : PySem.W.keepIn K (.ref fpq) = true)
    (ala : PySem.W.nsIn K mainGlobals "law" = some (some (.ref fla)))
    (lla : K.lookup fla = some ⟨ocla, odla, .func (PySem.W.fnOf "law" "law" (defArgs s_law) (defBody s_law) (defScope s_law) .none kVla dcla pmla anla cdla ctla), slla⟩)
    (cla : PySem.W.codeIn K cdla "law" = true)
    (kpla : PySem.W.keepIn K (.ref fla) = true)
    (aC : PySem.W.nsIn K mainGlobals "Plan" = some (some (.ref C)))
    (ain : PySem.W.findIn K (.ref C) "__init__" = some (some (.ref fin)))
    (iin : PySem.W.isFn K (.ref fin) = true)
    (lin : K.lookup fin = some ⟨ocin, odin, .func (PySem.W.fnOf "__init__" "Plan.__init__" (defArgs s_init) (defBody s_init) (defScope s_init) .none kVin dcin pmin anin cdin ctin), slin⟩)
    (cin : PySem.W.codeIn K cdin "Plan.__init__" = true)
    (kpin : PySem.W.keepIn K (.ref fin) = true)
    (aeq : PySem.W.findIn K (.ref C) "__eq__" = some (some (.ref feq)))
    (ieq : PySem.W.isFn K (.ref feq) = true)
    (leq : K.lookup feq = some ⟨oceq, odeq, .func (PySem.W.fnOf "__eq__" "Plan.__eq__" (defArgs s_eq) (defBody s_eq) (defScope s_eq) .none kVeq dceq pmeq aneq cdeq cteq), sleq⟩)
    (ceq : PySem.W.codeIn K cdeq "Plan.__eq__" = true)
    (kpeq : PySem.W.keepIn K (.ref feq) = true)
    (asi : PySem.W.findIn K (.ref C) "sides" = some (some (.ref fsi)))
    (isi : PySem.W.isFn K (.ref fsi) = true)
    (lsi : K.lookup fsi = some ⟨ocsi, odsi, .func (PySem.W.fnOf "sides" "Plan.sides" (defArgs s_sides) (defBody s_sides) (defScope s_sides) .none kVsi dcsi pmsi ansi cdsi ctsi), slsi⟩)
    (csi : PySem.W.codeIn K cdsi "Plan.sides" = true)
    (kpsi : PySem.W.keepIn K (.ref fsi) = true)
    (asp : PySem.W.findIn K (.ref C) "spans" = some (some (.ref fsp)))
    (isp : PySem.W.isFn K (.ref fsp) = true)
    (lsp : K.lookup fsp = some ⟨ocsp, odsp, .func (PySem.W.fnOf "spans" "Plan.spans" (defArgs s_spans) (defBody s_spans) (defScope s_spans) .none kVsp dcsp pmsp ansp cdsp ctsp), slsp⟩)
    (csp : PySem.W.codeIn K cdsp "Plan.spans" = true)
    (kpsp : PySem.W.keepIn K (.ref fsp) = true)
    (pg : PySem.W.plainGet K C Str.empty = true)
    (hd : PySem.W.hasDictIn K C = true)
    (po : PySem.W.plainOver K C = true)
    (sa : PySem.W.findIn K (.ref C) "__setattr__" = some (some (.builtin "object.__setattr__")))
    (mk : PySem.W.makesIn K C = true)
    (kc : PySem.W.keepIn K (.ref C) = true)
    (nC : PySem.W.findIn K (.ref C) "_columns" = some none)
    (nT : PySem.W.findIn K (.ref C) "_tables" = some none)
    (nS : PySem.W.findIn K (.ref C) "_sizes" = some none)
    (nP : PySem.W.findIn K (.ref C) "_spans" = some none)
    (nH : PySem.W.findIn K (.ref C) "_shapes" = some none)
    (rd : PySem.W.readsIn K C (.type "type") = true)
    (ga : PySem.W.specialIn K (.ref C) "__getattribute__" = some (some (.builtin "type.__getattribute__")))
    (v6 : PySem.W.findCls K (.ref C) (.type "type") "MOST_COLUMNS" = some (.val (.int 6 t6)))
    (v8 : PySem.W.findCls K (.ref C) (.type "type") "MOST_TABLES" = some (.val (.int 8 t8)))
    (en : PySem.W.findIn K (.ref C) "__ne__" = some (some (.builtin "object.__ne__")))
    (mo : PySem.W.mroIn K C (.type "object") = some true)
    (nf : PySem.W.notFirst K C (.type "list") = true)
    (ica : PySem.W.findIn K (.ref C) "__class__" = some (some (.builtin "object.__class__")))
    (icn : PySem.W.specialIn K (.builtin "object.__class__") "__get__" = some (some (.builtin "getset_descriptor.__get__")))
    (ict : PySem.W.takesIn K (.builtin "object.__class__") = some true)
    (icl : PySem.W.typeIn K (.ref C) = some (.type "type"))
    (z_isinstance : PySem.W.nsIn K mainGlobals "isinstance" = some none)
    (z_len : PySem.W.nsIn K mainGlobals "len" = some none)
    (z_all : PySem.W.nsIn K mainGlobals "all" = some none)
    (z_list : PySem.W.nsIn K mainGlobals "list" = some none)
    (z_tuple : PySem.W.nsIn K mainGlobals "tuple" = some none)
    (z_range : PySem.W.nsIn K mainGlobals "range" = some none)
    (z_abs : PySem.W.nsIn K mainGlobals "abs" = some none)
    (z_min : PySem.W.nsIn K mainGlobals "min" = some none)
    (z_int : PySem.W.nsIn K mainGlobals "int" = some none)
    (z_bool : PySem.W.nsIn K mainGlobals "bool" = some none)
    (z_str : PySem.W.nsIn K mainGlobals "str" = some none)
    (z_sorted : PySem.W.nsIn K mainGlobals "sorted" = some none)
    (z_dict : PySem.W.nsIn K mainGlobals "dict" = some none)
    (z_enumerate : PySem.W.nsIn K mainGlobals "enumerate" = some none)
    (z_zip : PySem.W.nsIn K mainGlobals "zip" = some none)
    (y_MOST_LETTERS : PySem.W.nsIn K mainGlobals "MOST_LETTERS" = some (some (.int 8 wMOST_LETTERS)))
    (y_MOST_VALUES : PySem.W.nsIn K mainGlobals "MOST_VALUES" = some (some (.int 6 wMOST_VALUES)))
    (y_MOST_SIDES : PySem.W.nsIn K mainGlobals "MOST_SIDES" = some (some (.int 2 wMOST_SIDES)))
    (aS : PySem.W.nsIn K mainGlobals "Store" = some (some (.ref S)))
    (asei : PySem.W.findIn K (.ref S) "__init__" = some (some (.ref fsei)))
    (isei : PySem.W.isFn K (.ref fsei) = true)
    (lsei : K.lookup fsei = some ⟨ocsei, odsei, .func (PySem.W.fnOf "__init__" "Store.__init__" (defArgs s_Sinit) (defBody s_Sinit) (defScope s_Sinit) (.ref dTsei) kVsei dcsei pmsei ansei cdsei ctsei), slsei⟩)
    (ltsei : K.lookup dTsei = some ⟨cTsei, otsei, .seq #[.ref eTsei] ntsei, stsei⟩)
    (csei : PySem.W.codeIn K cdsei "Store.__init__" = true)
    (kpsei : PySem.W.keepIn K (.ref fsei) = true)
    (aseq : PySem.W.findIn K (.ref S) "__eq__" = some (some (.ref fseq)))
    (iseq : PySem.W.isFn K (.ref fseq) = true)
    (lseq : K.lookup fseq = some ⟨ocseq, odseq, .func (PySem.W.fnOf "__eq__" "Store.__eq__" (defArgs s_Seq) (defBody s_Seq) (defScope s_Seq) .none kVseq dcseq pmseq anseq cdseq ctseq), slseq⟩)
    (cseq : PySem.W.codeIn K cdseq "Store.__eq__" = true)
    (kpseq : PySem.W.keepIn K (.ref fseq) = true)
    (asha : PySem.W.findIn K (.ref S) "has" = some (some (.ref fsha)))
    (isha : PySem.W.isFn K (.ref fsha) = true)
    (lsha : K.lookup fsha = some ⟨ocsha, odsha, .func (PySem.W.fnOf "has" "Store.has" (defArgs s_has) (defBody s_has) (defScope s_has) .none kVsha dcsha pmsha ansha cdsha ctsha), slsha⟩)
    (csha : PySem.W.codeIn K cdsha "Store.has" = true)
    (kpsha : PySem.W.keepIn K (.ref fsha) = true)
    (asro : PySem.W.findIn K (.ref S) "rows" = some (some (.ref fsro)))
    (isro : PySem.W.isFn K (.ref fsro) = true)
    (lsro : K.lookup fsro = some ⟨ocsro, odsro, .func (PySem.W.fnOf "rows" "Store.rows" (defArgs s_rows) (defBody s_rows) (defScope s_rows) .none kVsro dcsro pmsro ansro cdsro ctsro), slsro⟩)
    (csro : PySem.W.codeIn K cdsro "Store.rows" = true)
    (kpsro : PySem.W.keepIn K (.ref fsro) = true)
    (asse : PySem.W.findIn K (.ref S) "seen" = some (some (.ref fsse)))
    (isse : PySem.W.isFn K (.ref fsse) = true)
    (lsse : K.lookup fsse = some ⟨ocsse, odsse, .func (PySem.W.fnOf "seen" "Store.seen" (defArgs s_seen) (defBody s_seen) (defScope s_seen) .none kVsse dcsse pmsse ansse cdsse ctsse), slsse⟩)
    (csse : PySem.W.codeIn K cdsse "Store.seen" = true)
    (kpsse : PySem.W.keepIn K (.ref fsse) = true)
    (aswi : PySem.W.findIn K (.ref S) "with_facts" = some (some (.ref fswi)))
    (iswi : PySem.W.isFn K (.ref fswi) = true)
    (lswi : K.lookup fswi = some ⟨ocswi, odswi, .func (PySem.W.fnOf "with_facts" "Store.with_facts" (defArgs s_with) (defBody s_with) (defScope s_with) .none kVswi dcswi pmswi answi cdswi ctswi), slswi⟩)
    (cswi : PySem.W.codeIn K cdswi "Store.with_facts" = true)
    (kpswi : PySem.W.keepIn K (.ref fswi) = true)
    (aswo : PySem.W.findIn K (.ref S) "without_facts" = some (some (.ref fswo)))
    (iswo : PySem.W.isFn K (.ref fswo) = true)
    (lswo : K.lookup fswo = some ⟨ocswo, odswo, .func (PySem.W.fnOf "without_facts" "Store.without_facts" (defArgs s_without) (defBody s_without) (defScope s_without) .none kVswo dcswo pmswo answo cdswo ctswo), slswo⟩)
    (cswo : PySem.W.codeIn K cdswo "Store.without_facts" = true)
    (kpswo : PySem.W.keepIn K (.ref fswo) = true)
    (aspp : PySem.W.findIn K (.ref S) "plan" = some (some (.ref pspp)))
    (gspp : PySem.W.specialIn K (.ref pspp) "__get__" = some (some (.builtin "property.__get__")))
    (tspp : PySem.W.takesIn K (.ref pspp) = some true)
    (rspp : PySem.W.recIn K pspp "property" = some (.ref fspp :: restspp))
    (lspp : K.lookup fspp = some ⟨ocspp, odspp, .func (PySem.W.fnOf "plan" "Store.plan" (defArgs s_Splan) (defBody s_Splan) (defScope s_Splan) .none kVspp dcspp pmspp anspp cdspp ctspp), slspp⟩)
    (cspp : PySem.W.codeIn K cdspp "Store.plan" = true)
    (kpspp : PySem.W.keepIn K (.ref fspp) = true)
    (pgS : PySem.W.plainGet K S Str.empty = true)
    (hdS : PySem.W.hasDictIn K S = true)
    (poS : PySem.W.plainOver K S = true)
    (saS : PySem.W.findIn K (.ref S) "__setattr__" = some (some (.builtin "object.__setattr__")))
    (mkS : PySem.W.makesIn K S = true)
    (kcS : PySem.W.keepIn K (.ref S) = true)
    (nSp : PySem.W.findIn K (.ref S) "_plan" = some none)
    (nSe : PySem.W.findIn K (.ref S) "_present" = some none)
    (nSf : PySem.W.findIn K (.ref S) "_facts" = some none)
    (enS : PySem.W.findIn K (.ref S) "__ne__" = some (some (.builtin "object.__ne__")))
    (moS : PySem.W.mroIn K S (.type "object") = some true)
    (nfS : PySem.W.notFirst K S (.type "list") = true)
    (icaS : PySem.W.findIn K (.ref S) "__class__" = some (some (.builtin "object.__class__")))
    (iclS : PySem.W.typeIn K (.ref S) = some (.type "type"))
    : ∃ fd : FuncData, (∀ (s : Shared) (v : Value), BindsTo s fd ⟨[v], []⟩ [("script", v)]) ∧ ∀ base : Heap, K.In base → base.Ns mainGlobals mg → FnOk l.prog w K mg base CX0 8 fa fd ["script"] (spLaw K) := by
  have e := hfa.symm.trans (PySem.W.mg_of X G ala)
  cases e
  have T : Bi mg := ⟨PySem.W.mg_none_of X G z_isinstance, PySem.W.mg_none_of X G z_len, PySem.W.mg_none_of X G z_all, PySem.W.mg_none_of X G z_list, PySem.W.mg_none_of X G z_tuple, PySem.W.mg_none_of X G z_range, PySem.W.mg_none_of X G z_abs, PySem.W.mg_none_of X G z_min, PySem.W.mg_none_of X G z_int, PySem.W.mg_none_of X G z_bool, PySem.W.mg_none_of X G z_str, PySem.W.mg_none_of X G z_sorted, PySem.W.mg_none_of X G z_dict⟩
  have n_enumerate := PySem.W.mg_none_of X G z_enumerate
  have n_zip := PySem.W.mg_none_of X G z_zip
  have mMOST_LETTERS := PySem.W.mg_of X G y_MOST_LETTERS
  have mMOST_VALUES := PySem.W.mg_of X G y_MOST_VALUES
  have mMOST_SIDES := PySem.W.mg_of X G y_MOST_SIDES
  have Fnu := fun_mk (st := s_is_number) lnu cnu kpnu
  have Dnu : Df K mg "is_number" s_is_number ["thing"] fnu _ := ⟨Fnu, PySem.W.mg_of X G anu, Fnu.binds (ps := ["thing"]) fun _ _ _ _ _ _ us hl => match us, hl with | [_], _ => rfl⟩
  have Fbe := fun_mk (st := s_is_below) lbe cbe kpbe
  have Dbe : Df K mg "is_below" s_is_below ["thing", "bound"] fbe _ := ⟨Fbe, PySem.W.mg_of X G abe, Fbe.binds (ps := ["thing", "bound"]) fun _ _ _ _ _ _ us hl => match us, hl with | [_, _], _ => rfl⟩
  have Fna := fun_mk (st := s_is_name) lna cna kpna
  have Dna : Df K mg "is_name" s_is_name ["thing"] fna _ := ⟨Fna, PySem.W.mg_of X G ana, Fna.binds (ps := ["thing"]) fun _ _ _ _ _ _ us hl => match us, hl with | [_], _ => rfl⟩
  have Fli := fun_mk (st := s_is_list) lli cli kpli
  have Dli : Df K mg "is_list" s_is_list ["thing"] fli _ := ⟨Fli, PySem.W.mg_of X G ali, Fli.binds (ps := ["thing"]) fun _ _ _ _ _ _ us hl => match us, hl with | [_], _ => rfl⟩
  have Fpa := fun_mk (st := s_is_pair) lpa cpa kppa
  have Dpa : Df K mg "is_pair" s_is_pair ["thing"] fpa _ := ⟨Fpa, PySem.W.mg_of X G apa, Fpa.binds (ps := ["thing"]) fun _ _ _ _ _ _ us hl => match us, hl with | [_], _ => rfl⟩
  have Fco := fun_mk (st := s_is_column) lco cco kpco
  have Dco : Df K mg "is_column" s_is_column ["thing"] fco _ := ⟨Fco, PySem.W.mg_of X G aco, Fco.binds (ps := ["thing"]) fun _ _ _ _ _ _ us hl => match us, hl with | [_], _ => rfl⟩
  have Fta := fun_mk (st := s_is_table) lta cta kpta
  have Dta : Df K mg "is_table" s_is_table ["thing", "column_names"] fta _ := ⟨Fta, PySem.W.mg_of X G ata, Fta.binds (ps := ["thing", "column_names"]) fun _ _ _ _ _ _ us hl => match us, hl with | [_, _], _ => rfl⟩
  have Fdi := fun_mk (st := s_have_distinct_names) ldi cdi kpdi
  have Ddi : Df K mg "have_distinct_names" s_have_distinct_names ["pairs"] fdi _ := ⟨Fdi, PySem.W.mg_of X G adi, Fdi.binds (ps := ["pairs"]) fun _ _ _ _ _ _ us hl => match us, hl with | [_], _ => rfl⟩
  have Fac := fun_mk (st := s_are_columns) lac cac kpac
  have Dac : Df K mg "are_columns" s_are_columns ["thing"] fac _ := ⟨Fac, PySem.W.mg_of X G aac, Fac.binds (ps := ["thing"]) fun _ _ _ _ _ _ us hl => match us, hl with | [_], _ => rfl⟩
  have Fat := fun_mk (st := s_are_tables) lat cat kpat
  have Dat : Df K mg "are_tables" s_are_tables ["thing", "columns"] fat _ := ⟨Fat, PySem.W.mg_of X G aat, Fat.binds (ps := ["thing", "columns"]) fun _ _ _ _ _ _ us hl => match us, hl with | [_, _], _ => rfl⟩
  have Fic := fun_mk (st := s_is_fact) lic cic kpic
  have Dic : Df K mg "is_fact" s_is_fact ["plan", "thing"] fic _ := ⟨Fic, PySem.W.mg_of X G aic, Fic.binds (ps := ["plan", "thing"]) fun _ _ _ _ _ _ us hl => match us, hl with | [_, _], _ => rfl⟩
  have Fil := fun_mk (st := s_is_look) lil cil kpil
  have Dil : Df K mg "is_look" s_is_look ["plan", "thing"] fil _ := ⟨Fil, PySem.W.mg_of X G ail, Fil.binds (ps := ["plan", "thing"]) fun _ _ _ _ _ _ us hl => match us, hl with | [_, _], _ => rfl⟩
  have Fcf := fun_mk (st := s_check_fact) lcf ccf kpcf
  have Dcf : Df K mg "check_fact" s_check_fact ["plan", "thing"] fcf _ := ⟨Fcf, PySem.W.mg_of X G acf, Fcf.binds (ps := ["plan", "thing"]) fun _ _ _ _ _ _ us hl => match us, hl with | [_, _], _ => rfl⟩
  have Fcks := fun_mk (st := s_check_looks) lcks ccks kpcks
  have Dcks : Df K mg "check_looks" s_check_looks ["plan", "thing"] fcks _ := ⟨Fcks, PySem.W.mg_of X G acks, Fcks.binds (ps := ["plan", "thing"]) fun _ _ _ _ _ _ us hl => match us, hl with | [_, _], _ => rfl⟩
  have Fls := fun_mk (st := s_looks_that_see) lls cls kpls
  have Dls : Df K mg "looks_that_see" s_looks_that_see ["fact"] fls _ := ⟨Fls, PySem.W.mg_of X G als, Fls.binds (ps := ["fact"]) fun _ _ _ _ _ _ us hl => match us, hl with | [_], _ => rfl⟩
  have Fsr := fun_mk (st := s_seers) lsr csr kpsr
  have Dsr : Df K mg "seers" s_seers ["plan", "fact"] fsr _ := ⟨Fsr, PySem.W.mg_of X G asr, Fsr.binds (ps := ["plan", "fact"]) fun _ _ _ _ _ _ us hl => match us, hl with | [_, _], _ => rfl⟩
  have Faf2 := fun_mk (st := s_are_facts) laf2 caf2 kpaf2
  have Daf2 : Df K mg "are_facts" s_are_facts ["plan", "thing"] faf2 _ := ⟨Faf2, PySem.W.mg_of X G aaf2, Faf2.binds (ps := ["plan", "thing"]) fun _ _ _ _ _ _ us hl => match us, hl with | [_, _], _ => rfl⟩
  have Fag := fun_mk (st := s_agree) lag cag kpag
  have Dag : Df K mg "agree" s_agree ["one", "other", "looks"] fag _ := ⟨Fag, PySem.W.mg_of X G aag, Fag.binds (ps := ["one", "other", "looks"]) fun _ _ _ _ _ _ us hl => match us, hl with | [_, _, _], _ => rfl⟩
  have Fst := fun_mk (st := s_state) lst cst kpst
  have Dst : Df K mg "_law_state" s_state ["script"] fst _ := ⟨Fst, PySem.W.mg_of X G ast, Fst.binds (ps := ["script"]) fun _ _ _ _ _ _ us hl => match us, hl with | [_], _ => rfl⟩
  have Fdr := fun_mk (st := s_draw) ldr cdr kpdr
  have Ddr : Df K mg "_law_draw" s_draw ["state", "size_most"] fdr _ := ⟨Fdr, PySem.W.mg_of X G adr, Fdr.binds (ps := ["state", "size_most"]) fun _ _ _ _ _ _ us hl => match us, hl with | [_, _], _ => rfl⟩
  have Fpi := fun_mk (st := s_pick) lpi cpi kppi
  have Dpi : Df K mg "_law_pick" s_pick ["state", "some"] fpi _ := ⟨Fpi, PySem.W.mg_of X G api, Fpi.binds (ps := ["state", "some"]) fun _ _ _ _ _ _ us hl => match us, hl with | [_, _], _ => rfl⟩
  have Fmi := fun_mk (st := s_mixed) lmi cmi kpmi
  have Dmi : Df K mg "_law_mixed" s_mixed ["state", "some"] fmi _ := ⟨Fmi, PySem.W.mg_of X G ami, Fmi.binds (ps := ["state", "some"]) fun _ _ _ _ _ _ us hl => match us, hl with | [_, _], _ => rfl⟩
  have Fnm := fun_mk (st := s_names) lnm cnm kpnm
  have Dnm : Df K mg "_law_names" s_names ["state", "size"] fnm _ := ⟨Fnm, PySem.W.mg_of X G anm, Fnm.binds (ps := ["state", "size"]) fun _ _ _ _ _ _ us hl => match us, hl with | [_, _], _ => rfl⟩
  have Flc := fun_mk (st := s_lcolumns) llc clc kplc
  have Dlc : Df K mg "_law_columns" s_lcolumns ["state", "most", "size_most"] flc _ := ⟨Flc, PySem.W.mg_of X G alc, Flc.binds (ps := ["state", "most", "size_most"]) fun _ _ _ _ _ _ us hl => match us, hl with | [_, _, _], _ => rfl⟩
  have Flt := fun_mk (st := s_ltables) llt clt kplt
  have Dlt : Df K mg "_law_tables" s_ltables ["state", "columns", "most"] flt _ := ⟨Flt, PySem.W.mg_of X G alt, Flt.binds (ps := ["state", "columns", "most"]) fun _ _ _ _ _ _ us hl => match us, hl with | [_, _, _], _ => rfl⟩
  have Flf := fun_mk (st := s_lfacts) llf clf kplf
  have Dlf : Df K mg "_law_facts" s_lfacts ["columns", "tables"] flf _ := ⟨Flf, PySem.W.mg_of X G alf, Flf.binds (ps := ["columns", "tables"]) fun _ _ _ _ _ _ us hl => match us, hl with | [_, _], _ => rfl⟩
  have Flk := fun_mk (st := s_llooks) llk clk kplk
  have Dlk : Df K mg "_law_looks" s_llooks ["columns", "tables"] flk _ := ⟨Flk, PySem.W.mg_of X G alk, Flk.binds (ps := ["columns", "tables"]) fun _ _ _ _ _ _ us hl => match us, hl with | [_, _], _ => rfl⟩
  have Fpr := fun_mk (st := s_lpresent) lpr cpr kppr
  have Dpr : Df K mg "_law_present" s_lpresent ["state", "every"] fpr _ := ⟨Fpr, PySem.W.mg_of X G apr, Fpr.binds (ps := ["state", "every"]) fun _ _ _ _ _ _ us hl => match us, hl with | [_, _], _ => rfl⟩
  have Fpq := fun_mk (st := s_lpair_right) lpq cpq kppq
  have Dpq : Df K mg "_law_pair_right" s_lpair_right ["one", "two", "picked", "each"] fpq _ := ⟨Fpq, PySem.W.mg_of X G apq, Fpq.binds (ps := ["one", "two", "picked", "each"]) fun _ _ _ _ _ _ us hl => match us, hl with | [_, _, _, _], _ => rfl⟩
  have Fla := fun_mk (st := s_law) lla cla kpla
  have Dla : Df K mg "law" s_law ["script"] fa _ := ⟨Fla, PySem.W.mg_of X G ala, Fla.binds (ps := ["script"]) fun _ _ _ _ _ _ us hl => match us, hl with | [_], _ => rfl⟩
  have Fin := fun_mk (st := s_init) lin cin kpin
  have bin := Fin.binds (ps := ["self", "columns", "tables"]) fun _ _ _ _ _ _ us hl => match us, hl with | [_, _, _], _ => rfl
  have Feq := fun_mk (st := s_eq) leq ceq kpeq
  have beq := Feq.binds (ps := ["self", "other"]) fun _ _ _ _ _ _ us hl => match us, hl with | [_, _], _ => rfl
  have Fsi := fun_mk (st := s_sides) lsi csi kpsi
  have bsi := Fsi.binds (ps := ["self", "table"]) fun _ _ _ _ _ _ us hl => match us, hl with | [_, _], _ => rfl
  have Fsp := fun_mk (st := s_spans) lsp csp kpsp
  have bsp := Fsp.binds (ps := ["self", "table"]) fun _ _ _ _ _ _ us hl => match us, hl with | [_, _], _ => rfl
  have hC := PySem.W.mg_of X G aC
  have PF : PlF K C := ⟨⟨pg, hd, po, sa⟩, nC, nT, nS, nP, nH⟩
  have PL : PlC K mg C := ⟨hC, _, _, _, ⟨rd, ga⟩, ⟨v6, ⟨_, rfl⟩⟩, ⟨v8, ⟨_, rfl⟩⟩⟩
  have Fsei : FunD K "__init__" "Store.__init__" (defArgs s_Sinit) (defBody s_Sinit) (defScope s_Sinit) [.ref eTsei] [] fsei _ := ⟨⟨_, _, _, _, _, _, _, _, _, _, rfl, lsei, csei, .inr ⟨(fun z => nomatch z), dTsei, _, [.ref eTsei], _, rfl, ltsei, rfl, .cons rfl .nil⟩, .inl rfl⟩, kpsei⟩
  obtain ⟨dsei, vsei, bsei⟩ := Fsei.binds1 (ps := ["self", "plan", "present"]) 3 1 (fun z => nomatch z) rfl fun _ _ _ _ _ _ _ us its hu hi => match us, hu, its, hi with | [_, _, _], _, [_], _ => ⟨_, rfl, rfl⟩
  cases vsei
  have Fseq := fun_mk (st := s_Seq) lseq cseq kpseq
  have bseq := Fseq.binds (ps := ["self", "other"]) fun _ _ _ _ _ _ us hl => match us, hl with | [_, _], _ => rfl
  have Fsha := fun_mk (st := s_has) lsha csha kpsha
  have bsha := Fsha.binds (ps := ["self", "fact"]) fun _ _ _ _ _ _ us hl => match us, hl with | [_, _], _ => rfl
  have Fsro := fun_mk (st := s_rows) lsro csro kpsro
  have bsro := Fsro.binds (ps := ["self", "table"]) fun _ _ _ _ _ _ us hl => match us, hl with | [_, _], _ => rfl
  have Fsse := fun_mk (st := s_seen) lsse csse kpsse
  have bsse := Fsse.binds (ps := ["self", "look"]) fun _ _ _ _ _ _ us hl => match us, hl with | [_, _], _ => rfl
  have Fswi := fun_mk (st := s_with) lswi cswi kpswi
  have Fswo := fun_mk (st := s_without) lswo cswo kpswo
  have Fspp := fun_mk (st := s_Splan) lspp cspp kpspp
  have bspp := Fspp.binds (ps := ["self"]) fun _ _ _ _ _ _ us hl => match us, hl with | [_], _ => rfl
  have hS := PySem.W.mg_of X G aS
  have SF : StF K S := ⟨⟨pgS, hdS, poS, saS⟩, nSp, nSe, nSf⟩
  have EQ : EqC K C feq := ⟨aeq, ieq, en, mo, nf⟩
  have IC : IsC K C := ⟨ica, icn, ict, mo, kit_notL hd icl nf⟩
  have EQS : EqC K S fseq := ⟨aseq, iseq, enS, moS, nfS⟩
  have ICS : IsC K S := ⟨icaS, icn, ict, moS, kit_notL hdS iclS nfS⟩
  have SC : StC K mg S fsei _ := ⟨hS, ⟨mkS, asei, isei, kcS⟩, bsei⟩
  refine ⟨PySem.W.fnOf "law" "law" (defArgs s_law) (defBody s_law) (defScope s_law) .none kVla dcla pmla anla cdla ctla, fun s v => .of_eq rfl, fun base _ _ => ?_⟩
  have Gnu : FnOk l.prog w K mg base CX0 1 fnu _ _ (spNumber K) := ok_number Dnu T
  have Gna : FnOk l.prog w K mg base CX0 1 fna _ _ (spName K) := ok_name Dna T mMOST_LETTERS
  have Gli : FnOk l.prog w K mg base CX0 1 fli _ _ (spList K) := ok_list Dli T
  have Gpa : FnOk l.prog w K mg base CX0 1 fpa _ _ (spPair K) := ok_pair Dpa T
  have Gco : FnOk l.prog w K mg base CX0 2 fco _ _ (spColumn K) := ok_column Dco T mMOST_VALUES Dpa Gpa Dna Gna Dnu Gnu
  have Gta : FnOk l.prog w K mg base CX0 2 fta _ _ (spTable K) := ok_table Dta T mMOST_SIDES Dpa Gpa Dna Gna
  have Gdi : FnOk l.prog w K mg base CX0 1 fdi _ _ (spDist K) := ok_dist Ddi T
  have Gac : FnOk l.prog w K mg base CX0 3 fac _ _ (spColumns K) := ok_columns Dac T PL Dli Gli Dco Gco Ddi Gdi
  have Gat : FnOk l.prog w K mg base CX0 3 fat _ _ (spTables K) := ok_tables Dat T PL Dli Gli Dta Gta Ddi Gdi
  have Gin : FnOk l.prog w K mg base CX0 4 fin _ _ (spInit K C) := ok_init Fin T PF Dac Gac Dat Gat
  have Gst : FnOk l.prog w K mg base CX0 1 fst _ _ (spState K) := ok_state Dst T
  have Gdr : FnOk l.prog w K mg base CX0 1 fdr _ _ spDraw := ok_draw Ddr T
  have Gpi : FnOk l.prog w K mg base CX0 2 fpi _ _ spPick := ok_pick Dpi T Ddr Gdr
  have Gmi : FnOk l.prog w K mg base CX0 2 fmi _ _ (spMixed K) := ok_mixed Dmi T Ddr Gdr
  have Gnm : FnOk l.prog w K mg base CX0 3 fnm _ _ spNames := ok_names Dnm T Ddr Gdr Dpi Gpi
  have Glc : FnOk l.prog w K mg base CX0 4 flc _ _ spLCols := ok_lcols Dlc T Ddr Gdr Dnm Gnm
  have Glt : FnOk l.prog w K mg base CX0 4 flt _ _ spLTabs := ok_ltabs Dlt T Ddr Gdr Dpi Gpi Dnm Gnm
  have Gbe : FnOk l.prog w K mg base CX0 2 fbe _ _ (spBelow K) := ok_below Dbe T Dnu Gnu
  have Gpb : FnOk l.prog w K mg base CX0 1 fpa _ _ spPairA := ok_pairA Dpa T
  have Gic : FnOk l.prog w K mg base CX0 3 fic _ _ (spIsFact C) := ok_is_fact Dic T n_zip PF Fsp bsp ⟨asp, isp, kpsp⟩ Dpa Gpb Dbe Gbe
  have Gil : FnOk l.prog w K mg base CX0 3 fil _ _ (spIsLook C) := ok_is_look Dil T PF Fsp bsp ⟨asp, isp, kpsp⟩ Dbe Gbe
  have Gcf : FnOk l.prog w K mg base CX0 4 fcf _ _ (spCheckV C) := ok_checkV Dcf Dic Gic
  have Gck : FnOk l.prog w K mg base CX0 4 fcks _ _ (spCheckL C) := ok_check_looks Dcks T n_enumerate Dli Gli Dil Gil
  have Gls : FnOk l.prog w K mg base CX0 1 fls _ _ spLts := ok_lts Dls n_enumerate
  have Gsr : FnOk l.prog w K mg base CX0 5 fsr _ _ (spSeersV C) := ok_seersV Dsr T Dcf Gcf Dls Gls
  have Gaf : FnOk l.prog w K mg base CX0 4 faf2 _ _ (spAreF C) := ok_are_facts Daf2 T Dli Gli Dic Gic
  have Geq : FnOk l.prog w K mg base CX0 1 feq _ _ (spEqP C) := ok_eq Feq T PF IC hC
  have Gsi : FnOk l.prog w K mg base CX0 2 fsi _ _ (spSides K C) := ok_sides Fsi T PF Fsp bsp ⟨asp, isp, kpsp⟩
  have GSi : FnOk l.prog w K mg base CX0 5 fsei _ _ (spSInit l.prog w K C S) := ok_Sinit Fsei T SF Daf2 Gaf
  have GSp : FnOk l.prog w K mg base CX0 1 fspp _ _ (getSp S (Str.ofString "_plan")) := ok_Splan Fspp SF
  have GSh : FnOk l.prog w K mg base CX0 5 fsha _ _ (spHas l.prog w C S) := ok_has Fsha SF Dcf Gcf
  have GSr : FnOk l.prog w K mg base CX0 3 fsro _ _ (spRows l.prog w C S) := ok_rows Fsro T SF PF ⟨asi, isi, kpsi⟩ Gsi bsi
  have GSs : FnOk l.prog w K mg base CX0 4 fsse _ _ (spSeen l.prog w C S) := ok_seen Fsse T SF Dil Gil ⟨asro, isro, kpsro⟩ GSr bsro
  have GSw : FnR l.prog w K mg base CX0 7 fswi _ := ok_with Fswi SF SC GSi Dcf Gcf
  have GSo : FnR l.prog w K mg base CX0 7 fswo _ := ok_without Fswo SF SC GSi Dcf Gcf
  have GSe : FnOk l.prog w K mg base CX0 2 fseq _ _ (spSEq l.prog w C S) := ok_Seq Fseq T SF ICS hS Geq beq EQ
  have Gag : FnOk l.prog w K mg base CX0 5 fag _ _ (spAgree l.prog w C S) := ok_agree Dag T SF Geq beq EQ ⟨aspp, gspp, tspp, _, rspp⟩ GSp bspp Dcks Gck ⟨asse, isse, kpsse⟩ GSs bsse
  have Glf : FnOk l.prog w K mg base CX0 1 flf _ _ spLFacts := ok_lfacts Dlf T
  have Glk : FnOk l.prog w K mg base CX0 1 flk _ _ spLLooks := ok_llooks Dlk T n_enumerate
  have Gpr : FnOk l.prog w K mg base CX0 3 fpr _ _ spPres := ok_lpresent Dpr T Ddr Gdr Dmi Gmi
  have Gpq : FnOk l.prog w K mg base CX0 6 fpq _ _ (spLPair l.prog w C S) := ok_lpair Dpq SF Dag Gag ⟨asse, isse, kpsse⟩ GSs bsse GSe bseq EQS
  exact ok_law Dla T PL ⟨mk, ain, iin, kc⟩ bin Gin SF SC GSi Dst Gst Ddr Gdr Dpi Gpi Dmi Gmi Dlc Glc Dlt Glt Dlf Glf Dlk Glk Dpr Gpr Dag Gag Dpq Gpq Dsr Gsr ⟨aswo, iswo, kpswo⟩ GSo ⟨aswi, iswi, kpswi⟩ GSw ⟨asha, isha, kpsha⟩ GSh bsha
theorem walk {l : PySem.W.OpenLaw} {q : Program} {loose : List Str} {XP : (Str → Option Value) → Heap → Prop} {YP : World → Heap → Prop} {d : DefRec} {K : Params → PySem.W.Frag} (hn : l.most = some 63) (hdf : d.params.defaults = [])
    (hY : ∀ (w : World) (h : Heap), YP w h → (K w.params).In h)
    (F : ∀ (w : World) (mg : Str → Option Value) (fa : Addr) (h : Heap), (K w.params).In h → h.Ns mainGlobals mg → mg d.name = some (.ref fa) →
      ∃ fd : FuncData, (∀ (s : Shared) (u : Value), BindsTo s fd ⟨[u], []⟩ [("script", u)]) ∧ ∀ base : Heap, (K w.params).In base → base.Ns mainGlobals mg → FnOk l.prog w (K w.params) mg base CX0 8 fa fd ["script"] (spLaw (K w.params))) :
    PySem.W.WalkO q loose XP YP l.row.toRowW d [] (fun f vs => PySem.call f vs) :=
  L2.walk_of (n := 63) (k := 8) (x := "script") (CX := fun _ => CX0) (sp := fun w => spLaw (K w.params)) hn (by decide) hdf ⟨rfl, by decide, by decide⟩ hY F (fun _ _ a ns hl _ hS => ⟨a, ns, rfl, hS, hl, fun _ => rfl⟩) fun _ _ _ _ _ z => z
end As

/-! ## F12 -/

open PySem PySem.W PyProof.Rows in
set_option maxRecDepth 100000 in
set_option maxHeartbeats 0 in
theorem PySem.Challenge.cw_asksold_k11_whole_agreement_decides_stor_holds : PySem.Challenge.rw_asksold_k11_whole_agreement_decides_stor.Holds := by
  w_on; o_law; k_head; (case hw => w_witness2)
  k_fill
  refine As.walk (l := PySem.Challenge.rw_asksold_k11_whole_agreement_decides_stor) rfl rfl (fun w h Y => PySem.W.kIn_of Y) ?F
  case F =>
    intro w mg fa h KX G hmg
    refine' As.all_mk KX G hmg ?yanu ?ylnu ?ycnu ?ykpnu ?yabe ?ylbe ?ycbe ?ykpbe ?yana ?ylna ?ycna ?ykpna ?yali ?ylli ?ycli ?ykpli ?yapa ?ylpa ?ycpa ?ykppa ?yaco ?ylco ?ycco ?ykpco ?yata ?ylta ?ycta ?ykpta ?yadi ?yldi ?ycdi ?ykpdi ?yaac ?ylac ?ycac ?ykpac ?yaat ?ylat ?ycat ?ykpat ?yaic ?ylic ?ycic ?ykpic ?yail ?ylil ?ycil ?ykpil ?yacf ?ylcf ?yccf ?ykpcf ?yacks ?ylcks ?yccks ?ykpcks ?yals ?ylls ?ycls ?ykpls ?yasr ?ylsr ?ycsr ?ykpsr ?yaaf2 ?ylaf2 ?ycaf2 ?ykpaf2 ?yaag ?ylag ?ycag ?ykpag ?yast ?ylst ?ycst ?ykpst ?yadr ?yldr ?ycdr ?ykpdr ?yapi ?ylpi ?ycpi ?ykppi ?yami ?ylmi ?ycmi ?ykpmi ?yanm ?ylnm ?ycnm ?ykpnm ?yalc ?yllc ?yclc ?ykplc ?yalt ?yllt ?yclt ?ykplt ?yalf ?yllf ?yclf ?ykplf ?yalk ?yllk ?yclk ?ykplk ?yapr ?ylpr ?ycpr ?ykppr ?yapq ?ylpq ?ycpq ?ykppq ?yala ?ylla ?ycla ?ykpla ?yaC ?yain ?yiin ?ylin ?ycin ?ykpin ?yaeq ?yieq ?yleq ?yceq ?ykpeq ?yasi ?yisi ?ylsi ?ycsi ?ykpsi ?yasp ?yisp ?ylsp ?ycsp ?ykpsp ?ypg ?yhd ?ypo ?ysa ?ymk ?ykc ?ynC ?ynT ?ynS ?ynP ?ynH ?yrd ?yga ?yv6 ?yv8 ?yen ?ymo ?ynf ?yica ?yicn ?yict ?yicl ?yz_isinstance ?yz_len ?yz_all ?yz_list ?yz_tuple ?yz_range ?yz_abs ?yz_min ?yz_int ?yz_bool ?yz_str ?yz_sorted ?yz_dict ?yz_enumerate ?yz_zip ?yy_MOST_LETTERS ?yy_MOST_VALUES ?yy_MOST_SIDES ?yaS ?yasei ?yisei ?ylsei ?yltsei ?ycsei ?ykpsei ?yaseq ?yiseq ?ylseq ?ycseq ?ykpseq ?yasha ?yisha ?ylsha ?ycsha ?ykpsha ?yasro ?yisro ?ylsro ?ycsro ?ykpsro ?yasse ?yisse ?ylsse ?ycsse ?ykpsse ?yaswi ?yiswi ?ylswi ?ycswi ?ykpswi ?yaswo ?yiswo ?ylswo ?ycswo ?ykpswo ?yaspp ?ygspp ?ytspp ?yrspp ?ylspp ?ycspp ?ykpspp ?ypgS ?yhdS ?ypoS ?ysaS ?ymkS ?ykcS ?ynSp ?ynSe ?ynSf ?yenS ?ymoS ?ynfS ?yicaS ?yiclS
    (case yanu => k_is)
    (case ylnu => k_is)
    (case ycnu => k_is)
    (case ykpnu => k_is)
    (case yabe => k_is)
    (case ylbe => k_is)
    (case ycbe => k_is)
    (case ykpbe => k_is)
    (case yana => k_is)
    (case ylna => k_is)
    (case ycna => k_is)
    (case ykpna => k_is)
    (case yali => k_is)
    (case ylli => k_is)
    (case ycli => k_is)
    (case ykpli => k_is)
    (case yapa => k_is)
    (case ylpa => k_is)
    (case ycpa => k_is)
    (case ykppa => k_is)
    (case yaco => k_is)
    (case ylco => k_is)
    (case ycco => k_is)
    (case ykpco => k_is)
    (case yata => k_is)
    (case ylta => k_is)
    (case ycta => k_is)
    (case ykpta => k_is)
    (case yadi => k_is)
    (case yldi => k_is)
    (case ycdi => k_is)
    (case ykpdi => k_is)
    (case yaac => k_is)
    (case ylac => k_is)
    (case ycac => k_is)
    (case ykpac => k_is)
    (case yaat => k_is)
    (case ylat => k_is)
    (case ycat => k_is)
    (case ykpat => k_is)
    (case yaic => k_is)
    (case ylic => k_is)
    (case ycic => k_is)
    (case ykpic => k_is)
    (case yail => k_is)
    (case ylil => k_is)
    (case ycil => k_is)
    (case ykpil => k_is)
    (case yacf => k_is)
    (case ylcf => k_is)
    (case yccf => k_is)
    (case ykpcf => k_is)
    (case yacks => k_is)
    (case ylcks => k_is)
    (case yccks => k_is)
    (case ykpcks => k_is)
    (case yals => k_is)
    (case ylls => k_is)
    (case ycls => k_is)
    (case ykpls => k_is)
    (case yasr => k_is)
    (case ylsr => k_is)
    (case ycsr => k_is)
    (case ykpsr => k_is)
    (case yaaf2 => k_is)
    (case ylaf2 => k_is)
    (case ycaf2 => k_is)
    (case ykpaf2 => k_is)
    (case yaag => k_is)
    (case ylag => k_is)
    (case ycag => k_is)
    (case ykpag => k_is)
    (case yast => k_is)
    (case ylst => k_is)
    (case ycst => k_is)
    (case ykpst => k_is)
    (case yadr => k_is)
    (case yldr => k_is)
    (case ycdr => k_is)
    (case ykpdr => k_is)
    (case yapi => k_is)
    (case ylpi => k_is)
    (case ycpi => k_is)
    (case ykppi => k_is)
    (case yami => k_is)
    (case ylmi => k_is)
    (case ycmi => k_is)
    (case ykpmi => k_is)
    (case yanm => k_is)
    (case ylnm => k_is)
    (case ycnm => k_is)
    (case ykpnm => k_is)
    (case yalc => k_is)
    (case yllc => k_is)
    (case yclc => k_is)
    (case ykplc => k_is)
    (case yalt => k_is)
    (case yllt => k_is)
    (case yclt => k_is)
    (case ykplt => k_is)
    (case yalf => k_is)
    (case yllf => k_is)
    (case yclf => k_is)
    (case ykplf => k_is)
    (case yalk => k_is)
    (case yllk => k_is)
    (case yclk => k_is)
    (case ykplk => k_is)
    (case yapr => k_is)
    (case ylpr => k_is)
    (case ycpr => k_is)
    (case ykppr => k_is)
    (case yapq => k_is)
    (case ylpq => k_is)
    (case ycpq => k_is)
    (case ykppq => k_is)
    (case yala => k_is)
    (case ylla => k_is)
    (case ycla => k_is)
    (case ykpla => k_is)
    (case yaC => k_is)
    (case yain => k_is)
    (case yiin => k_is)
    (case ylin => k_is)
    (case ycin => k_is)
    (case ykpin => k_is)
    (case yaeq => k_is)
    (case yieq => k_is)
    (case yleq => k_is)
    (case yceq => k_is)
    (case ykpeq => k_is)
    (case yasi => k_is)
    (case yisi => k_is)
    (case ylsi => k_is)
    (case ycsi => k_is)
    (case ykpsi => k_is)
    (case yasp => k_is)
    (case yisp => k_is)
    (case ylsp => k_is)
    (case ycsp => k_is)
    (case ykpsp => k_is)
    (case ypg => k_is)
    (case yhd => k_is)
    (case ypo => k_is)
    (case ysa => k_is)
    (case ymk => k_is)
    (case ykc => k_is)
    (case ynC => k_is)
    (case ynT => k_is)
    (case ynS => k_is)
    (case ynP => k_is)
    (case ynH => k_is)
    (case yrd => k_is)
    (case yga => k_is)
    (case yv6 => k_is)
    (case yv8 => k_is)
    (case yen => k_is)
    (case ymo => k_is)
    (case ynf => k_is)
    (case yica => k_is)
    (case yicn => k_is)
    (case yict => k_is)
    (case yicl => k_is)
    (case yz_isinstance => k_is)
    (case yz_len => k_is)
    (case yz_all => k_is)
    (case yz_list => k_is)
    (case yz_tuple => k_is)
    (case yz_range => k_is)
    (case yz_abs => k_is)
    (case yz_min => k_is)
    (case yz_int => k_is)
    (case yz_bool => k_is)
    (case yz_str => k_is)
    (case yz_sorted => k_is)
    (case yz_dict => k_is)
    (case yz_enumerate => k_is)
    (case yz_zip => k_is)
    (case yy_MOST_LETTERS => k_is)
    (case yy_MOST_VALUES => k_is)
    (case yy_MOST_SIDES => k_is)
    (case yaS => k_is)
    (case yasei => k_is)
    (case yisei => k_is)
    (case ylsei => k_is)
    (case yltsei => k_is)
    (case ycsei => k_is)
    (case ykpsei => k_is)
    (case yaseq => k_is)
    (case yiseq => k_is)
    (case ylseq => k_is)
    (case ycseq => k_is)
    (case ykpseq => k_is)
    (case yasha => k_is)
    (case yisha => k_is)
    (case ylsha => k_is)
    (case ycsha => k_is)
    (case ykpsha => k_is)
    (case yasro => k_is)
    (case yisro => k_is)
    (case ylsro => k_is)
    (case ycsro => k_is)
    (case ykpsro => k_is)
    (case yasse => k_is)
    (case yisse => k_is)
    (case ylsse => k_is)
    (case ycsse => k_is)
    (case ykpsse => k_is)
    (case yaswi => k_is)
    (case yiswi => k_is)
    (case ylswi => k_is)
    (case ycswi => k_is)
    (case ykpswi => k_is)
    (case yaswo => k_is)
    (case yiswo => k_is)
    (case ylswo => k_is)
    (case ycswo => k_is)
    (case ykpswo => k_is)
    (case yaspp => k_is)
    (case ygspp => k_is)
    (case ytspp => k_is)
    (case yrspp => k_is)
    (case ylspp => k_is)
    (case ycspp => k_is)
    (case ykpspp => k_is)
    (case ypgS => k_is)
    (case yhdS => k_is)
    (case ypoS => k_is)
    (case ysaS => k_is)
    (case ymkS => k_is)
    (case ykcS => k_is)
    (case ynSp => k_is)
    (case ynSe => k_is)
    (case ynSf => k_is)
    (case yenS => k_is)
    (case ymoS => k_is)
    (case ynfS => k_is)
    (case yicaS => k_is)
    (case yiclS => k_is)

