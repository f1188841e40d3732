import PyProof.Rows.All
import Wide.All
import OpenK.AllK
import Wide.FinOn
import HandS.ForMost
import HandS.Flow
import HandS.IsInst
import HandS.Property
import HandS.ClsMeth
import HandS.Conv
import HandS.DictComp
import HandS.SetBool
import HandS.SetKeys
import HandS.Defaults
import HandS.Wide
import HandS.Strs
import HandS.Zip
import HandS.OwnEq
import HandS.Walk
import KE.KDictKeyed
import KE.KDictCopyH
import KE.KDictList
import KE.KDictPairs
import HandS.Dict
import HandS.Deep
import PySem.Challenge.RW_asksold_k21_open_rows
import HandS.Exc
import HandS.TryOnly
import HandS.Lambda
import HandS.ExcIs
import KE.SortKeyed
import KE.DataCmp
import HandS.SortRule
import HandS.DeepEq
import KE.GoesMore
import HandS.Iter
import HandS.CallSlots
import HandS.ExcOwn
import HandS.WordsExc
import HandS.Star
import KE.GoesZip
import HandS.Style
import HandS.TupAny
import KE.SortData
import HandS.TupMul
import HandS.New
set_option Elab.async false
set_option linter.all false
set_option maxRecDepth 100000
/-! ## A0 -/
namespace As
open PySem PySem.Spec PyProof.Rows L2

theorem ps_dead {X : Cx} {st : Stmt} : PS X st tNever := ⟨fun _ _ _ _ _ _ h => h.elim⟩

/-! heaps -/
theorem same_new {H : Hp} {p : Addr} {o : HO} (h : H p = none) : Same H (upd H p o) := fun b u e => by
  rw [upd_ne (ne_of_none e h)]; exact e
theorem same_new' {B H : Hp} {p : Addr} {o : HO} (e : Same B H) (h : H p = none) : Same B (upd H p o) := e.trans (same_new h)
/-- a place that B does not know may change -/
theorem same_mut {B H : Hp} {p : Addr} {o : HO} (e : Same B H) (h : B p = none) : Same B (upd H p o) := fun b u q => by
  rw [upd_ne (ne_of_none q h)]; exact e b u q
theorem same_t {K : PySem.W.Frag} {H H' : Hp} {a : Addr} {xs : List V} (e : Same H H') (h : SqT K H a xs) : SqT K H' a xs := by
  rcases h with (h | ⟨o, h⟩) | h
  · exact .inl (.inl (e _ _ h))
  · exact .inl (.inr ⟨o, e _ _ h⟩)
  · exact .inr h
theorem tof {K : PySem.W.Frag} {H : Hp} {a : Addr} {xs : List V} (h : H a = some (.tup xs)) : SqT K H a xs := .inl (.inl h)
theorem lof {K : PySem.W.Frag} {H : Hp} {a : Addr} {xs : List V} (h : H a = some (.lst xs)) : SqL K H a xs := .inl (.inl h)
def rem (B : Hp) (f : Addr) : Hp := fun b => if b = f then none else B b
theorem rem_self {B : Hp} {f : Addr} : rem B f f = none := if_pos rfl
theorem rem_ne {B : Hp} {f b : Addr} (h : b ≠ f) : rem B f b = B b := if_neg h
theorem same_rem {B : Hp} {f : Addr} : Same (rem B f) B := fun b o e => by
  by_cases h : b = f
  · subst h; rw [rem_self] at e; cases e
  · rw [rem_ne h] at e; exact e
theorem same_into_rem {A B : Hp} {f : Addr} (e : Same A B) (h : A f = none) : Same A (rem B f) := fun b o q => by
  rw [rem_ne (ne_of_none q h)]; exact e b o q

/-! the source of draws -/
/-- the list at a is [cells, index, hash], its cells at c -/
def StAt (H : Hp) (a c : Addr) : Prop := ∃ (i h : Int) (cs : List Int), a ≠ c ∧ H a = some (.lst [.ref c, .int i, .int h]) ∧ H c = some (.lst (cs.map V.int)) ∧ 0 < cs.length ∧ cs.length ≤ 63 ∧ 0 ≤ h ∧ h < 2147483647
/-- all stands but the source of draws -/
def Fr (a c : Addr) (H H' : Hp) : Prop := ∀ b o, b ≠ a → b ≠ c → H b = some o → H' b = some o
/-- B is known to stand for good; the source of draws is none of it -/
structure Gd (a c : Addr) (B H : Hp) : Prop where
  ex : Same B H
  na : B a = none
  nc : B c = none
  st : StAt H a c
theorem StAt.same {H H' : Hp} {a c : Addr} (h : StAt H a c) (e : Same H H') : StAt H' a c := by
  obtain ⟨i, z, cs, n, h1, h2, r⟩ := h
  exact ⟨i, z, cs, n, e _ _ h1, e _ _ h2, r⟩
theorem StAt.a_ne {H : Hp} {a c b : Addr} (h : StAt H a c) (hb : H b = none) : b ≠ a := by
  obtain ⟨i, z, cs, n, h1, h2, r⟩ := h
  exact (ne_of_none h1 hb).symm
theorem StAt.c_ne {H : Hp} {a c b : Addr} (h : StAt H a c) (hb : H b = none) : b ≠ c := by
  obtain ⟨i, z, cs, n, h1, h2, r⟩ := h
  exact (ne_of_none h2 hb).symm
namespace Gd
variable {a c : Addr} {B B' H H' : Hp}
theorem same (g : Gd a c B H) (e : Same H H') : Gd a c B H' := ⟨g.ex.trans e, g.na, g.nc, g.st.same e⟩
theorem fr (g : Gd a c B H) (f : Fr a c H H') (s : StAt H' a c) : Gd a c B H' :=
  ⟨fun b o e => f b o (ne_of_none e g.na) (ne_of_none e g.nc) (g.ex b o e), g.na, g.nc, s⟩
theorem new (g : Gd a c B H) {p : Addr} {o : HO} (h : H p = none) : Gd a c B (upd H p o) := g.same (same_new h)
/-- the new object is known from then on -/
theorem add (g : Gd a c B H) {p : Addr} {o : HO} (h : H p = none) : Gd a c (upd B p o) (upd H p o) := by
  refine ⟨fun b u e => ?_, ?_, ?_, g.st.same (same_new h)⟩
  · by_cases q : b = p
    · subst q; rw [upd_same] at e ⊢; exact e
    · rw [upd_ne q] at e ⊢; exact g.ex b u e
  · rw [upd_ne (g.st.a_ne h).symm]; exact g.na
  · rw [upd_ne (g.st.c_ne h).symm]; exact g.nc
/-- what stands is told of -/
theorem know (g : Gd a c B H) {p : Addr} {o : HO} (h : H p = some o) (h1 : p ≠ a) (h2 : p ≠ c) : Gd a c (upd B p o) H := by
  refine ⟨fun b u e => ?_, ?_, ?_, g.st⟩
  · by_cases q : b = p
    · subst q; rw [upd_same] at e; rw [h]; exact e
    · rw [upd_ne q] at e; exact g.ex b u e
  · rw [upd_ne h1.symm]; exact g.na
  · rw [upd_ne h2.symm]; exact g.nc
theorem less (g : Gd a c B H) (e : Same B' B) : Gd a c B' H := by
  refine ⟨e.trans g.ex, ?_, ?_, g.st⟩
  · cases q : B' a with
    | none => rfl
    | some o => have := e _ _ q; rw [g.na] at this; cases this
  · cases q : B' c with
    | none => rfl
    | some o => have := e _ _ q; rw [g.nc] at this; cases this
/-- an object that is not told of is changed -/
theorem chg (g : Gd a c B H) {p : Addr} {o : HO} (h : B p = none) (h1 : p ≠ a) (h2 : p ≠ c) : Gd a c B (upd H p o) := by
  refine ⟨same_mut g.ex h, g.na, g.nc, ?_⟩
  obtain ⟨i, z, cs, n, e1, e2, r⟩ := g.st
  exact ⟨i, z, cs, n, by rw [upd_ne h1.symm]; exact e1, by rw [upd_ne h2.symm]; exact e2, r⟩
theorem free (g : Gd a c B H) {p : Addr} (h : H p = none) : B p = none := g.ex.free h
theorem ne_a (g : Gd a c B H) {p : Addr} (h : H p = none) : p ≠ a := g.st.a_ne h
theorem ne_c (g : Gd a c B H) {p : Addr} (h : H p = none) : p ≠ c := g.st.c_ne h
end Gd
end As

/-! ## A1 -/
namespace As
open PySem PySem.Spec PyProof.Rows L2

/-- a comprehension that only reads: item x gives f x, or is left out -/
theorem lc_same {J : It} {n : Nat} {G : Hp → Prop} {xs : List V} {g : TG} {tt : TT} {te : TE} {vs : List Nat} {σ : L2.St} {H1 B : Hp} {D : Addr} {Qd : Hp → Prop}
    (w : Walk J n G (YAt xs)) (hn : n = xs.length) (s0 : Same B H1) (hD : H1 D = none) (hG : ∀ H, Same B H → G H) (hl : xs.length < sizeLine) (f : V → Option V)
    (hs : ∀ x H (Q1 : VK) (Q2 : Hp → Prop), x ∈ xs → Same B H → (∀ y H4, f x = some y → Same H H4 → Q1 y H4) → (∀ H3, f x = none → Same H H3 → Q2 H3) →
      g x (wipe σ vs) H fun σ2 H2 => wipe σ2 vs = wipe σ vs ∧ tt σ2 H2 fun b H3 => if b = true then te σ2 H3 Q1 else Q2 H3)
    (hd : ∀ H', Same H1 H' → H' D = some (.lst (xs.filterMap f)) → Qd H') :
    ∃ W : Nat → Nat → Hp → Prop, (∃ m, W 0 m (upd H1 D (.lst []))) ∧ ∀ i m H, W i m H →
      (J.stop i H ∧ Qd H) ∨ (J.go i H ∧ ∃ Nx : Hp → Prop, (∀ H', Nx H' → ∃ m', m' < m ∧ W (i + 1) m' H') ∧ ∀ x H', J.yld i H x H' → g x (wipe σ vs) H' fun σ2 H2 => wipe σ2 vs = wipe σ vs ∧ tt σ2 H2 fun b H3 =>
        if b = true then te σ2 H3 fun y H4 => ∃ acc, H4 D = some (.lst acc) ∧ acc.length < sizeLine ∧ Nx (upd H4 D (.lst (acc ++ [y]))) else Nx H3) := by
  subst hn
  refine lc_it w (fun i H => Same H1 H ∧ H D = some (.lst ((xs.take i).filterMap f))) ⟨same_new hD, by rw [upd_same]; rfl⟩ (fun i H _ p => hG H (s0.trans p.1)) (fun i x H H' hi p y => ?_) (fun H p => hd H p.1 (by rw [p.2, List.take_length]))
  obtain ⟨rfl, hx⟩ := y
  have hm : x ∈ xs := List.mem_of_getElem? hx
  have ht : xs.take (i + 1) = xs.take i ++ [x] := by
    rw [List.take_succ, hx]; rfl
  refine hs x H' _ _ hm (s0.trans p.1) (fun y H4 e s4 => ⟨_, s4 _ _ p.2, ?_, ?_, ?_⟩) (fun H3 e s3 => ⟨p.1.trans s3, ?_⟩)
  · have a1 := List.length_filterMap_le f (xs.take i)
    have a2 := List.length_take_le i xs
    omega
  · exact same_mut (p.1.trans s4) hD
  · rw [upd_same, ht, List.filterMap_append, List.filterMap_cons, e]; rfl
  · rw [s3 _ _ p.2, ht, List.filterMap_append, List.filterMap_cons, e]; simp

/-- a comprehension whose turns draw: P tells what is made so far -/
theorem lc_draw {J : It} {n : Nat} {G : Hp → Prop} {xs : Nat → V} {g : TG} {tt : TT} {te : TE} {vs : List Nat} {σ : L2.St} {H1 B : Hp} {D a c : Addr} {Qd : Hp → Prop}
    (w : Walk J n G (YFn xs)) (g0 : Gd a c B H1) (hD : H1 D = none) (hG : ∀ B' H, Same B B' → Gd a c B' H → G H) (hl : n < sizeLine) (P : Nat → List V → Hp → Prop)
    (h0 : P 0 [] B) (hP : ∀ i acc acc0 B', P i acc B' → B' D = some (.lst acc0) → P i acc (rem B' D)) (hlen : ∀ i acc B', P i acc B' → acc.length ≤ i)
    (hs : ∀ i H B' acc (Q1 : VK) (Q2 : Hp → Prop), i < n → Same B B' → Gd a c B' H → P i acc (rem B' D) → B' D = some (.lst acc) →
      (∀ y H4 B4, Same B' B4 → Gd a c B4 H4 → P (i + 1) (acc ++ [y]) B4 → Q1 y H4) → (∀ H3 B3, Same B' B3 → Gd a c B3 H3 → P (i + 1) acc B3 → Q2 H3) →
      g (xs i) (wipe σ vs) H fun σ2 H2 => wipe σ2 vs = wipe σ vs ∧ tt σ2 H2 fun b H3 => if b = true then te σ2 H3 Q1 else Q2 H3)
    (hd : ∀ H' B' acc, Same B B' → Gd a c B' H' → B' D = some (.lst acc) → P n acc (rem B' D) → Qd H') :
    ∃ W : Nat → Nat → Hp → Prop, (∃ m, W 0 m (upd H1 D (.lst []))) ∧ ∀ i m H, W i m H →
      (J.stop i H ∧ Qd H) ∨ (J.go i H ∧ ∃ Nx : Hp → Prop, (∀ H', Nx H' → ∃ m', m' < m ∧ W (i + 1) m' H') ∧ ∀ x H', J.yld i H x H' → g x (wipe σ vs) H' fun σ2 H2 => wipe σ2 vs = wipe σ vs ∧ tt σ2 H2 fun b H3 =>
        if b = true then te σ2 H3 fun y H4 => ∃ acc, H4 D = some (.lst acc) ∧ acc.length < sizeLine ∧ Nx (upd H4 D (.lst (acc ++ [y]))) else Nx H3) := by
  have bD : B D = none := g0.free hD
  have na := g0.ne_a hD
  have nc := g0.ne_c hD
  -- the invariant: what is known but for the list at D, and the list
  refine lc_it w (fun i H => ∃ B' acc, Same B B' ∧ B' D = none ∧ Gd a c B' H ∧ H D = some (.lst acc) ∧ P i acc B') ⟨B, [], fun _ _ e => e, bD, g0.chg bD na nc |>.less (fun _ _ e => e), upd_same, h0⟩
    (fun i H _ ⟨B', acc, s, _, gd, _, _⟩ => hG B' H s gd) (fun i x H H' hi p y => ?_) (fun H p => ?_)
  · obtain ⟨rfl, rfl⟩ := y
    obtain ⟨B', acc, s, bn, gd, hd', p⟩ := p
    have rD : rem (upd B' D (.lst acc)) D = B' := by
      funext b
      by_cases e : b = D
      · subst e; rw [rem_self, bn]
      · rw [rem_ne e, upd_ne e]
    refine hs i H' (upd B' D (.lst acc)) acc _ _ hi (same_new' s bn) (gd.know hd' na nc) (by rw [rD]; exact p) upd_same (fun y H4 B4 s4 g4 p4 => ?_) (fun H3 B3 s3 g3 p3 => ?_)
    · have b4 : B4 D = some (.lst acc) := s4 _ _ upd_same
      have e4 : H4 D = some (.lst acc) := g4.ex _ _ b4
      have h1 := hlen _ _ _ p4
      rw [List.length_append] at h1
      have h2 : acc.length < sizeLine := by simp at h1; omega
      refine ⟨acc, e4, h2, rem B4 D, acc ++ [y], same_into_rem (s.trans ((same_new bn).trans s4)) bD, rem_self, ?_, upd_same, hP _ _ _ _ p4 b4⟩
      exact (g4.less same_rem).chg rem_self na nc
    · have b3 : B3 D = some (.lst acc) := s3 _ _ upd_same
      exact ⟨rem B3 D, acc, same_into_rem (s.trans ((same_new bn).trans s3)) bD, rem_self, g3.less same_rem, g3.ex _ _ b3, hP _ _ _ _ p3 b3⟩
  · obtain ⟨B', acc, s, bn, gd, hd', p⟩ := p
    have rD : rem (upd B' D (.lst acc)) D = B' := by
      funext b
      by_cases e : b = D
      · subst e; rw [rem_self, bn]
      · rw [rem_ne e, upd_ne e]
    exact hd H (upd B' D (.lst acc)) acc (same_new' s bn) (gd.know hd' na nc) upd_same (by rw [rD]; exact p)
/-- a list's items by place -/
theorem walk_at {K : PySem.W.Frag} {a : Addr} {xs : List V} (d : V) : Walk (Itl K a) xs.length (fun H => SqL K H a xs) (YFn fun i => xs.getD i d) :=
  walk_list.mono (fun _ h => h) fun i H x H' hi _ y => ⟨y.1, by show x = xs.getD i d; rw [List.getD_eq_getElem?_getD, y.2]; rfl⟩
end As

/-! ## A2 -/
namespace As
open PySem PySem.Spec PyProof.Rows L2
/-- a def of the top, as it stands -/
structure Df (K : PySem.W.Frag) (mg : Str → Option Value) (x : Str) (st : Stmt) (ps : List Str) (f : Addr) (fd : FuncData) : Prop where
  F : Fun K x x st f fd
  m : mg x = some (.ref f)
  b : Binds K fd ps []
/-- what the program reads of the module and the built-ins -/
structure Bi (mg : Str → Option Value) : Prop where
  isinst : mg "isinstance" = none
  len : mg "len" = none
  all : mg "all" = none
  list : mg "list" = none
  tuple : mg "tuple" = none
  range : mg "range" = none
  abs : mg "abs" = none
  min : mg "min" = none
  int : mg "int" = none
  bool : mg "bool" = none
  str : mg "str" = none
  sorted : mg "sorted" = none
  dict : mg "dict" = none
section
variable {X : Cx} {sp : Sp} {x : Str} {f : Addr} {fd : FuncData} {ps : List Str} {k : Nat} {st : Stmt} {p pos : Pos} {e : Expr} {es : List Expr} {t : TA}
theorem pcall (D : Df X.K X.mg x st ps f fd) (G : FnOk X.prog X.w X.K X.mg X.base CX0 k f fd ps sp) (hr : Room k X.A) (ha : PA X (e :: es) t) (hg : Gl X x := by rfl)
    (he : starEach (e :: es) X.env = (false, eval e X.env) :: starEach es X.env := by rfl) (hpl : (backTo pos (starEach es X.env)).any (·.1) = false := by rfl) (hdb : (x == ("__debug__" : Str)) = false := by decide) :
    PE X (.Call (.Name x p) (e :: es) [] pos) (tCall sp [] E0 t) := pe_call G hr hg D.m D.F.kp D.b .nil pass0 ha (he := he) (hpl := hpl) (hdb := hdb)
end
theorem hu64 {A : Around} {k : Nat} (hr : Room k A) : A.units + 64 < cLine := by have := hr.un; omega
/-- which of two built-in types -/
theorem kint_int {K : PySem.W.Frag} : PySem.W.kitOne K (.type "int") (.type "int") = some true := kit_ty (by decide +kernel)
theorem kint_bool {K : PySem.W.Frag} : PySem.W.kitOne K (.type "int") (.type "bool") = some false := kit_ty (by decide +kernel)
theorem kstr_str {K : PySem.W.Frag} : PySem.W.kitOne K (.type "str") (.type "str") = some true := kit_ty (by decide +kernel)
theorem ktup_tup {K : PySem.W.Frag} : PySem.W.kitOne K (.type "tuple") (.type "tuple") = some true := kit_ty (by decide +kernel)
theorem ktup_list {K : PySem.W.Frag} : PySem.W.kitOne K (.type "tuple") (.type "list") = some false := kit_ty (by decide +kernel)
theorem klist_list {K : PySem.W.Frag} : PySem.W.kitOne K (.type "list") (.type "list") = some true := kit_ty (by decide +kernel)
end As
namespace As
open PySem PySem.Spec PyProof.Rows L2
/-! texts sign by sign -/
def signs (z : Str) : List V := z.cps.toList.map fun c => V.str ⟨#[c]⟩
theorem signs_length {z : Str} : (signs z).length = z.cps.size := by unfold signs; rw [List.length_map, Array.length_toList]
theorem walk_sign {z : Str} : Walk (Its z) z.cps.size (fun _ => True) (YAt (signs z)) :=
  walk_str.mono (fun _ h => h) fun i H v H' _ _ y => by
    obtain ⟨e, c, hc, rfl⟩ := y
    refine ⟨e, ?_⟩
    unfold signs
    rw [List.getElem?_map, Array.getElem?_toList, hc]
    rfl
theorem one_le {c d : Nat} : (!decide (([c] : List Nat) < [d])) = decide (d ≤ c) := by
  have h : ([c] < [d]) ↔ c < d := by
    constructor
    · intro h
      cases h with
      | rel h => exact h
      | cons h => cases h
    · intro h; exact List.Lex.rel h
  by_cases q : d ≤ c
  · rw [decide_eq_true q, decide_eq_false (fun z => by have := h.mp z; omega)]; rfl
  · rw [decide_eq_false q, decide_eq_true (h.mpr (by omega))]; rfl
def letter (c : Nat) : Bool := decide (97 ≤ c) && decide (c ≤ 122)
def nameB (z : Str) : Bool := decide (1 ≤ z.length ∧ z.length ≤ 8) && z.cps.toList.all letter
theorem str_len {z : Str} : z.length = z.cps.size := rfl
theorem all_map {α : Type} {f : α → Bool} : ∀ {l : List α}, (l.map f).all id = l.all f
  | [] => rfl
  | a :: r => by rw [List.map_cons, List.all_cons, List.all_cons, all_map]; rfl
theorem filterMap_some {α β : Type} {f : α → β} {l : List α} : l.filterMap (fun x => some (f x)) = l.map f := by
  induction l with
  | nil => rfl
  | cons a r ih => rw [List.filterMap_cons, List.map_cons, ih]
end As
namespace As
theorem filterMap_same {α β : Type} {f g : α → Option β} : ∀ {l : List α}, (∀ x ∈ l, f x = g x) → l.filterMap f = l.filterMap g
  | [], _ => rfl
  | a :: r, h => by rw [List.filterMap_cons, List.filterMap_cons, h a List.mem_cons_self, filterMap_same fun x hx => h x (List.mem_cons_of_mem _ hx)]
end As

/-! ## A3 -/
set_option maxHeartbeats 2000000
namespace As
open PySem PySem.Spec PyProof.Rows L2
/-- an iteration served by one of two rules -/
theorem pi_either {X : Cx} {tg e : Expr} {w1 w2 : TI} (h1 : PI X tg e w1) (h2 : PI X tg e w2) : PI X tg e (fun σ H R => w1 σ H R ∨ w2 σ H R) :=
  ⟨fun pins s σ H R I h => h.elim (fun q => h1.run pins s σ H R I q) fun q => h2.run pins s σ H R I q⟩

/-- {elt for target in iter if ..} of texts and ints: the set grows by the key k -/
def ScTurn (P : Program) (w : World) (D : Addr) (Nx : Hp → Prop) (y : V) (H : Hp) : Prop :=
  ∃ (k : Key) (S : Key → Bool) (n : Nat), y = kV k ∧ H D = some (SetK P w D S n) ∧ n + 1 < scanBound ∧ Nx (upd H D (SetK P w D (fun j => S j || decide (j = k)) (if S k = true then n else n + 1)))
def tScK (P : Program) (w : World) (wi : TI) (g : TG) (tt : TT) (te : TE) (vs : List Nat) : TE := fun σ H Q => wi σ H fun J H1 => ∀ D, H1 D = none →
  ∃ W : Nat → Nat → Hp → Prop, (∃ m, W 0 m (upd H1 D (SetK P w D (fun _ => false) 0))) ∧ ∀ i m H, W i m H → (J.stop i H ∧ Q (.ref D) H) ∨ (J.go i H ∧ ∃ Nx : Hp → Prop, (∀ H', Nx H' → ∃ m', m' < m ∧ W (i + 1) m' H') ∧
    ∀ x H', J.yld i H x H' → g x (wipe σ vs) H' fun σ2 H2 => wipe σ2 vs = wipe σ vs ∧ tt σ2 H2 fun b H3 => if b = true then te σ2 H3 (ScTurn P w D Nx) else Nx H3)

theorem setK_fresh {P : Program} {w : World} {h : Heap} : (h.push { cls := .type "set", dict := none, data := .set #[] 0 (.fresh 0 0 (!w.params.followText "set-order")) }).SetOf (mixKind P w) h.objs.size (fun _ => false) 0 :=
  ⟨_, #[], 0, _, Heap.get?_push_size h rfl, ⟨rfl, rfl, rfl⟩, rfl, (fun e he => by simp at he), (fun k => by simp), (by decide), (by rfl), rfl⟩

theorem addK_ok {X : Cx} {pins : List (Addr × Obj)} {σ : L2.St} {H : Hp} {s : Shared} {E : Value → Shared → Prop} {D : Addr} {S : Key → Bool} {n : Nat} {k : Key} {u : Value} {Q : Value → Shared → Prop} (I : Inv X pins σ H s) (r : RelV (kV k) u)
    (hD : H D = some (SetK X.prog X.w D S n)) (room : n + 1 < scanBound) (q : ∀ s', Inv X pins σ (upd H D (SetK X.prog X.w D (fun j => S j || decide (j = k)) (if S k = true then n else n + 1))) s' → Q .none s') :
    wpAny (model X.prog X.w) X.A (call (.builtin "set.add") [.ref D, u]) Q E s := by
  refine call_set_add (kV_is r) (key_scan r) (setK_get I hD) room fun h' sb new => q _ ?_
  have ⟨o, _, _, _, ho, _⟩ := new
  exact I.write (e := D) (t' := s.toks + 1) (by rw [hD]; trivial) (.inl rfl) (fun b u hb hu => (sb.2 b hb).trans hu) ⟨o, ho⟩ (setK_new new)

section
variable {X : Cx}
theorem pe_scK {elt tg iter : Expr} {ifs : List Expr} {scope : Scope} {own : List (Str × Nat)} {pos : Pos} {wi : TI} {g : TG} {tt : TT} {te : TE} (calm : X.calm = true) (nd : X.N.Nodup) (hi : PI X tg iter wi) (ok : BlkOk X.N X.env.scope scope own)
    (G : ∀ s H C cl fp, PG (X.blk s H scope (compEnvC scope cl C X.env) fp) tg g) (T : ∀ s H C cl fp, PTs (X.blk s H scope (compEnvC scope cl C X.env) fp) ifs tt)
    (V : ∀ s H C cl fp, PE (X.blk s H scope (compEnvC scope cl C X.env) fp) elt te) (folds : ∀ x, foldedSetIterable iter X.env x = pure x := by intro _; rfl) :
    PE X (.SetComp elt [⟨tg, iter, ifs, 0⟩] scope pos) (tScK X.prog X.w wi g tt te (own.map (·.2))) := by
  refine ⟨fun pins s σ H Q I h => ?_⟩
  rw [PpSet.eval_SetComp]
  have frees : ∀ y ∈ scope.names, y.2 = .free → ∃ c, X.env.cells.lookup y.1 = some c := fun y hy e => (ok.free y hy e).elim (fun k => I.ok.has _ (.inl k)) fun k => I.ok.has _ (.inr k)
  refine wpAny_comprehension_free rfl folds (closure_ok frees) ok.kind (fun y hy e => by rw [ok.uniq y hy, e]) (thn (hi.run pins s σ H _ I h) fun xv s1 hx => thn hx fun itv s2 h2 => ?_)
  obtain ⟨it, fp, tn, J, H2, rfl, I2, walk, at2, free2, q⟩ := h2
  refine PpSet.newSet_ok (newEnv_comp ?_)
  -- D: the place of the new set
  obtain ⟨D, hD⟩ : ∃ D, s2.heap.objs.size = D := ⟨_, rfl⟩
  obtain ⟨W, ⟨m0, w0⟩, turn⟩ := q D (I2.hok.fresh (Nat.le_of_eq hD))
  obtain ⟨H3, eH3⟩ : ∃ H3, upd H2 D (SetK X.prog X.w D (fun _ => false) 0) = H3 := ⟨_, rfl⟩
  obtain ⟨s3, e3⟩ : ∃ s3 : Shared, ({ s2 with heap := s2.heap.push { cls := .type "set", dict := none, data := .set #[] 0 (.fresh 0 0 (!X.w.params.followText "set-order")) } } : Shared) = s3 := ⟨_, rfl⟩
  have I3 : Inv X pins σ H3 s3 := by
    subst e3 eH3
    refine I2.laid (t' := s2.toks) (fun b o e => Heap.get?_push_of_some _ e) (Nat.le_of_eq hD) ?_
    subst hD
    exact setK_new setK_fresh
  have grow : ∀ b o, s2.heap.get? b = some o → s3.heap.get? b = some o := fun b o e => by subst e3; exact Heap.get?_push_of_some _ e
  have in3 : ∀ b ∈ fp, b < s2.heap.objs.size ∧ b < s3.heap.objs.size := fun b hb => by
    obtain ⟨o, e, _⟩ := walk.obj _ _ at2 b hb
    exact ⟨Heap.lt_size e, Heap.lt_size (grow b o e)⟩
  have free3 : ∀ b ∈ fp, FpOk X pins H3 b ∧ b < s3.heap.objs.size := fun b hb => by
    refine ⟨⟨?_, (free2 b hb).2⟩, (in3 b hb).2⟩
    rw [← eH3, upd_ne (by rw [← hD]; exact Nat.ne_of_lt (in3 b hb).1)]
    exact (free2 b hb).1
  have at3 : tn 0 s3.heap := walk.keep _ _ _ at2 fun b _ o e => grow b o e
  have I4 := block_start I3 ok nd free3
  obtain ⟨cl, ecl⟩ : ∃ cl, cellsFrom (s3.heap.objs.size + 1) scope.names (cloFrom X.env.cells scope.names []) = cl := ⟨_, rfl⟩
  rw [ecl] at I4
  have pg := G s3 H3 s3.heap.objs.size cl fp
  have pt := T s3 H3 s3.heap.objs.size cl fp
  have pe := V s3 H3 s3.heap.objs.size cl fp
  rw [eH3] at w0
  have none3 : ∀ b ∈ fp, H3 b = none := fun b hb => (free3 b hb).1.1
  show codeAny _ _ (.compStart (.SetComp elt [⟨tg, iter, ifs, 0⟩] scope pos) 0 (.ref it) (.ref s2.heap.objs.size) _) _ _
  rw [e3, hD, ecl]
  show codeAny _ _ (.compStart _ 0 (.ref it) (.ref D) (compEnvC scope cl s3.heap.objs.size X.env)) (compPost (model X.prog X.w) X.A X.xe none (EP X pins σ Q) (.ref D) s3.heap.objs.size)
    ({ s3 with heap := pushCells (s3.heap.push { cls := .type "dict", data := .dict #[] }) scope.names } : Shared)
  obtain ⟨ce, ece⟩ : ∃ ce, compEnvC scope cl s3.heap.objs.size X.env = ce := ⟨_, rfl⟩
  rw [ece] at I4 pg pt pe ⊢
  have place : ce.locals = s3.heap.objs.size := by rw [← ece]; rfl
  obtain ⟨s4, e4⟩ : ∃ s4 : Shared, ({ s3 with heap := pushCells (s3.heap.push { cls := .type "dict", data := .dict #[] }) scope.names } : Shared) = s4 := ⟨_, rfl⟩
  rw [e4] at I4 ⊢
  have at4 : tn 0 s4.heap := walk.keep _ _ _ at3 fun b _ o e => by rw [← e4]; exact pushCells_keeps _ _ _ _ (Heap.get?_push_of_some _ e)
  have stays : ∀ {σ' : L2.St} {H' : Hp} {s' : Shared}, Inv (X.blk s3 H3 scope ce fp) [] σ' H' s' → (∀ b ∈ fp, H' b = none) → ∀ b ∈ fp, FpOk (X.blk s3 H3 scope ce fp) [] H' b := fun {σ' H' s'} I' hn b hb =>
    ⟨hn b hb, (I'.ok.exf b hb).1, I'.ok.exfs b hb, .inl hb, fun x c e => (I'.ok.exf b hb).2 x c e, fun p hp => absurd (show p ∈ ([] : List (Addr × Obj)) ++ [] from hp) (by simp)⟩
  refine PpSet.codeAny_compStart_set ?loop (walk.self X.A 0 _ _ _ at4 ?loop)
  refine PpSet.compLoopS_any (fun n s' => ∃ i H', Inv (X.blk s3 H3 scope ce fp) [] (wipe σ (own.map (·.2))) H' s' ∧ tn i s'.heap ∧ (∀ b ∈ fp, H' b = none) ∧ W i n H') ?_ m0 ⟨0, H3, I4, at4, none3, w0⟩
  rintro n s5 ⟨i, H5, I5, at5, n5, w5⟩
  rcases turn i n H5 w5 with ⟨stop, qq⟩ | ⟨go, Nx, hNx, step⟩
  · -- no item is left: back in the def
    refine thnF (walk.done (X.blk s3 H3 scope ce fp) rfl rfl rfl calm i [] s5 _ H5 (fun _ _ => False) I5 (stays I5 n5) at5 stop) fun r s6 ⟨hr, I6⟩ => ?_
    subst hr
    have I7 : Inv X pins σ H5 s6 := I3.call' (ch := fp) I6.os I6.base I6.hok I6.bare fun b hb => ⟨(free3 b hb).1.2.2.2.1, (free3 b hb).1.2.1, (free3 b hb).1.2.2.2.2.1, (free3 b hb).1.2.2.2.2.2⟩
    have none5 : H5 s3.heap.objs.size = none := place ▸ (show H5 ce.locals = none from I6.free)
    obtain ⟨m, hn, _⟩ := I6.loc
    have hn : s6.heap.Ns ce.locals m := hn
    rw [place] at hn
    obtain ⟨f0, f1, f2, f3, f4, f5⟩ := I3.fpOk (Nat.le_refl _) none5
    exact ⟨m, hn, fun h'' sb => ⟨.ref D, H5, I7.turned (t' := s6.toks) (fun b o hb e => (sb.2 b hb).trans e) f0 f1 f3 f4 f5, rfl, qq⟩⟩
  · refine thnF (walk.item (X.blk s3 H3 scope ce fp) rfl rfl rfl calm i [] s5 _ H5 (fun _ _ => False) I5 (stays I5 n5) at5 go) fun r s6 ⟨u, hr, h6⟩ => ?_
    subst hr
    refine thnF h6 fun _ s7 ⟨x, H7, I7, r7, y7, at7, n7⟩ => ?_
    refine thnF (pg.run _ s7 _ H7 x u _ (I7.pinned (stays I7 n7) (walk.obj _ _ at7)) r7 (step x H7 y7)) fun _ s8 ⟨σ8, H8, I8, same8, q8⟩ => ?_
    refine thnF (pt.run _ s8 σ8 H8 _ I8 q8) fun b s9 ⟨H9, I9, q9⟩ => ?_
    have next : ∀ {s' : Shared} {H' : Hp}, Inv (X.blk s3 H3 scope ce fp) ([] ++ pinsAt fp s7.heap) σ8 H' s' → Nx H' →
        ∃ m, m < n ∧ ∃ i H', Inv (X.blk s3 H3 scope ce fp) [] (wipe σ (own.map (·.2))) H' s' ∧ tn i s'.heap ∧ (∀ b ∈ fp, H' b = none) ∧ W i m H' := fun {s' H'} I' nx => by
      obtain ⟨m', less, w'⟩ := hNx H' nx
      have pinned : ∀ b ∈ fp, ∀ o, s7.heap.get? b = some o → s'.heap.get? b = some o ∧ H' b = none := fun b hb o e =>
        have z := I'.pin (b, o) (List.mem_append_right _ (List.mem_append_right _ (mem_pinsAt hb e)))
        ⟨z.1, z.2.1⟩
      refine ⟨m', less, i + 1, H', (I'.unpinned (pins := [])).weak (by rw [← same8, wipe_length]) (fun j v e => ?_), walk.keep _ _ _ at7 fun b hb o e => (pinned b hb o e).1, fun b hb => ?_, w'⟩
      · rw [← same8] at e
        exact (wipe_some e).1
      · obtain ⟨o, e, _⟩ := walk.obj _ _ at7 b hb
        exact (pinned b hb o e).2
    cases b with
    | false =>
      simp only [Bool.false_eq_true, if_false] at q9 ⊢
      exact next I9 q9
    | true =>
      simp only [if_true] at q9 ⊢
      refine thnF (pe.run _ s9 σ8 H9 _ I9 q9) fun z s10 ⟨yv, H10, I10, r10, k, S0, n0, ey, atD, room, nx⟩ => ?_
      subst ey
      exact addK_ok (X := X.blk s3 H3 scope ce fp) I10 r10 atD room fun s11 I11 => next I11 nx
end
end As
namespace As
open PySem PySem.Spec PyProof.Rows L2
theorem call_lenK {X : Cx} : CallR X (.builtin "len") (fun xs H Q => ∃ (a : Addr) (S : Key → Bool) (n : Nat), xs = [.ref a] ∧ H a = some (SetK X.prog X.w a S n) ∧ Q (.int n) H) := by
  intro pins s σ H xs us Q I r h
  obtain ⟨a, S, n, rfl, ha, q⟩ := h
  cases r with
  | cons r t =>
    cases t
    cases (show _ = Value.ref a from r)
    obtain ⟨o, es, ep, t, ho, hex, hd, _, _, hb, hf, hn⟩ := setK_get I ha
    have hs : (scanBound : Nat) ≤ 2 ^ 62 := by decide
    exact call_len_set ho hex hd hf (by omega) ⟨.int n, H, I.tok _, ⟨_, by rw [hn]⟩, q⟩

/-- the set comprehension that only reads: keys distinct -/
theorem sc_same {P : Program} {w : World} {J : It} {n : Nat} {G : Hp → Prop} {xs : List V} {g : TG} {tt : TT} {te : TE} {vs : List Nat} {σ : L2.St} {H1 B : Hp} {D : Addr} {Qd : Hp → Prop}
    (wk : Walk J n G (YAt xs)) (hn : n = xs.length) (s0 : Same B H1) (hD : H1 D = none) (hG : ∀ H, Same B H → G H) (hl : xs.length + 1 < scanBound) (f : V → Key) (nd : (xs.map f).Nodup)
    (hs : ∀ x H (Q1 : VK) (Q2 : Hp → Prop), x ∈ xs → Same B H → (∀ H4, Same H H4 → Q1 (kV (f x)) H4) →
      g x (wipe σ vs) H fun σ2 H2 => wipe σ2 vs = wipe σ vs ∧ tt σ2 H2 fun b H3 => if b = true then te σ2 H3 Q1 else Q2 H3)
    (hd : ∀ H' S, Same H1 H' → H' D = some (SetK P w D S xs.length) → Qd H') :
    ∃ W : Nat → Nat → Hp → Prop, (∃ m, W 0 m (upd H1 D (SetK P w D (fun _ => false) 0))) ∧ ∀ i m H, W i m H →
      (J.stop i H ∧ Qd H) ∨ (J.go i H ∧ ∃ Nx : Hp → Prop, (∀ H', Nx H' → ∃ m', m' < m ∧ W (i + 1) m' H') ∧ ∀ x H', J.yld i H x H' → g x (wipe σ vs) H' fun σ2 H2 => wipe σ2 vs = wipe σ vs ∧ tt σ2 H2 fun b H3 =>
        if b = true then te σ2 H3 (ScTurn P w D Nx) else Nx H3) := by
  subst hn
  have main : ∀ i, i ≤ xs.length → ∀ H, (Same H1 H ∧ ∃ S : Key → Bool, H D = some (SetK P w D S i) ∧ ∀ k, S k = true → k ∈ (xs.take i).map f) → True := fun _ _ _ _ => trivial
  refine ⟨fun i m H => m = xs.length - i ∧ i ≤ xs.length ∧ Same H1 H ∧ ∃ S : Key → Bool, H D = some (SetK P w D S i) ∧ ∀ k, S k = true → k ∈ (xs.take i).map f, ⟨_, rfl, Nat.zero_le _, same_new hD, _, upd_same, fun k z => by cases z⟩, ?_⟩
  rintro i m H ⟨rfl, hi, s1, S, hS, hk⟩
  by_cases hlt : i < xs.length
  · refine .inr ⟨wk.goes i H hlt (hG H (s0.trans s1)), fun H' => Same H1 H' ∧ ∃ S : Key → Bool, H' D = some (SetK P w D S (i + 1)) ∧ ∀ k, S k = true → k ∈ (xs.take (i + 1)).map f, fun H' p => ⟨xs.length - (i + 1), by omega, rfl, hlt, p⟩, fun x H' y => ?_⟩
    obtain ⟨rfl, hx⟩ := wk.yields i H x H' hlt (hG H (s0.trans s1)) y
    have ht : xs.take (i + 1) = xs.take i ++ [x] := by rw [List.take_succ, hx]; rfl
    refine hs x H' _ _ (List.mem_of_getElem? hx) (s0.trans s1) fun H4 s4 => ?_
    have new : S (f x) = false := by
      cases e : S (f x) with
      | false => rfl
      | true =>
        have h1 := hk _ e
        have h2 : ((xs.take (i + 1)).map f).Nodup := by
          rw [List.map_take]; exact List.Sublist.nodup (List.take_sublist _ _) nd
        rw [ht, List.map_append, List.nodup_append] at h2
        exact absurd rfl (h2.2.2 _ h1 (f x) (by simp))
    refine ⟨f x, S, i, rfl, s4 _ _ hS, by omega, same_mut (s1.trans s4) hD, _, by rw [upd_same, new]; rfl, fun k z => ?_⟩
    rw [ht, List.map_append, List.mem_append]
    rw [Bool.or_eq_true] at z
    rcases z with z | z
    · exact .inl (hk k z)
    · exact .inr (by rw [of_decide_eq_true z]; simp)
  · have e : i = xs.length := by omega
    subst e
    exact .inl ⟨wk.stops H (hG H (s0.trans s1)), hd H S s1 hS⟩
end As
namespace As
open PySem PySem.Spec PyProof.Rows L2
/-! the same rules where the context is a comprehension's: the text's part is named -/
section
variable {X : Cx} (K : PySem.W.Frag)
theorem inK (h : X.K = K := by rfl) : OpR X (compareOp .In) (rIn K false) := h ▸ op_in_seq
theorem notInK (h : X.K = K := by rfl) : OpR X (compareOp .NotIn) (rIn K true) := h ▸ op_notIn_seq
theorem ixL (h : X.K = K := by rfl) : IxR X (rIxL K) := h ▸ ix_list
theorem ixT (h : X.K = K := by rfl) : IxR X (rIxT K) := h ▸ ix_tup
theorem slL (h : X.K = K := by rfl) : SlR X (rSlL K) := h ▸ sl_list
theorem pgT {es : List Expr} {k n : Nat} {t : TGs} {pos : Pos} (hk : PG X (.Tuple es k pos) (gTup X.K n t)) (h : X.K = K := by rfl) : PG X (.Tuple es k pos) (gTup K n t) := h ▸ hk
end
end As

/-! ## A4 -/
namespace As
open PySem PySem.Spec PyProof.Rows L2
section
variable {X : Cx} (K : PySem.W.Frag)
theorem fldK {e : Expr} {f : Str} {ta : TE} {pos : Pos} (he : PE X e ta) (hb : attributeBase e f X.env (eval e X.env) = eval e X.env := by rfl) (h : X.K = K := by rfl) : PE X (.Attribute e f pos) (tFld K ta f) := h ▸ pe_fld he hb
theorem tupK {p pos : Pos} {a : Expr} {ta : TE} (ha : PE X a ta) (hg : Gl X "tuple" := by rfl) (hm : X.mg "tuple" = none := by assumption) (h : X.K = K := by rfl) (na : starEach [a] X.env = (false, eval a X.env) :: starEach [] X.env := by rfl) :
    PE X (.Call (.Name "tuple" p) [a] [] pos) (tThen ta (kTup K)) := h ▸ pe_tupleOf hg hm ha na
theorem piL {tg l : Expr} {tl : TE} (hl : PE X l tl) (h : X.K = K := by rfl) : PI X tg l (iList K tl) := h ▸ pi_list hl
theorem piT {tg l : Expr} {tl : TE} (hl : PE X l tl) (h : X.K = K := by rfl) : PI X tg l (iTup K tl) := h ▸ pi_tup hl
end
theorem putK_new {κ : Type} [DecidableEq κ] {kvs : List (κ × V)} {k : κ} {v : V} (h : k ∉ kvs.map (·.1)) : putK kvs k v = kvs ++ [(k, v)] := by
  unfold putK
  rw [if_neg]
  intro z
  rw [List.any_eq_true] at z
  obtain ⟨kv, hm, e⟩ := z
  exact h (List.mem_map.mpr ⟨kv, hm, of_decide_eq_true e⟩)
theorem paired_keys {α : Type} {R : α → V → Prop} {f : α → Key} : ∀ {xs : List α} {kvs : List (Key × V)}, Paired (fun x kv => kv.1 = f x ∧ R x kv.2) xs kvs → kvs.map (·.1) = xs.map f
  | _, _, .nil => rfl
  | _, _, .cons h t => by rw [List.map_cons, List.map_cons, h.1, paired_keys t]
theorem paired_len {α β : Type} {R : α → β → Prop} : ∀ {xs : List α} {ys : List β}, Paired R xs ys → xs.length = ys.length
  | _, _, .nil => rfl
  | _, _, .cons _ t => by rw [List.length_cons, List.length_cons, paired_len t]
theorem paired_imp {α β : Type} {R S : α → β → Prop} (h : ∀ a b, R a b → S a b) : ∀ {xs : List α} {ys : List β}, Paired R xs ys → Paired S xs ys
  | _, _, .nil => .nil
  | _, _, .cons r t => .cons (h _ _ r) (paired_imp h t)
/-- tuples stand -/
def Imm (H H' : Hp) : Prop := ∀ b xs, H b = some (.tup xs) → H' b = some (.tup xs)
theorem same_imm {H H' : Hp} (e : Same H H') : Imm H H' := fun _ _ h => e _ _ h
theorem imm_dict {H : Hp} {D : Addr} {kvs : List (Key × V)} {o : HO} (h : H D = some (.dK kvs)) : Imm H (upd H D o) := fun b xs e => by
  rw [upd_ne (fun z => by subst z; rw [h] at e; cases e)]; exact e

/-- a dict comprehension whose keys are distinct; R tells of each value -/
theorem dc_same {J : It} {n : Nat} {G : Hp → Prop} {xs : List V} {g : TG} {tt : TT} {tk tv : TE} {vs : List Nat} {σ : L2.St} {H1 B : Hp} {D : Addr} {Qd : Hp → Prop}
    (wk : Walk J n G (YAt xs)) (hn : n = xs.length) (s0 : Same B H1) (hD : H1 D = none) (hG : ∀ H, Same B H → G H) (hl : xs.length < sizeLine) (f : V → Key) (nd : (xs.map f).Nodup)
    (R : V → V → Hp → Prop) (mono : ∀ x v H H', Imm H H' → R x v H → R x v H')
    (hs : ∀ x H (Q1 : V → V → Hp → Prop) (Q2 : Hp → Prop), x ∈ xs → Same B H → (∀ v H5, Same H H5 → R x v H5 → Q1 (kV (f x)) v H5) →
      g x (wipe σ vs) H fun σ2 H2 => wipe σ2 vs = wipe σ vs ∧ tt σ2 H2 fun b H3 => if b = true then tk σ2 H3 (fun y H4 => tv σ2 H4 fun z H5 => Q1 y z H5) else Q2 H3)
    (hd : ∀ H' kvs, Same H1 H' → H' D = some (.dK kvs) → Paired (fun x kv => kv.1 = f x ∧ R x kv.2 H') xs kvs → Qd H') :
    ∃ W : Nat → Nat → Hp → Prop, (∃ m, W 0 m (upd H1 D (.dK []))) ∧ ∀ i m H, W i m H →
      (J.stop i H ∧ Qd H) ∨ (J.go i H ∧ ∃ Nx : Hp → Prop, (∀ H', Nx H' → ∃ m', m' < m ∧ W (i + 1) m' H') ∧ ∀ x H', J.yld i H x H' → g x (wipe σ vs) H' fun σ2 H2 => wipe σ2 vs = wipe σ vs ∧ tt σ2 H2 fun b H3 =>
        if b = true then tk σ2 H3 fun y H4 => tv σ2 H4 fun z H5 => ∃ kvs k, y = kV k ∧ H5 D = some (.dK kvs) ∧ kvs.length < sizeLine ∧ Nx (upd H5 D (.dK (putK kvs k z))) else Nx H3) := by
  subst hn
  refine ⟨fun i m H => m = xs.length - i ∧ i ≤ xs.length ∧ Same H1 H ∧ ∃ kvs, H D = some (.dK kvs) ∧ Paired (fun x (kv : Key × V) => kv.1 = f x ∧ R x kv.2 H) (xs.take i) kvs, ⟨_, rfl, Nat.zero_le _, same_new hD, [], upd_same, .nil⟩, ?_⟩
  rintro i m H ⟨rfl, hi, s1, kvs, hS, hk⟩
  by_cases hlt : i < xs.length
  · refine .inr ⟨wk.goes i H hlt (hG H (s0.trans s1)), fun H' => Same H1 H' ∧ ∃ kvs, H' D = some (.dK kvs) ∧ Paired (fun x (kv : Key × V) => kv.1 = f x ∧ R x kv.2 H') (xs.take (i + 1)) kvs, fun H' p => ⟨xs.length - (i + 1), by omega, rfl, hlt, p⟩, fun x H' y => ?_⟩
    obtain ⟨rfl, hx⟩ := wk.yields i H x H' hlt (hG H (s0.trans s1)) y
    have ht : xs.take (i + 1) = xs.take i ++ [x] := by rw [List.take_succ, hx]; rfl
    refine hs x H' _ _ (List.mem_of_getElem? hx) (s0.trans s1) fun v H5 s5 r5 => ?_
    have h5 := s5 _ _ hS
    have keys := paired_keys (R := fun x v => R x v H') (f := f) hk
    have new : f x ∉ kvs.map (·.1) := by
      rw [keys]
      intro h1
      have h2 : ((xs.take (i + 1)).map f).Nodup := by
        rw [List.map_take]; exact List.Sublist.nodup (List.take_sublist _ _) nd
      rw [ht, List.map_append, List.nodup_append] at h2
      exact absurd rfl (h2.2.2 _ h1 (f x) (by simp))
    have len := paired_len hk
    refine ⟨kvs, f x, rfl, h5, ?_, same_mut (s1.trans s5) hD, _, upd_same, ?_⟩
    · rw [← len]; have := List.length_take_le i xs; omega
    · rw [putK_new new, ht]
      have im : Imm H5 (upd H5 D (.dK (kvs ++ [(f x, v)]))) := imm_dict h5
      exact (paired_imp (fun a b r => ⟨r.1, mono _ _ _ _ im (mono _ _ _ _ (same_imm s5) r.2)⟩) hk).snoc ⟨rfl, mono _ _ _ _ im r5⟩
  · have e : i = xs.length := by omega
    subst e
    rw [List.take_length] at hk
    exact .inl ⟨wk.stops H (hG H (s0.trans s1)), hd H kvs s1 hS hk⟩
end As

/-! ## A19 -/
set_option maxHeartbeats 2000000
namespace As
open PySem PySem.Spec PyProof.Rows L2
/-! dicts whose keys are tuples within tuples -/
mutual
/-- x reads as the key k -/
inductive NkV (H : Hp) : NestedKey → V → Prop
  | int (i : Int) : NkV H (.num i) (.int i)
  | str (z : Str) : NkV H (.text z) (.str z)
  | tup {a : Addr} {xs : List V} {ks : List NestedKey} (h : H a = some (.tup xs)) (all : NkAll H ks xs) : NkV H (.tup ks) (.ref a)
inductive NkAll (H : Hp) : List NestedKey → List V → Prop
  | nil : NkAll H [] []
  | cons {k : NestedKey} {x : V} {ks : List NestedKey} {xs : List V} (h : NkV H k x) (t : NkAll H ks xs) : NkAll H (k :: ks) (x :: xs)
end
mutual
theorem NkV.imm {H H' : Hp} (e : Imm H H') : ∀ {k : NestedKey} {x : V}, NkV H k x → NkV H' k x
  | _, _, .int i => .int i
  | _, _, .str z => .str z
  | _, _, .tup h a => .tup (e _ _ h) (NkAll.imm e a)
theorem NkAll.imm {H H' : Hp} (e : Imm H H') : ∀ {ks : List NestedKey} {xs : List V}, NkAll H ks xs → NkAll H' ks xs
  | _, _, .nil => .nil
  | _, _, .cons h a => .cons (NkV.imm e h) (NkAll.imm e a)
end
mutual
theorem nk_is {P : Program} {w : World} {H : Hp} {h : Heap} (ok : HOk P w H h) : ∀ {k : NestedKey} {x : V} {u : Value}, NkV H k x → RelV x u → NestedIs h k u
  | _, _, _, .int i, r => by obtain ⟨t, rfl⟩ := r; exact .int i t
  | _, _, _, .str z, r => by obtain ⟨t, rfl⟩ := r; exact .text z t
  | _, _, _, .tup (a := a) (xs := xs) e all, r => by
    obtain rfl := r
    obtain ⟨_, its, rv, o, ho, hc, n, hd⟩ := ok _ _ e
    exact .tup ho hc hd (by rw [List.toList_toArray]; exact nk_all ok all rv)
theorem nk_all {P : Program} {w : World} {H : Hp} {h : Heap} (ok : HOk P w H h) : ∀ {ks : List NestedKey} {xs : List V} {us : List Value}, NkAll H ks xs → Vals xs us → NestedAll h ks us
  | _, _, _, .nil, r => by cases r; exact .nil
  | _, _, _, .cons k t, r => by
    cases r with
    | cons a b => exact .cons (nk_is ok k a) (nk_all ok t b)
end
/-- the key at an address, not deep -/
def KeyAt (H : Hp) (k : NestedKey) (a : Addr) : Prop := NkV H k (.ref a) ∧ k.depth ≤ 8
theorem KeyAt.imm {H H' : Hp} {k : NestedKey} {a : Addr} (h : KeyAt H k a) (e : Imm H H') : KeyAt H' k a := ⟨h.1.imm e, h.2⟩
theorem KeyAt.is {P : Program} {w : World} {H : Hp} {h : Heap} {k : NestedKey} {a : Addr} (x : KeyAt H k a) (ok : HOk P w H h) : (nestedKind P w).is h k a := ⟨nk_is ok x.1 rfl, x.2⟩
abbrev NEnt := NestedKey × Addr × V
def NRel (p : NEnt) (q : NestedKey × Addr × Value) : Prop := p.1 = q.1 ∧ p.2.1 = q.2.1 ∧ RelV p.2.2 q.2.2
def NDictH (P : Program) (w : World) (d : Addr) (es : List NEnt) (h : Heap) : Prop :=
  es.length ≤ sizeLine ∧ (d == sysModules) = false ∧ ∃ xs : List (NestedKey × Addr × Value), Paired NRel es xs ∧ ∃ o eds ep, h.get? d = some o ∧ o.ExactDict ∧ o.data = .dict eds ep ∧ eds.toList = xs.map (entryOfKey (nestedKind P w)) ∧ (xs.map (·.1)).Nodup
/-- at d a dict of these keys (each with its object) and values -/
def NDict (P : Program) (w : World) (d : Addr) (es : List NEnt) : HO := .ext (NDictH P w d es)
theorem paired_get {α β : Type} {R : α → β → Prop} : ∀ {xs : List α} {ys : List β}, Paired R xs ys → ∀ {j : Nat} {x : α}, xs[j]? = some x → ∃ y, ys[j]? = some y ∧ R x y
  | _, _, .nil, j, x, h => by simp at h
  | _, _, .cons r t, 0, x, h => by
    rw [List.getElem?_cons_zero] at h ⊢; cases h; exact ⟨_, rfl, r⟩
  | _, _, .cons r t, j + 1, x, h => by
    rw [List.getElem?_cons_succ] at h ⊢; exact paired_get t h
theorem nd_ok {P : Program} {w : World} {H : Hp} {h : Heap} {d : Addr} {es : List NEnt} (x : NDictH P w d es h) : ObjOk P w H h d (NDict P w d es) := by
  refine ⟨x, ?_, fun h1 h2 y k => ?_⟩
  · obtain ⟨_, _, _, _, o, _, _, e, _⟩ := x; exact ⟨o, e⟩
  · obtain ⟨z1, z2, xs, z3, o, eds, ep, e, z4⟩ := y
    exact ⟨z1, z2, xs, z3, o, eds, ep, k o e, z4⟩
/-- the keys' objects stand -/
def KeysAt (H : Hp) (es : List NEnt) : Prop := ∀ p ∈ es, KeyAt H p.1 p.2.1
theorem KeysAt.imm {H H' : Hp} {es : List NEnt} (h : KeysAt H es) (e : Imm H H') : KeysAt H' es := fun p hp => (h p hp).imm e
theorem paired_mem_right {α β : Type} {R : α → β → Prop} : ∀ {xs : List α} {ys : List β}, Paired R xs ys → ∀ y ∈ ys, ∃ x ∈ xs, R x y
  | _, _, .nil, y, hy => nomatch hy
  | _, _, .cons r t, y, hy => by
    rcases List.mem_cons.mp hy with e | hy
    · subst e; exact ⟨_, List.mem_cons_self, r⟩
    · obtain ⟨x, hx, rx⟩ := paired_mem_right t y hy
      exact ⟨x, List.mem_cons_of_mem _ hx, rx⟩
theorem nd_get {P : Program} {w : World} {H : Hp} {h : Heap} {d : Addr} {es : List NEnt} (ok : HOk P w H h) (e : H d = some (NDict P w d es)) (ks : KeysAt H es) :
    es.length ≤ sizeLine ∧ (d == sysModules) = false ∧ ∃ xs, Paired NRel es xs ∧ h.DictOfH (nestedKind P w) d xs := by
  obtain ⟨⟨z1, z2, xs, z3, o, eds, ep, e1, e2, e3, e4, e5⟩, _⟩ := ok _ _ e
  refine ⟨z1, z2, xs, z3, o, eds, ep, e1, e2, e3, e4, fun x hx => ?_, e5⟩
  obtain ⟨p, hp, r1, r2, _⟩ := paired_mem_right z3 x hx
  have := (ks p hp).is (P := P) (w := w) ok
  rw [r1, r2] at this
  exact this
def ndVal (es : List NEnt) (k : NestedKey) : Option V := (es.find? fun p => decide (p.1 = k)).map (·.2.2)
def ndPut (es : List NEnt) (k : NestedKey) (a : Addr) (v : V) : List NEnt := if (ndVal es k).isSome then es.map (fun p => if p.1 = k then (p.1, p.2.1, v) else p) else es ++ [(k, a, v)]
theorem nd_at : ∀ {es : List NEnt} {xs : List (NestedKey × Addr × Value)}, Paired NRel es xs → ∀ k, (ndVal es k = none ∧ atKey xs k = none) ∨ ∃ v p, ndVal es k = some v ∧ atKey xs k = some p ∧ RelV v p.2
  | _, _, .nil, k => .inl ⟨rfl, rfl⟩
  | e :: es, x :: xs, .cons r t, k => by
    obtain ⟨r1, r2, r3⟩ := r
    by_cases h : e.1 = k
    · refine .inr ⟨e.2.2, x.2, ?_, ?_, r3⟩
      · unfold ndVal; rw [List.find?_cons]; simp [h]
      · unfold atKey; rw [List.find?_cons]; simp [← r1, h]
    · have e1 : ndVal (e :: es) k = ndVal es k := by unfold ndVal; rw [List.find?_cons]; simp [h]
      have e2 : atKey (x :: xs) k = atKey xs k := by unfold atKey; rw [List.find?_cons]; simp [← r1, h]
      rw [e1, e2]
      exact nd_at t k
theorem nd_stored {es : List NEnt} {xs : List (NestedKey × Addr × Value)} (t : Paired NRel es xs) {k : NestedKey} {a : Addr} {v : V} {u : Value} (r : RelV v u) : Paired NRel (ndPut es k a v) (storedH xs k a u) := by
  have mapped : ∀ {es : List NEnt} {xs : List (NestedKey × Addr × Value)}, Paired NRel es xs → Paired NRel (es.map fun p => if p.1 = k then (p.1, p.2.1, v) else p) (xs.map (putAt k u)) := by
    intro es xs t
    induction t with
    | nil => exact .nil
    | cons q _ ih =>
      rename_i e x _ _ _
      obtain ⟨q1, q2, q3⟩ := q
      refine .cons ?_ ih
      show NRel (if e.1 = k then (e.1, e.2.1, v) else e) (if x.1 = k then (x.1, x.2.1, u) else x)
      by_cases h : e.1 = k
      · rw [if_pos h, if_pos (by rw [← q1]; exact h)]; exact ⟨q1, q2, r⟩
      · rw [if_neg h, if_neg (by rw [← q1]; exact h)]; exact ⟨q1, q2, q3⟩
  rcases nd_at t k with ⟨h1, h2⟩ | ⟨v', p, h1, h2, _⟩
  · rw [storedH_new h2]; unfold ndPut; rw [h1]
    exact t.snoc ⟨rfl, rfl, r⟩
  · rw [storedH_old h2]; unfold ndPut; rw [h1]
    exact mapped t
theorem ndPut_len {es : List NEnt} {k : NestedKey} {a : Addr} {v : V} : (ndPut es k a v).length ≤ es.length + 1 := by
  unfold ndPut; split
  · rw [List.length_map]; omega
  · rw [List.length_append]; simp
theorem nd_new {P : Program} {w : World} {h : Heap} {d : Addr} {es : List NEnt} {xs : List (NestedKey × Addr × Value)} (z1 : es.length ≤ sizeLine) (z2 : (d == sysModules) = false) (t : Paired NRel es xs) (x : h.DictOfH (nestedKind P w) d xs) : NDictH P w d es h := by
  obtain ⟨o, eds, ep, e1, e2, e3, e4, _, e5⟩ := x
  exact ⟨z1, z2, xs, t, o, eds, ep, e1, e2, e3, e4, e5⟩
section
variable {X : Cx}
/-- a turn of the comprehension stores v at the key y -/
def NdTurn (P : Program) (w : World) (D : Addr) (Nx : Hp → Prop) (y z : V) (H : Hp) : Prop := ∃ (es : List NEnt) (k : NestedKey) (a : Addr), y = .ref a ∧ KeyAt H k a ∧ H D = some (NDict P w D es) ∧ KeysAt H es ∧ es.length < sizeLine ∧ Nx (upd H D (NDict P w D (ndPut es k a z)))
def tDcN (P : Program) (w : World) (wi : TI) (g : TG) (tt : TT) (tk tv : TE) (vs : List Nat) : TE := fun σ H Q => wi σ H fun J H1 => ∀ D, H1 D = none →
  ∃ W : Nat → Nat → Hp → Prop, (∃ m, W 0 m (upd H1 D (NDict P w D []))) ∧ ∀ i m H, W i m H → (J.stop i H ∧ Q (.ref D) H) ∨ (J.go i H ∧ ∃ Nx : Hp → Prop, (∀ H', Nx H' → ∃ m', m' < m ∧ W (i + 1) m' H') ∧
    ∀ x H', J.yld i H x H' → g x (wipe σ vs) H' fun σ2 H2 => wipe σ2 vs = wipe σ vs ∧ tt σ2 H2 fun b H3 => if b = true then tk σ2 H3 fun y H4 => tv σ2 H4 fun z H5 => NdTurn P w D Nx y z H5 else Nx H3)
theorem nd_store {pins : List (Addr × Obj)} {σ : L2.St} {H : Hp} {s : Shared} {E : Value → Shared → Prop} {D a : Addr} {es : List NEnt} {k : NestedKey} {z : V} {r : Value} {Q : Unit → Shared → Prop} (room : X.A.units + 8 < cLine) (I : Inv X pins σ H s)
    (hk : KeyAt H k a) (hD : H D = some (NDict X.prog X.w D es)) (ks : KeysAt H es) (len : es.length < sizeLine) (rz : RelV z r) (q : ∀ s', Inv X pins σ (upd H D (NDict X.prog X.w D (ndPut es k a z))) s' → Q () s') :
    wpAny (model X.prog X.w) X.A (dictSet D (.ref a) r) Q E s := by
  obtain ⟨z1, z2, xs, t, hx⟩ := nd_get I.hok hD ks
  have lx : xs.length ≤ sizeLine := by rw [← paired_len t]; exact z1
  refine wpAny_dictSet_heap (knd := nestedKind X.prog X.w) (hsz := lx) room (hk.is I.hok) hx fun h' hx' sb => q _ ?_
  have there : ∃ o, h'.get? D = some o := let ⟨o, _, _, ho, _⟩ := hx'; ⟨o, ho⟩
  exact d_write I (by rw [hD]; trivial) sb there (nd_ok (nd_new (Nat.le_trans ndPut_len len) z2 (nd_stored t rz) hx'))
theorem nd_fresh {P : Program} {w : World} {h : Heap} (big : sysModules < h.objs.size) : NDictH P w h.objs.size [] (h.push { cls := .type "dict", data := .dict #[] }) := by
  refine nd_new (xs := []) (Nat.zero_le _) ?_ .nil (Heap.DictOfH.new h)
  exact beq_eq_false_iff_ne.mpr (Nat.ne_of_gt big)
theorem pe_dcN {kx vx tg iter : Expr} {ifs : List Expr} {scope : Scope} {own : List (Str × Nat)} {pos : Pos} {wi : TI} {g : TG} {tt : TT} {tk tv : TE} (room : X.A.units + 8 < cLine) (calm : X.calm = true) (nd : X.N.Nodup) (hi : PI X tg iter wi) (ok : BlkOk X.N X.env.scope scope own)
    (G : ∀ s H C cl fp, PG (X.blk s H scope (compEnvC scope cl C X.env) fp) tg g) (T : ∀ s H C cl fp, PTs (X.blk s H scope (compEnvC scope cl C X.env) fp) ifs tt)
    (KE : ∀ s H C cl fp, PE (X.blk s H scope (compEnvC scope cl C X.env) fp) kx tk) (VE : ∀ s H C cl fp, PE (X.blk s H scope (compEnvC scope cl C X.env) fp) vx tv) (folds : ∀ x, foldedSetIterable iter X.env x = pure x := by intro _; rfl) :
    PE X (.DictComp kx vx [⟨tg, iter, ifs, 0⟩] scope pos) (tDcN X.prog X.w wi g tt tk tv (own.map (·.2))) := by
  refine ⟨fun pins s σ H Q I h => ?_⟩
  rw [arm_eval_DictComp]
  have frees : ∀ y ∈ scope.names, y.2 = .free → ∃ c, X.env.cells.lookup y.1 = some c := fun y hy e => (ok.free y hy e).elim (fun k => I.ok.has _ (.inl k)) fun k => I.ok.has _ (.inr k)
  refine wpAny_comprehension_free rfl folds (closure_ok frees) ok.kind (fun y hy e => by rw [ok.uniq y hy, e]) (thn (hi.run pins s σ H _ I h) fun xv s1 hx => thn hx fun itv s2 h2 => ?_)
  obtain ⟨it, fp, tn, J, H2, rfl, I2, walk, at2, free2, q⟩ := h2
  refine wpAny_newObj_type (newEnv_comp ?_)
  obtain ⟨D, hD⟩ : ∃ D, s2.heap.objs.size = D := ⟨_, rfl⟩
  obtain ⟨W, ⟨m0, w0⟩, turn⟩ := q D (I2.hok.fresh (Nat.le_of_eq hD))
  obtain ⟨H3, eH3⟩ : ∃ H3, upd H2 D (NDict X.prog X.w D []) = H3 := ⟨_, rfl⟩
  obtain ⟨s3, e3⟩ : ∃ s3 : Shared, ({ s2 with heap := s2.heap.push { cls := .type "dict", data := .dict #[] } } : Shared) = s3 := ⟨_, rfl⟩
  have I3 : Inv X pins σ H3 s3 := by
    subst e3 eH3
    refine I2.laid (t' := s2.toks) (fun b o e => Heap.get?_push_of_some _ e) (Nat.le_of_eq hD) ?_
    subst hD
    exact nd_ok (nd_fresh I2.big)
  have grow : ∀ b o, s2.heap.get? b = some o → s3.heap.get? b = some o := fun b o e => by subst e3; exact Heap.get?_push_of_some _ e
  have in3 : ∀ b ∈ fp, b < s2.heap.objs.size ∧ b < s3.heap.objs.size := fun b hb => by
    obtain ⟨o, e, _⟩ := walk.obj _ _ at2 b hb
    exact ⟨Heap.lt_size e, Heap.lt_size (grow b o e)⟩
  have free3 : ∀ b ∈ fp, FpOk X pins H3 b ∧ b < s3.heap.objs.size := fun b hb => by
    refine ⟨⟨?_, (free2 b hb).2⟩, (in3 b hb).2⟩
    rw [← eH3, upd_ne (by rw [← hD]; exact Nat.ne_of_lt (in3 b hb).1)]
    exact (free2 b hb).1
  have at3 : tn 0 s3.heap := walk.keep _ _ _ at2 fun b _ o e => grow b o e
  have I4 := block_start I3 ok nd free3
  obtain ⟨cl, ecl⟩ : ∃ cl, cellsFrom (s3.heap.objs.size + 1) scope.names (cloFrom X.env.cells scope.names []) = cl := ⟨_, rfl⟩
  rw [ecl] at I4
  have pg := G s3 H3 s3.heap.objs.size cl fp
  have pt := T s3 H3 s3.heap.objs.size cl fp
  have pk := KE s3 H3 s3.heap.objs.size cl fp
  have pe := VE s3 H3 s3.heap.objs.size cl fp
  rw [eH3] at w0
  have none3 : ∀ b ∈ fp, H3 b = none := fun b hb => (free3 b hb).1.1
  show codeAny _ _ (.compStart (.DictComp kx vx [⟨tg, iter, ifs, 0⟩] scope pos) 0 (.ref it) (.ref s2.heap.objs.size) _) _ _
  rw [e3, hD, ecl]
  show codeAny _ _ (.compStart _ 0 (.ref it) (.ref D) (compEnvC scope cl s3.heap.objs.size X.env)) (compPost (model X.prog X.w) X.A X.xe none (EP X pins σ Q) (.ref D) s3.heap.objs.size)
    ({ s3 with heap := pushCells (s3.heap.push { cls := .type "dict", data := .dict #[] }) scope.names } : Shared)
  obtain ⟨ce, ece⟩ : ∃ ce, compEnvC scope cl s3.heap.objs.size X.env = ce := ⟨_, rfl⟩
  rw [ece] at I4 pg pt pk pe ⊢
  have place : ce.locals = s3.heap.objs.size := by rw [← ece]; rfl
  obtain ⟨s4, e4⟩ : ∃ s4 : Shared, ({ s3 with heap := pushCells (s3.heap.push { cls := .type "dict", data := .dict #[] }) scope.names } : Shared) = s4 := ⟨_, rfl⟩
  rw [e4] at I4 ⊢
  have at4 : tn 0 s4.heap := walk.keep _ _ _ at3 fun b _ o e => by rw [← e4]; exact pushCells_keeps _ _ _ _ (Heap.get?_push_of_some _ e)
  have stays : ∀ {σ' : L2.St} {H' : Hp} {s' : Shared}, Inv (X.blk s3 H3 scope ce fp) [] σ' H' s' → (∀ b ∈ fp, H' b = none) → ∀ b ∈ fp, FpOk (X.blk s3 H3 scope ce fp) [] H' b := fun {σ' H' s'} I' hn b hb =>
    ⟨hn b hb, (I'.ok.exf b hb).1, I'.ok.exfs b hb, .inl hb, fun x c e => (I'.ok.exf b hb).2 x c e, fun p hp => absurd (show p ∈ ([] : List (Addr × Obj)) ++ [] from hp) (by simp)⟩
  refine codeAny_compStart_dict ?loop (walk.self X.A 0 _ _ _ at4 ?loop)
  refine compLoop_anyD (fun n s' => ∃ i H', Inv (X.blk s3 H3 scope ce fp) [] (wipe σ (own.map (·.2))) H' s' ∧ tn i s'.heap ∧ (∀ b ∈ fp, H' b = none) ∧ W i n H') ?_ m0 ⟨0, H3, I4, at4, none3, w0⟩
  rintro n s5 ⟨i, H5, I5, at5, n5, w5⟩
  rcases turn i n H5 w5 with ⟨stop, qq⟩ | ⟨go, Nx, hNx, step⟩
  · refine thnF (walk.done (X.blk s3 H3 scope ce fp) rfl rfl rfl calm i [] s5 _ H5 (fun _ _ => False) I5 (stays I5 n5) at5 stop) fun r s6 ⟨hr, I6⟩ => ?_
    subst hr
    have I7 : Inv X pins σ H5 s6 := I3.call' (ch := fp) I6.os I6.base I6.hok I6.bare fun b hb => ⟨(free3 b hb).1.2.2.2.1, (free3 b hb).1.2.1, (free3 b hb).1.2.2.2.2.1, (free3 b hb).1.2.2.2.2.2⟩
    have none5 : H5 s3.heap.objs.size = none := place ▸ (show H5 ce.locals = none from I6.free)
    obtain ⟨m, hn, _⟩ := I6.loc
    have hn : s6.heap.Ns ce.locals m := hn
    rw [place] at hn
    obtain ⟨f0, f1, f2, f3, f4, f5⟩ := I3.fpOk (Nat.le_refl _) none5
    exact ⟨m, hn, fun h'' sb => ⟨.ref D, H5, I7.turned (t' := s6.toks) (fun b o hb e => (sb.2 b hb).trans e) f0 f1 f3 f4 f5, rfl, qq⟩⟩
  · refine thnF (walk.item (X.blk s3 H3 scope ce fp) rfl rfl rfl calm i [] s5 _ H5 (fun _ _ => False) I5 (stays I5 n5) at5 go) fun r s6 ⟨u, hr, h6⟩ => ?_
    subst hr
    refine thnF h6 fun _ s7 ⟨x, H7, I7, r7, y7, at7, n7⟩ => ?_
    refine thnF (pg.run _ s7 _ H7 x u _ (I7.pinned (stays I7 n7) (walk.obj _ _ at7)) r7 (step x H7 y7)) fun _ s8 ⟨σ8, H8, I8, same8, q8⟩ => ?_
    refine thnF (pt.run _ s8 σ8 H8 _ I8 q8) fun b s9 ⟨H9, I9, q9⟩ => ?_
    have next : ∀ {s' : Shared} {H' : Hp}, Inv (X.blk s3 H3 scope ce fp) ([] ++ pinsAt fp s7.heap) σ8 H' s' → Nx H' →
        ∃ m, m < n ∧ ∃ i H', Inv (X.blk s3 H3 scope ce fp) [] (wipe σ (own.map (·.2))) H' s' ∧ tn i s'.heap ∧ (∀ b ∈ fp, H' b = none) ∧ W i m H' := fun {s' H'} I' nx => by
      obtain ⟨m', less, w'⟩ := hNx H' nx
      have pinned : ∀ b ∈ fp, ∀ o, s7.heap.get? b = some o → s'.heap.get? b = some o ∧ H' b = none := fun b hb o e =>
        have z := I'.pin (b, o) (List.mem_append_right _ (List.mem_append_right _ (mem_pinsAt hb e)))
        ⟨z.1, z.2.1⟩
      refine ⟨m', less, i + 1, H', (I'.unpinned (pins := [])).weak (by rw [← same8, wipe_length]) (fun j v e => ?_), walk.keep _ _ _ at7 fun b hb o e => (pinned b hb o e).1, fun b hb => ?_, w'⟩
      · rw [← same8] at e
        exact (wipe_some e).1
      · obtain ⟨o, e, _⟩ := walk.obj _ _ at7 b hb
        exact (pinned b hb o e).2
    cases b with
    | false =>
      simp only [Bool.false_eq_true, if_false] at q9 ⊢
      exact next I9 q9
    | true =>
      simp only [if_true] at q9 ⊢
      refine thnF (pk.run _ s9 σ8 H9 _ I9 q9) fun kv s10 ⟨yk, H10, I10, r10, q10⟩ => ?_
      refine thnF (pe.run _ s10 σ8 H10 _ I10 q10) fun vv s11 ⟨yv, H11, I11, r11, es, k, a, ek, kat, atD, kats, len, nx⟩ => ?_
      subst ek
      obtain rfl : kv = Value.ref a := r10
      exact nd_store (X := X.blk s3 H3 scope ce fp) room I11 kat atD kats len r11 fun s12 I12 => next I12 nx
/-- list(d) -/
theorem call_listN (calm : X.calm = true) : CallR X (.type "list") (fun xs H Q => ∃ d es, xs = [V.ref d] ∧ H d = some (NDict X.prog X.w d es) ∧ KeysAt H es ∧ ∀ p, H p = none → Q (.ref p) (upd H p (.lst (es.map fun e => .ref e.2.1)))) := by
  intro pins s σ H xs us Q I r h
  obtain ⟨d, es, rfl, hd, ks, q⟩ := h
  obtain ⟨u, rfl, ru⟩ := vals1 r
  obtain rfl : u = Value.ref d := ru
  obtain ⟨z1, z2, xs, t, hx⟩ := nd_get I.hok hd ks
  obtain ⟨eds, ep, hr, hs, he⟩ := hx.raw
  have lx : xs.length = es.length := (paired_len t).symm
  refine PySem.W.kdl_call (KdlSrc.rawDict z2) (I.ok.hd calm) hr (by rw [hs, lx]; exact z1) fun h' tk acc c keep hl items => ?_
  have ea : acc.toList = (es.map fun e => e.2.1).map Value.ref := by
    have l1 : acc.toList.length = es.length := by rw [Array.length_toList, items.1, hs, lx]
    apply List.ext_getElem?
    intro j
    rw [List.getElem?_map, List.getElem?_map]
    cases hj : acc.toList[j]? with
    | none =>
      rw [List.getElem?_eq_none (by have := List.getElem?_eq_none_iff.mp hj; omega)]; rfl
    | some v =>
      obtain ⟨hi, hv⟩ := items.2 j v (by rw [← Array.getElem?_toList]; exact hj)
      obtain ⟨y, hy, hk, _⟩ := he j hi
      have hj2 : j < es.length := by rw [← lx, ← hs]; exact hi
      rw [List.getElem?_eq_getElem hj2, hv, hk]
      obtain ⟨q, hq, rq⟩ := paired_get t (List.getElem?_eq_getElem hj2)
      rw [hy] at hq; cases hq
      show some (Value.ref y.2.1) = some (Value.ref es[j].2.1)
      rw [rq.2.1]
  have rv : Vals ((es.map fun e => e.2.1).map V.ref) acc.toList := by rw [ea]; exact vals_refs _
  have rv2 : Vals (es.map fun e => V.ref e.2.1) acc.toList := by rw [List.map_map] at rv; exact rv
  refine ⟨.ref s.heap.objs.size, _, I.laid (t' := tk) (o := .lst (es.map fun e => V.ref e.2.1)) keep (Nat.le_refl _) ⟨by rw [List.length_map]; exact z1, acc.toList, c, rv2, by rw [Array.toArray_toList]; exact hl⟩, rfl, q _ (I.hok.fresh (Nat.le_refl _))⟩
variable {i o : Expr} {ty td : TE}
/-- k in d, k not in d -/
def tInN (P : Program) (w : World) (b : Bool) (ty td : TE) : TE := fun σ H Q => ty σ H fun y H1 => td σ H1 fun x H2 => ∃ a d k es, y = .ref a ∧ x = .ref d ∧ KeyAt H2 k a ∧ H2 d = some (NDict P w d es) ∧ KeysAt H2 es ∧ Q (.bl (if b = true then (ndVal es k).isSome else !(ndVal es k).isSome)) H2
theorem nd_some {es : List NEnt} {xs : List (NestedKey × Addr × Value)} (t : Paired NRel es xs) (k : NestedKey) : (atKey xs k).isSome = (ndVal es k).isSome := by
  rcases nd_at t k with ⟨h1, h2⟩ | ⟨v, p, h1, h2, _⟩
  · rw [h1, h2]; rfl
  · rw [h1, h2]; rfl
theorem pc_inN (room : X.A.in1.units + 8 < cLine) (hi : PE X i ty) (ho : PE X o td) : PC X .In i o (tInN X.prog X.w true ty td) := by
  refine ⟨fun pins s σ H Q I h => ?_⟩
  refine thn (hi.run pins s σ H _ I h) fun iv s1 ⟨y, H1, I1, ry, q1⟩ => thn (ho.run pins s1 σ H1 _ I1 q1) fun u s2 ⟨x, H2, I2, rx, a, d, k, es, ey, ex, ka, hd, ks, q2⟩ => ?_
  subst ey ex
  obtain rfl : iv = Value.ref a := ry
  obtain rfl : u = Value.ref d := rx
  obtain ⟨z1, z2, xs, t, hx⟩ := nd_get I2.hok hd ks
  refine wpAny_in_heap (knd := nestedKind X.prog X.w) room (ka.is I2.hok) z2 hx ⟨.bl _, H2, I2.tok _, rfl, ?_⟩
  rw [nd_some t]; exact q2
theorem pc_notInN (room : X.A.in1.units + 8 < cLine) (hi : PE X i ty) (ho : PE X o td) : PC X .NotIn i o (tInN X.prog X.w false ty td) := by
  refine ⟨fun pins s σ H Q I h => ?_⟩
  refine thn (hi.run pins s σ H _ I h) fun iv s1 ⟨y, H1, I1, ry, q1⟩ => thn (ho.run pins s1 σ H1 _ I1 q1) fun u s2 ⟨x, H2, I2, rx, a, d, k, es, ey, ex, ka, hd, ks, q2⟩ => ?_
  subst ey ex
  obtain rfl : iv = Value.ref a := ry
  obtain rfl : u = Value.ref d := rx
  obtain ⟨z1, z2, xs, t, hx⟩ := nd_get I2.hok hd ks
  show wpAny _ _ (do return Value.bool (!(← contains (.ref d) (.ref a)))) _ _ _
  refine wpAny_bind (wpAny_contains_heap (knd := nestedKind X.prog X.w) room (ka.is I2.hok) z2 hx (wpAny_pure ⟨.bl _, H2, I2.tok _, rfl, ?_⟩))
  rw [nd_some t]; exact q2
end
end As

/-! ## A29 -/
namespace As
open PySem PySem.Spec PyProof.Rows L2
/-! tuple(list) as an object that is known whole; dict(t) of such a tuple of pairs -/
def PlainT (o : Obj) : Prop := o.cls = .type "tuple" ∧ o.dict = none
def kTupF (K : PySem.W.Frag) (x : V) (H : Hp) (Q : VK) : Prop := ∃ p xs, x = .ref p ∧ SqL K H p xs ∧ ∀ q o, H q = none → PlainT o → Q (.ref q) (upd H q (.frz o (.tup xs)))
theorem frz_t {K : PySem.W.Frag} {H : Hp} {a : Addr} {o : Obj} {xs : List V} (h : H a = some (.frz o (.tup xs))) : SqT K H a xs := .inl (.inr ⟨o, h⟩)
section
variable {X : Cx}
theorem tupF {p pos : Pos} {a : Expr} {ta : TE} (ha : PE X a ta) (hg : Gl X "tuple" := by rfl) (hm : X.mg "tuple" = none := by assumption) (na : starEach [a] X.env = (false, eval a X.env) :: starEach [] X.env := by rfl) :
    PE X (.Call (.Name "tuple" p) [a] [] pos) (tThen ta (kTupF X.K)) := by
  refine ⟨fun pins s σ H Q I h => ?_⟩
  refine Call_ (ld_blt I hg hm boot_tuple (PyProof.Rows.callWith_type1 (one_arg ha I h (fun v s2 x H2 I2 r q => ?_) na) na))
  obtain ⟨p, xs, rfl, hs, q⟩ := q
  obtain rfl : v = .ref p := r
  obtain ⟨its, rv, pl, hz⟩ := I2.list hs
  refine call_tuple_list pl.isList (fun h' hk => ?_) (by rw [List.size_toArray, ← rv.length]; exact hz)
  have I1 : Inv X pins σ H2 { s2 with heap := h' } := I2.kept (t' := s2.toks) hk
  have I3 : Inv X pins σ (upd H2 h'.objs.size (.frz { cls := .type "tuple", data := .seq its.toArray } (.tup xs))) { s2 with heap := h'.push { cls := .type "tuple", data := .seq its.toArray } } :=
    I1.laid (t' := s2.toks) (fun b o e => Heap.get?_push_of_some _ e) (Nat.le_refl _) (show ObjOk X.prog X.w _ _ _ (.frz _ (.tup xs)) from ⟨Heap.get?_push_at rfl rfl, hz, its, rv, IsTup.new _ _⟩)
  exact ⟨.ref h'.objs.size, _, I3, rfl, q _ _ (I1.hok.fresh (Nat.le_refl _)) ⟨rfl, rfl⟩⟩
theorem pairs_ofV {pins : List (Addr × Obj)} {σ : L2.St} {H : Hp} {s : Shared} (I : Inv X pins σ H s) : ∀ {ps : List Addr} {kvs : List (Key × V)}, Paired (fun p kv => SqT X.K H p [kV kv.1, kv.2]) ps kvs →
    ∃ (prs : List (Key × Value)) (pv : List (Value × Value)), KV kvs prs ∧ prs.length = ps.length ∧ pv.length = ps.length ∧ ∀ (j : Nat) (k v : Value), pv[j]? = some (k, v) → ∃ (b : Addr) (key : Key), ps[j]? = some b ∧ IsTup s.heap b #[k, v] ∧ prs[j]? = some (key, v) ∧ keyIs key k = true
  | _, _, .nil => ⟨[], [], .nil, rfl, rfl, fun j k v e => by simp at e⟩
  | _, _, .cons (a := p) (b := kv) h t => by
    obtain ⟨prs, pv, r, hl, hl2, hp⟩ := pairs_ofV I t
    obtain ⟨its, rv, ht, _⟩ := I.tuple h
    obtain ⟨u, y, ei, ru, ry⟩ := vals2 rv
    subst ei
    refine ⟨(kv.1, y) :: prs, (u, y) :: pv, .cons ⟨rfl, ry⟩ r, by rw [List.length_cons, List.length_cons, hl], by rw [List.length_cons, List.length_cons, hl2], fun j k v e => ?_⟩
    cases j with
    | zero =>
      have e' : (u, y) = (k, v) := Option.some.inj e
      cases e'
      exact ⟨p, kv.1, rfl, ht, rfl, kV_is (P := X.prog) (w := X.w) ru⟩
    | succ j =>
      obtain ⟨b, key, e1, e2, e3, e4⟩ := hp j k v (by simpa using e)
      exact ⟨b, key, by simpa using e1, e2, by simpa using e3, e4⟩
/-- dict(t) of a tuple of pairs, the tuple known whole -/
theorem call_dictT (hcalm : X.calm = true) : CallR X (.type "dict") (fun xs H Q => ∃ (a : Addr) (o : Obj) (ps : List Addr) (kvs : List (Key × V)), xs = [.ref a] ∧ H a = some (.frz o (.tup (ps.map V.ref))) ∧ PlainT o ∧ Paired (fun p kv => SqT X.K H p [kV kv.1, kv.2]) ps kvs ∧
    ∀ p, H p = none → Q (.ref p) (upd H p (.dK (mergeK [] kvs)))) := by
  intro pins s σ H xs us Q I r q
  obtain ⟨a, o, ps, kvs, ex, ha, po, hp, q⟩ := q
  subst ex
  obtain ⟨u, eu, rx⟩ := vals1 r
  subst eu
  cases rx
  obtain ⟨hg, hz, its, rv, o', ho', hc', n, hd'⟩ : ObjOk X.prog X.w H s.heap a (.frz o (.tup (ps.map V.ref))) := I.hok _ _ ha
  rw [hg] at ho'
  cases ho'
  have ei := refs_at rv
  subst ei
  rw [List.length_map] at hz
  obtain ⟨prs, pv, rel, hl, hl2, hpr⟩ := pairs_ofV I hp
  have P := PairArg.tuple (prog := X.prog) (w := X.w) a (ps.map Value.ref).toArray (fun j => ps.getD j 0) pv
  refine PySem.call_dict_pairs (knd := mixKind X.prog X.w) (kvs := prs) P (I.ok.hd hcalm) ⟨⟨o, n, hg, po.1, po.2, hd'⟩, by rw [List.size_toArray, List.length_map, hl2], fun j k v e => ?_⟩ ⟨by rw [hl, hl2], fun i k v e => ?_⟩ (by rw [hl2]; exact hz) fun h' tk hd' k => ?_
  · obtain ⟨b, key, e1, ⟨ob, h1, h2, m, h3⟩, e3, e4⟩ := hpr j k v e
    have eb : ps.getD j 0 = b := by rw [List.getD_eq_getElem?_getD, e1]; rfl
    refine ⟨by dsimp only; rw [eb, List.getElem?_toArray, List.getElem?_map, e1]; rfl, .inl ?_⟩
    dsimp only; rw [eb]
    exact ⟨ob, h1, h2, m, h3⟩
  · obtain ⟨b, key, e1, e2, e3, e4⟩ := hpr i k v e
    exact ⟨key, e3, e4⟩
  · have hm : (s.heap.objs.size == sysModules) = false := beq_eq_false_iff_ne.mpr (Nat.ne_of_gt I.big)
    have hlen : (mergeK [] kvs).length ≤ sizeLine := by
      refine Nat.le_trans (length_mergeK kvs []) ?_
      rw [List.length_nil, Nat.zero_add, rel.length, hl]
      exact hz
    exact ⟨.ref s.heap.objs.size, upd H s.heap.objs.size (.dK (mergeK [] kvs)), I.laid (t' := tk) (fun b o e => k b o (fun z => nomatch z) e) (Nat.le_refl _) (show ObjOk X.prog X.w _ _ _ (.dK (mergeK [] kvs)) from ⟨hlen, hm, merged [] prs, KV.merge rel .nil, hd'⟩), rfl, q _ (I.hok.fresh (Nat.le_refl _))⟩
end
end As

/-! ## A30 -/
namespace As
open PySem PySem.Spec PyProof.Rows L2
/-! dict(xs) of a list of pairs whose keys are tuples -/
def ndAll (es : List NEnt) : List NEnt := es.foldl (fun acc e => ndPut acc e.1 e.2.1 e.2.2) []
theorem stored_all : ∀ {es : List NEnt} {qs : List (NestedKey × Addr × Value)} {acc : List NEnt} {xs : List (NestedKey × Addr × Value)}, Paired NRel es qs → Paired NRel acc xs → Paired NRel (es.foldl (fun acc e => ndPut acc e.1 e.2.1 e.2.2) acc) (storedAllH xs qs)
  | _, _, _, _, .nil, t => t
  | _, _, _, _, .cons (a := e) (b := q) r s, t => by
    obtain ⟨r1, r2, r3⟩ := r
    have h := nd_stored t (k := e.1) (a := e.2.1) r3
    rw [show storedH _ e.1 e.2.1 q.2.2 = storedH _ q.1 q.2.1 q.2.2 by rw [r1, r2]] at h
    exact (show Paired NRel (List.foldl _ (ndPut _ e.1 e.2.1 e.2.2) _) (storedAllH (storedH _ q.1 q.2.1 q.2.2) _) from stored_all s h)
theorem ndAll_len : ∀ {es acc : List NEnt}, (es.foldl (fun acc e => ndPut acc e.1 e.2.1 e.2.2) acc).length ≤ acc.length + es.length
  | [], acc => Nat.le_refl _
  | e :: es, acc => by
    have h := ndAll_len (es := es) (acc := ndPut acc e.1 e.2.1 e.2.2)
    have h2 := ndPut_len (es := acc) (k := e.1) (a := e.2.1) (v := e.2.2)
    rw [List.foldl_cons, List.length_cons]; omega
section
variable {X : Cx}
theorem pairs_ofN {pins : List (Addr × Obj)} {σ : L2.St} {H : Hp} {s : Shared} (I : Inv X pins σ H s) : ∀ {ps : List Addr} {es : List NEnt}, Paired (fun p (e : NEnt) => SqT X.K H p [.ref e.2.1, e.2.2]) ps es →
    ∃ (qs : List (NestedKey × Addr × Value)), Paired NRel es qs ∧ qs.length = ps.length ∧ ∀ (j : Nat) (q : NestedKey × Addr × Value), qs[j]? = some q → ∃ (b : Addr), ps[j]? = some b ∧ IsTup s.heap b #[.ref q.2.1, q.2.2]
  | _, _, .nil => ⟨[], .nil, rfl, fun j q e => by simp at e⟩
  | _, _, .cons (a := p) (b := e) h t => by
    obtain ⟨qs, r, hl, hp⟩ := pairs_ofN I t
    obtain ⟨its, rv, ht, _⟩ := I.tuple h
    obtain ⟨u, y, ei, ru, ry⟩ := vals2 rv
    subst ei
    cases ru
    refine ⟨(e.1, e.2.1, y) :: qs, .cons ⟨rfl, rfl, ry⟩ r, by rw [List.length_cons, List.length_cons, hl], fun j q eq => ?_⟩
    cases j with
    | zero =>
      have e' : (e.1, e.2.1, y) = q := Option.some.inj eq
      subst e'
      exact ⟨p, rfl, ht⟩
    | succ j =>
      obtain ⟨b, e1, e2⟩ := hp j q (by simpa using eq)
      exact ⟨b, by simpa using e1, e2⟩
theorem call_dictPN (hu : X.A.units + 64 < cLine) (hcalm : X.calm = true) : CallR X (.type "dict") (fun xs H Q => ∃ (a : Addr) (ps : List Addr) (es : List NEnt), xs = [.ref a] ∧ SqL X.K H a (ps.map V.ref) ∧ Paired (fun p (e : NEnt) => SqT X.K H p [.ref e.2.1, e.2.2]) ps es ∧ KeysAt H es ∧
    ∀ p, H p = none → Q (.ref p) (upd H p (NDict X.prog X.w p (ndAll es)))) := by
  intro pins s σ H xs us Q I r q
  obtain ⟨a, ps, es, ex, hq, hp, hk, q⟩ := q
  subst ex
  obtain ⟨u, eu, rx⟩ := vals1 r
  subst eu
  cases rx
  obtain ⟨its, rv, ⟨o, n, hg, hc, hd, hdat⟩, hz⟩ := I.list hq
  have ei := refs_at rv
  subst ei
  rw [List.length_map] at hz
  obtain ⟨qs, rel, hl, hpr⟩ := pairs_ofN I hp
  have P := PairArg.list (prog := X.prog) (w := X.w) a (ps.map Value.ref).toArray (fun j => ps.getD j 0) (qs.map fun q => (Value.ref q.2.1, q.2.2))
  have lq : (qs.map fun q => (Value.ref q.2.1, q.2.2)).length = ps.length := by rw [List.length_map, hl]
  refine PySem.call_dict_pairsH (knd := nestedKind X.prog X.w) (ps := qs) P (I.ok.hd hcalm) (show X.A.units + 1 + 1 + 8 < cLine by omega) ⟨⟨o, n, hg, hc, hd, hdat⟩, by rw [List.size_toArray, List.length_map, lq], fun j k v e => ?_⟩ ⟨by rw [lq, hl], fun i k v e => ?_⟩ (fun h' hh x hx => ?_) (by rw [lq]; exact hz) fun h' tk hd' k => ?_
  · rw [List.getElem?_map] at e
    obtain ⟨q', e0, e1⟩ := Option.map_eq_some_iff.mp e
    cases e1
    obtain ⟨b, e2, ob, h1, h2, m, h3⟩ := hpr j q' e0
    have eb : ps.getD j 0 = b := by rw [List.getD_eq_getElem?_getD, e2]; rfl
    refine ⟨by dsimp only; rw [eb, List.getElem?_toArray, List.getElem?_map, e2]; rfl, .inl ?_⟩
    dsimp only; rw [eb]
    exact ⟨ob, h1, h2, m, h3⟩
  · have e : (qs.map fun q => (Value.ref q.2.1, q.2.2))[i]? = some (k, v) := e
    rw [List.getElem?_map] at e
    obtain ⟨q', e0, e1⟩ := Option.map_eq_some_iff.mp e
    cases e1
    exact ⟨q'.1, q'.2.1, e0, rfl⟩
  · obtain ⟨p, hp', r1, r2, _⟩ := paired_mem_right rel x hx
    have ok : HOk X.prog X.w H h' := I.hok.kept fun b u e => hh b u (fun z => by subst z; exact absurd (Heap.lt_size e) (Nat.lt_irrefl _)) (fun z => nomatch z) e
    have := (hk p hp').is (P := X.prog) (w := X.w) ok
    rw [r1, r2] at this
    exact this
  · have hm : (s.heap.objs.size == sysModules) = false := beq_eq_false_iff_ne.mpr (Nat.ne_of_gt I.big)
    have rl := rel.length
    have hlen : (ndAll es).length ≤ sizeLine := by
      have h := ndAll_len (es := es) (acc := [])
      unfold ndAll
      rw [List.length_nil, Nat.zero_add, rl, hl] at h
      exact Nat.le_trans h hz
    exact ⟨.ref s.heap.objs.size, upd H s.heap.objs.size (NDict X.prog X.w s.heap.objs.size (ndAll es)), I.laid (t' := tk) (fun b o e => k b o (fun z => nomatch z) e) (Nat.le_refl _) (nd_ok (nd_new hlen hm (stored_all rel .nil) hd')), rfl, q _ (I.hok.fresh (Nat.le_refl _))⟩
end
end As
namespace As
open PySem PySem.Spec PyProof.Rows L2
/-- cls(e, ..): the class stands in a local name -/
def tMakeL (i : Nat) (C : Addr) (sp : Sp) (dvs : List V) (E : XK) (t : TA) : TE := fun σ H Q => tVar i σ H fun v H1 => v = .ref C ∧ tMake C sp dvs E t σ H1 Q
theorem pe_makeL {X : Cx} {CX : CXT} {k i : Nat} {C f : Addr} {fd : FuncData} {ps : List Str} {ds : List Value} {dvs : List V} {sp : Sp} {E : XK} {x : Str} {p pos : Pos} {e : Expr} {es : List Expr} {t : TA}
    (M : Mk X.K C f) (F : FnOk X.prog X.w X.K X.mg X.base CX k f fd ps sp) (hr : Room (k + 1) X.A) (hb : Binds X.K fd ps ds) (hd : Vals dvs ds) (hx : Passes CX X E) (ha : PA X (e :: es) t)
    (hN : X.N[i]? = some x := by rfl) (hv : Vis X.env.scope x := by first | exact Or.inl rfl | exact Or.inr (Or.inl rfl) | exact Or.inr (Or.inr rfl)) (hdb : (x == ("__debug__" : Str)) = false := by decide) (hcd : (x == ("__classdict__" : Str)) = false := by decide)
    (he : starEach (e :: es) X.env = (false, eval e X.env) :: starEach es X.env := by rfl) (hpl : (backTo pos (starEach es X.env)).any (·.1) = false := by rfl) :
    PE X (.Call (.Name x p) (e :: es) [] pos) (tMakeL i C sp dvs E t) := by
  refine ⟨fun pins s σ H Q I h => ?_⟩
  refine wpAny_Call_Name_kw (thn ((pe_var hN hv hdb hcd).run pins s σ H _ I h) fun u s1 ⟨v, H1, I1, rv, ev, q⟩ => ?_)
  subst ev
  cases rv
  refine PySem.W.callWith_K (h₀ := X.base) I1.ok.mod.kin M.kp (thn (ha.run pos pins s1 σ H1 _ I1 q) fun us s2 ⟨vs, H2, I2, r, q2⟩ => ⟨I2.kIn, ?_⟩) he hpl
  exact run_make M F hr hb hd hx I2 r q2
end As

/-! ## A11 -/
namespace As
open PySem PySem.Spec PyProof.Rows L2
theorem Imm.refl (H : Hp) : Imm H H := fun _ _ h => h
theorem imm_lst' {H : Hp} {D : Addr} {xs : List V} {o : HO} (h : H D = some (.lst xs)) : Imm H (upd H D o) := fun b ys e => by
  rw [upd_ne (fun z => by subst z; rw [h] at e; cases e)]; exact e
/-- a comprehension whose items are new objects: P tells what is made so far, and stands while tuples stand -/
theorem lc_new {J : It} {n : Nat} {G : Hp → Prop} {xs : Nat → V} {g : TG} {tt : TT} {te : TE} {vs : List Nat} {σ : L2.St} {H1 : Hp} {D : Addr} {Qd : Hp → Prop}
    (w : Walk J n G (YFn xs)) (hD : H1 D = none) (hG : ∀ H, Same H1 H → G H) (hl : n < sizeLine) (P : Nat → List V → Hp → Prop) (h0 : P 0 [] H1) (hP : ∀ i acc H H', Imm H H' → P i acc H → P i acc H')
    (hs : ∀ i H acc (Q1 : VK) (Q2 : Hp → Prop), i < n → Same H1 H → P i acc H → (∀ y H4, Same H H4 → P (i + 1) (acc ++ [y]) H4 → Q1 y H4) → (∀ H3, Same H H3 → P (i + 1) acc H3 → Q2 H3) →
      g (xs i) (wipe σ vs) H fun σ2 H2 => wipe σ2 vs = wipe σ vs ∧ tt σ2 H2 fun b H3 => if b = true then te σ2 H3 Q1 else Q2 H3)
    (hd : ∀ H' acc, Same H1 H' → H' D = some (.lst acc) → P n acc H' → Qd H') :
    ∃ W : Nat → Nat → Hp → Prop, (∃ m, W 0 m (upd H1 D (.lst []))) ∧ ∀ i m H, W i m H →
      (J.stop i H ∧ Qd H) ∨ (J.go i H ∧ ∃ Nx : Hp → Prop, (∀ H', Nx H' → ∃ m', m' < m ∧ W (i + 1) m' H') ∧ ∀ x H', J.yld i H x H' → g x (wipe σ vs) H' fun σ2 H2 => wipe σ2 vs = wipe σ vs ∧ tt σ2 H2 fun b H3 =>
        if b = true then te σ2 H3 fun y H4 => ∃ acc, H4 D = some (.lst acc) ∧ acc.length < sizeLine ∧ Nx (upd H4 D (.lst (acc ++ [y]))) else Nx H3) := by
  refine lc_it w (fun i H => ∃ acc, Same H1 H ∧ H D = some (.lst acc) ∧ acc.length ≤ i ∧ P i acc H) ⟨[], same_new hD, upd_same, Nat.le_refl _, hP _ _ _ _ (same_imm (same_new hD)) h0⟩
    (fun i H _ ⟨acc, s, _⟩ => hG H s) (fun i x H H' hi p y => ?_) (fun H ⟨acc, s, hd', _, p⟩ => hd H acc s hd' p)
  obtain ⟨rfl, rfl⟩ := y
  obtain ⟨acc, s, hd', hlen, p⟩ := p
  refine hs i H' acc _ _ hi s p (fun y H4 s4 p4 => ?_) (fun H3 s3 p3 => ⟨acc, s.trans s3, s3 _ _ hd', Nat.le_succ_of_le hlen, p3⟩)
  have h4 := s4 _ _ hd'
  refine ⟨acc, h4, by omega, acc ++ [y], same_mut (s.trans s4) hD, upd_same, ?_, hP _ _ _ _ (imm_lst' h4) p4⟩
  rw [List.length_append]; simp; omega
end As

/-! ## A17 -/
namespace As
open PySem PySem.Spec PyProof.Rows L2
/-- a walk's turns by one invariant, whatever a turn's body is -/
theorem lc_gen {J : It} {n : Nat} {G : Hp → Prop} {Y : Nat → Hp → V → Hp → Prop} {BODY : V → Hp → (Hp → Prop) → Prop} {Qd : Hp → Prop} {H0 : Hp} (w : Walk J n G Y) (Pv : Nat → Hp → Prop) (h0 : Pv 0 H0) (hG : ∀ i H, i ≤ n → Pv i H → G H)
    (hs : ∀ i x H H', i < n → Pv i H → Y i H x H' → BODY x H' (Pv (i + 1))) (hd : ∀ H, Pv n H → Qd H) :
    ∃ W : Nat → Nat → Hp → Prop, (∃ m, W 0 m H0) ∧ ∀ i m H, W i m H →
      (J.stop i H ∧ Qd H) ∨ (J.go i H ∧ ∃ Nx : Hp → Prop, (∀ H', Nx H' → ∃ m', m' < m ∧ W (i + 1) m' H') ∧ ∀ x H', J.yld i H x H' → BODY x H' Nx) := by
  refine ⟨fun i m H => m = n - i ∧ i ≤ n ∧ Pv i H, ⟨n, by simp, Nat.zero_le _, h0⟩, ?_⟩
  rintro i m H ⟨rfl, hi, p⟩
  have q := hG i H hi p
  by_cases hlt : i < n
  · refine .inr ⟨w.goes i H hlt q, Pv (i + 1), fun H' p' => ⟨n - (i + 1), by omega, rfl, hlt, p'⟩, fun x H' y => hs i x H H' hlt p (w.yields i H x H' hlt q y)⟩
  · have e : i = n := by omega
    subst e
    exact .inl ⟨w.stops H q, hd H p⟩
/-- the second clause of a comprehension -/
def LcIn (g1 : TG) (tt1 : TT) (te : TE) (σ2 : L2.St) (vs1 : List Nat) (D : Addr) (Nx : Hp → Prop) : It → Hp → Prop := fun J1 H4 => ∃ W1 : Nat → Nat → Hp → Prop, (∃ m, W1 0 m H4) ∧ ∀ j k H, W1 j k H →
  (J1.stop j H ∧ Nx H) ∨ (J1.go j H ∧ ∃ Nx1 : Hp → Prop, (∀ H', Nx1 H' → ∃ k', k' < k ∧ W1 (j + 1) k' H') ∧ ∀ x H', J1.yld j H x H' → g1 x (wipe σ2 vs1) H' fun σ3 H5 => wipe σ3 vs1 = wipe σ2 vs1 ∧ tt1 σ3 H5 fun b H6 =>
    if b = true then te σ3 H6 fun y H7 => ∃ acc, H7 D = some (.lst acc) ∧ acc.length < sizeLine ∧ Nx1 (upd H7 D (.lst (acc ++ [y]))) else Nx1 H6)
theorem lc_in {J1 : It} {m : Nat} {G1 : Hp → Prop} {Y1 : Nat → Hp → V → Hp → Prop} {g1 : TG} {tt1 : TT} {te : TE} {σ2 : L2.St} {vs1 : List Nat} {D : Addr} {Nx : Hp → Prop} {H4 : Hp} {acc0 : List V} (w : Walk J1 m G1 Y1) (hD : H4 D = some (.lst acc0)) (hG : ∀ H, Same (rem H4 D) H → G1 H)
    (P1 : Nat → List V → Hp → Prop) (h0 : P1 0 acc0 H4) (hP : ∀ j acc H H', Imm H H' → P1 j acc H → P1 j acc H') (hlen : ∀ j acc H, j < m → P1 j acc H → acc.length < sizeLine)
    (hs : ∀ j x H H' acc (Q1 : VK) (Q2 : Hp → Prop), j < m → Same (rem H4 D) H → H D = some (.lst acc) → P1 j acc H → Y1 j H x H' → (∀ y H6, Same H H6 → P1 (j + 1) (acc ++ [y]) H6 → Q1 y H6) → (∀ H6, Same H H6 → P1 (j + 1) acc H6 → Q2 H6) →
      g1 x (wipe σ2 vs1) H' fun σ3 H5 => wipe σ3 vs1 = wipe σ2 vs1 ∧ tt1 σ3 H5 fun b H6 => if b = true then te σ3 H6 Q1 else Q2 H6)
    (hd : ∀ H acc, Same (rem H4 D) H → H D = some (.lst acc) → P1 m acc H → Nx H) : LcIn g1 tt1 te σ2 vs1 D Nx J1 H4 := by
  refine lc_gen w (fun j H => ∃ acc, Same (rem H4 D) H ∧ H D = some (.lst acc) ∧ P1 j acc H) ⟨acc0, same_rem, hD, h0⟩ (fun j H _ ⟨acc, s, _⟩ => hG H s) (fun j x H H' hj ⟨acc, s, hd', p⟩ y => ?_) (fun H ⟨acc, s, hd', p⟩ => hd H acc s hd' p)
  refine hs j x H H' acc _ _ hj s hd' p y (fun y H6 s6 p6 => ?_) (fun H6 s6 p6 => ⟨acc, s.trans s6, s6 _ _ hd', p6⟩)
  have h6 := s6 _ _ hd'
  exact ⟨acc, h6, hlen j acc H hj p, acc ++ [y], same_mut (s.trans s6) rem_self, upd_same, hP _ _ _ _ (imm_lst' h6) p6⟩
theorem lc2_out {J : It} {n : Nat} {G : Hp → Prop} {Y : Nat → Hp → V → Hp → Prop} {g : TG} {tt : TT} {wi1 : TI} {g1 : TG} {tt1 : TT} {te : TE} {vs vs1 : List Nat} {σ : L2.St} {H1 : Hp} {D : Addr} {Qd : Hp → Prop} (w : Walk J n G Y) (hD : H1 D = none) (hG : ∀ H, Same H1 H → G H)
    (P : Nat → List V → Hp → Prop) (h0 : P 0 [] H1) (hP : ∀ i acc H H', Imm H H' → P i acc H → P i acc H')
    (hs : ∀ i x H H' acc (Nx : Hp → Prop), i < n → Same H1 H → H D = some (.lst acc) → P i acc H → Y i H x H' → (∀ H3 acc3, Same H1 H3 → H3 D = some (.lst acc3) → P (i + 1) acc3 H3 → Nx H3) →
      g x (wipe σ vs) H' fun σ2 H2 => wipe σ2 vs = wipe σ vs ∧ tt σ2 H2 fun b H3 => if b = true then wi1 σ2 H3 (LcIn g1 tt1 te σ2 vs1 D Nx) else Nx H3)
    (hd : ∀ H acc, Same H1 H → H D = some (.lst acc) → P n acc H → Qd H) :
    ∃ W : Nat → Nat → Hp → Prop, (∃ m, W 0 m (upd H1 D (.lst []))) ∧ ∀ i m H, W i m H →
      (J.stop i H ∧ Qd H) ∨ (J.go i H ∧ ∃ Nx : Hp → Prop, (∀ H', Nx H' → ∃ m', m' < m ∧ W (i + 1) m' H') ∧ ∀ x H', J.yld i H x H' → g x (wipe σ vs) H' fun σ2 H2 => wipe σ2 vs = wipe σ vs ∧ tt σ2 H2 fun b H3 =>
        if b = true then wi1 σ2 H3 (LcIn g1 tt1 te σ2 vs1 D Nx) else Nx H3) := by
  refine lc_gen (BODY := fun x H' Nx => g x (wipe σ vs) H' fun σ2 H2 => wipe σ2 vs = wipe σ vs ∧ tt σ2 H2 fun b H3 => if b = true then wi1 σ2 H3 (LcIn g1 tt1 te σ2 vs1 D Nx) else Nx H3) w
    (fun i H => ∃ acc, Same H1 H ∧ H D = some (.lst acc) ∧ P i acc H) ⟨[], same_new hD, upd_same, hP _ _ _ _ (same_imm (same_new hD)) h0⟩ (fun i H _ ⟨acc, s, _⟩ => hG H s) (fun i x H H' hi ⟨acc, s, hd', p⟩ y => ?_) (fun H ⟨acc, s, hd', p⟩ => hd H acc s hd' p)
  exact hs i x H H' acc _ hi s hd' p y fun H3 acc3 s3 h3 p3 => ⟨acc3, s3, h3, p3⟩
end As

/-! ## A18 -/
namespace As
open PySem PySem.Spec PyProof.Rows L2
theorem getD_map' {α : Type} {f : α → V} {xs : List α} {i : Nat} {x : α} (h : xs[i]? = some x) : (xs.map f).getD i .non = f x := by
  rw [List.getD_eq_getElem?_getD, List.getElem?_map, h]; rfl
theorem take_filter' {α : Type} {p : α → Bool} {xs : List α} {i : Nat} {x : α} (h : xs[i]? = some x) : (xs.take (i + 1)).filter p = (xs.take i).filter p ++ (if p x = true then [x] else []) := by
  rw [List.take_succ, h, List.filter_append]
  show _ ++ List.filter p [x] = _
  cases e : p x <;> simp [e]
/-- [x for x in xs if p x], what stands stands -/
theorem lc_filter {J : It} {G : Hp → Prop} {α : Type} {v : α → V} {xs : List α} {g : TG} {tt : TT} {te : TE} {vs : List Nat} {σ : L2.St} {H1 : Hp} {D : Addr} {Qd : Hp → Prop} (p : α → Bool)
    (w : Walk J (xs.map v).length G (YAt (xs.map v))) (hD : H1 D = none) (hG : ∀ H, Same H1 H → G H) (hl : xs.length ≤ 10000)
    (hs : ∀ x H (Q1 : VK) (Q2 : Hp → Prop), x ∈ xs → Same H1 H → (p x = true → ∀ H', Same H H' → Q1 (v x) H') → (p x = false → ∀ H', Same H H' → Q2 H') →
      g (v x) (wipe σ vs) H fun σ2 H2 => wipe σ2 vs = wipe σ vs ∧ tt σ2 H2 fun b H3 => if b = true then te σ2 H3 Q1 else Q2 H3)
    (hd : ∀ H', Same H1 H' → H' D = some (.lst ((xs.filter p).map v)) → Qd H') :
    ∃ W : Nat → Nat → Hp → Prop, (∃ m, W 0 m (upd H1 D (.lst []))) ∧ ∀ i m H, W i m H →
      (J.stop i H ∧ Qd H) ∨ (J.go i H ∧ ∃ Nx : Hp → Prop, (∀ H', Nx H' → ∃ m', m' < m ∧ W (i + 1) m' H') ∧ ∀ x H', J.yld i H x H' → g x (wipe σ vs) H' fun σ2 H2 => wipe σ2 vs = wipe σ vs ∧ tt σ2 H2 fun b H3 =>
        if b = true then te σ2 H3 fun y H4 => ∃ acc, H4 D = some (.lst acc) ∧ acc.length < sizeLine ∧ Nx (upd H4 D (.lst (acc ++ [y]))) else Nx H3) := by
  refine lc_it w (fun i H => Same H1 H ∧ H D = some (.lst (((xs.take i).filter p).map v))) ⟨same_new hD, upd_same⟩ (fun i H _ z => hG H z.1) (fun i x H H' hi z y => ?_) (fun H z => hd H z.1 (by rw [z.2, List.length_map, List.take_length]))
  obtain ⟨rfl, hx⟩ := y
  rw [List.getElem?_map] at hx
  obtain ⟨a, ha, rfl⟩ := Option.map_eq_some_iff.mp hx
  obtain ⟨s, hd'⟩ := z
  refine hs a H' _ _ (List.mem_of_getElem? ha) s (fun e H4 s4 => ⟨_, s4 _ _ hd', ?_, same_mut (s.trans s4) hD, ?_⟩) (fun e H4 s4 => ⟨s.trans s4, ?_⟩)
  · rw [List.length_map]
    have h1 := List.length_filter_le p (xs.take i)
    have h2 := List.length_take_le' i xs
    exact Nat.lt_of_le_of_lt (show ((xs.take i).filter p).length ≤ 10000 by omega) (by decide)
  · rw [upd_same, take_filter' ha, e, if_pos rfl, List.map_append]; rfl
  · rw [s4 _ _ hd', take_filter' ha, e]; simp
section
variable {X : Cx} (K : PySem.W.Frag)
theorem eqDK (hu : X.A.units + 64 < cLine) (h : X.K = K := by rfl) : OpR X (compareOp .Eq) (rEqD K) := h ▸ op_eqD hu
theorem neDK (hu : X.A.units + 64 < cLine) (h : X.K = K := by rfl) : OpR X (compareOp .NotEq) (rNeD K) := h ▸ op_neD hu
theorem inDK (hu : X.A.units + 65 < cLine) (h : X.K = K := by rfl) : OpR X (compareOp .In) (rInD K) := h ▸ op_inD hu
theorem slTK (h : X.K = K := by rfl) : SlR X (rSlT K) := h ▸ sl_tup
end
end As

/-! ## A20 -/
namespace As
open PySem PySem.Spec PyProof.Rows L2
/-- x not in t, t a tuple of data -/
def rNotInDT (K : PySem.W.Frag) : R2 := fun x y H Q => ∃ d ds, Dp K H x d ∧ Dp K H y (.tuple ds) ∧ SeqAt.shaped d = true ∧ SeqAt.shaped (.tuple ds) = true ∧ Q (.bl (!ds.any fun z => PyData.eqv z d)) H
theorem op_notInDT {X : Cx} (hu : X.A.units + 65 < cLine) : OpR X (compareOp .NotIn) (rNotInDT X.K) := by
  rintro pins s σ H x y v u Q I rx ry ⟨d, ds, hd, he, sd, se, q⟩
  obtain ⟨as, r1⟩ := Dp.reads I d x v hd rx
  obtain ⟨bs, r2⟩ := Dp.reads I (PyData.tuple ds) y u he ry
  exact SeqAt.notIn_tuple_reads r2 r1 (SeqAt.canLay_of_shaped se) (SeqAt.canLay_of_shaped sd) (room_in_shaped sd hu) ⟨.bl (!ds.any fun z => PyData.eqv z d), H, I, rfl, q⟩
theorem notInTK {X : Cx} (K : PySem.W.Frag) (hu : X.A.units + 65 < cLine) (h : X.K = K := by rfl) : OpR X (compareOp .NotIn) (rNotInDT K) := h ▸ op_notInDT hu
/-- [u x for x in xs if p x], what stands stands -/
theorem lc_fm {J : It} {G : Hp → Prop} {α : Type} {v u : α → V} {xs : List α} {g : TG} {tt : TT} {te : TE} {vs : List Nat} {σ : L2.St} {H1 : Hp} {D : Addr} {Qd : Hp → Prop} (p : α → Bool)
    (w : Walk J (xs.map v).length G (YAt (xs.map v))) (hD : H1 D = none) (hG : ∀ H, Same H1 H → G H) (hl : xs.length ≤ 10000)
    (hs : ∀ x H (Q1 : VK) (Q2 : Hp → Prop), x ∈ xs → Same H1 H → (p x = true → ∀ H', Same H H' → Q1 (u x) H') → (p x = false → ∀ H', Same H H' → Q2 H') →
      g (v x) (wipe σ vs) H fun σ2 H2 => wipe σ2 vs = wipe σ vs ∧ tt σ2 H2 fun b H3 => if b = true then te σ2 H3 Q1 else Q2 H3)
    (hd : ∀ H', Same H1 H' → H' D = some (.lst ((xs.filter p).map u)) → Qd H') :
    ∃ W : Nat → Nat → Hp → Prop, (∃ m, W 0 m (upd H1 D (.lst []))) ∧ ∀ i m H, W i m H →
      (J.stop i H ∧ Qd H) ∨ (J.go i H ∧ ∃ Nx : Hp → Prop, (∀ H', Nx H' → ∃ m', m' < m ∧ W (i + 1) m' H') ∧ ∀ x H', J.yld i H x H' → g x (wipe σ vs) H' fun σ2 H2 => wipe σ2 vs = wipe σ vs ∧ tt σ2 H2 fun b H3 =>
        if b = true then te σ2 H3 fun y H4 => ∃ acc, H4 D = some (.lst acc) ∧ acc.length < sizeLine ∧ Nx (upd H4 D (.lst (acc ++ [y]))) else Nx H3) := by
  refine lc_it w (fun i H => Same H1 H ∧ H D = some (.lst (((xs.take i).filter p).map u))) ⟨same_new hD, upd_same⟩ (fun i H _ z => hG H z.1) (fun i x H H' hi z y => ?_) (fun H z => hd H z.1 (by rw [z.2, List.length_map, List.take_length]))
  obtain ⟨rfl, hx⟩ := y
  rw [List.getElem?_map] at hx
  obtain ⟨a, ha, rfl⟩ := Option.map_eq_some_iff.mp hx
  obtain ⟨s, hd'⟩ := z
  refine hs a H' _ _ (List.mem_of_getElem? ha) s (fun e H4 s4 => ⟨_, s4 _ _ hd', ?_, same_mut (s.trans s4) hD, ?_⟩) (fun e H4 s4 => ⟨s.trans s4, ?_⟩)
  · rw [List.length_map]
    have h1 := List.length_filter_le p (xs.take i)
    have h2 := List.length_take_le' i xs
    exact Nat.lt_of_le_of_lt (show ((xs.take i).filter p).length ≤ 10000 by omega) (by decide)
  · rw [upd_same, take_filter' ha, e, if_pos rfl, List.map_append]; rfl
  · rw [s4 _ _ hd', take_filter' ha, e]; simp
end As

/-! ## A5 -/
set_option maxHeartbeats 2000000
namespace As
open PySem PySem.Spec PyProof.Rows L2
section
variable {X : Cx} {CX : CXT} {C f n : Nat} {fd : FuncData} {ps : List Str} {sp : Sp}
/-- a promise kept at a call from within a built-in -/
theorem call_in {A : Around} {pins : List (Addr × Obj)} {σ : L2.St} {H : Hp} {s : Shared} {Q : VK} {E : XK} {us : List Value} {vs : List V} (F : FnOk X.prog X.w X.K X.mg X.base CX n f fd ps sp) (sb : L2.Sub X n A) (hb : Binds X.K fd ps []) (hx : Passes CX X E)
    (I : Inv X pins σ H s) (r : Vals vs us) (h : sp vs H Q E) : wpAny (model X.prog X.w) A (call (.ref f) us) (EP X pins σ Q) X.xe s := by
  have len : us.length = ps.length := by rw [← r.length]; exact F.len _ _ _ _ h
  have e0 : Env0 X.prog X.w X.K X.mg X.base A X.stack s H := by
    obtain ⟨x1, x2, x3, x4, x5, x6, x7, x8⟩ := I.env0
    exact ⟨by rw [sb.fr]; exact x1, x2, x3, x4, x5, x6, x7, x8⟩
  have bt := hb s us I.kIn (by simpa using len)
  rw [List.append_nil] at bt
  refine wpAny_call (codeAny_mono (F.run A X.stack s H ⟨us, []⟩ us vs Q E sb.room e0 bt r h) fun r s' hq => ?_)
  rcases r with e | fl
  · exact hx pins σ H s e s' I hq
  · cases fl with
    | ret u => exact I.after hq
    | next => exact False.elim hq
    | brk => exact False.elim hq
    | cont => exact False.elim hq
end
/-- the class at C compares by its own == at f, and leaves != to object -/
structure EqC (K : PySem.W.Frag) (C f : Addr) : Prop where
  eq : PySem.W.findIn K (.ref C) "__eq__" = some (some (.ref f))
  fn : PySem.W.isFn K (.ref f) = true
  ne : PySem.W.findIn K (.ref C) "__ne__" = some (some (.builtin "object.__ne__"))
  top : PySem.W.mroIn K C (.type "object") = some true
  lst : PySem.W.notFirst K C (.type "list") = true
/-- an own instance against another of the class, or against a list -/
def rOwn (C : Addr) (sp : Sp) (g : Bool → Bool) : R2 := fun x y H Q => ∃ (a b dx : Addr) (fs : List (Str × V)), x = .ref a ∧ y = .ref b ∧ H a = some (.ins C dx fs) ∧ ((∃ dy gs, H b = some (.ins C dy gs)) ∨ ∃ zs, H b = some (.lst zs)) ∧
  sp [.ref a, .ref b] H (fun v H' => ∃ r, v = .bl r ∧ Q (.bl (g r)) H') E0
section
variable {X : Cx} {C f n : Nat} {fd : FuncData} {ps : List Str} {sp : Sp}
theorem looks_kind {M : Model} {pins : List (Addr × Obj)} {σ : L2.St} {H : Hp} {s : Shared} {b : Addr} (q : EqC X.K C f) (I : Inv X pins σ H s) (h : (∃ dy gs, H b = some (.ins C dy gs)) ∨ ∃ zs, H b = some (.lst zs)) :
    ∃ tb, PySem.W.Looks M s.heap (typeOf (.ref b)) tb ∧ PySem.W.notFirst X.K C tb = true := by
  rcases h with ⟨dy, gs, hb⟩ | ⟨zs, hb⟩
  · obtain ⟨mB, J, _⟩ := ins_get I.hok hb
    obtain ⟨od, J, _⟩ := J.look
    exact ⟨.ref C, J.type, by simp [PySem.W.notFirst]⟩
  · obtain ⟨_, _, k, _, e⟩ := I.hok b _ hb
    exact ⟨.type "list", (PySem.W.Looks.ld e).andThen .now, q.lst⟩
theorem op_eqOwn (F : FnOk X.prog X.w X.K X.mg X.base CX0 n f fd ps sp) (hr : Room n X.A) (hb : Binds X.K fd ps []) (q : EqC X.K C f) : OpR X (compareOp .Eq) (rOwn C sp id) := by
  intro pins s σ H x y v u Q I rx ry h
  obtain ⟨a, b, dx, fs, rfl, rfl, ha, hk, hs⟩ := h
  cases rx
  cases ry
  obtain ⟨mA, J, _⟩ := ins_get I.hok ha
  obtain ⟨od, J, _⟩ := J.look
  obtain ⟨tb, lk, nf⟩ := looks_kind q I hk
  obtain ⟨m, hF⟩ := I.fr
  have r2 : Vals [V.ref a, V.ref b] [Value.ref a, Value.ref b] := .cons rfl (.cons rfl .nil)
  refine PySem.W.cmp_K (op := .Eq) (Nat.lt_of_le_of_lt (Nat.le_add_right _ _) (hu_of hr)) hF I.ok.mod.kin J lk nf q.eq q.fn (thn (call_in F ⟨hr, rfl⟩ hb pass0 I r2 hs) fun w s' z => ?_)
  obtain ⟨v, H', I', rv, r, rfl, qr⟩ := z
  cases rv
  exact ⟨.bl r, H', I', rfl, qr⟩
theorem ne_bind (self : Value) : bindSpecial (.builtin "object.__ne__") self = pure (.builtin "object.__ne__", [self]) := PySem.F.cmp_object.ne.bind self
theorem op_neOwn (F : FnOk X.prog X.w X.K X.mg X.base CX0 n f fd ps sp) (hr : Room (n + 1) X.A) (hb : Binds X.K fd ps []) (q : EqC X.K C f) : OpR X (compareOp .NotEq) (rOwn C sp not) := by
  intro pins s σ H x y v u Q I rx ry h
  obtain ⟨a, b, dx, fs, rfl, rfl, ha, hk, hs⟩ := h
  cases rx
  cases ry
  obtain ⟨mA, J, _⟩ := ins_get I.hok ha
  obtain ⟨od, J, _⟩ := J.look
  obtain ⟨tb, lk, nf⟩ := looks_kind (M := model X.prog X.w) q I hk
  have hu : X.A.units + 1 < cLine := hu_of hr
  have hu0 : X.A.units < cLine := Nat.lt_of_succ_lt hu
  have KI := I.kIn
  have r2 : Vals [V.ref a, V.ref b] [Value.ref a, Value.ref b] := .cons rfl (.cons rfl .nil)
  -- the built-in's call
  have run : wpAny (model X.prog X.w) X.A (call (.builtin "object.__ne__") [.ref a, .ref b]) (fun v s' => ∃ r : Bool, v = .bool r ∧ EP X pins σ Q (.bool r) s') X.xe s := by
    have sub : PySem.W.Looks (model X.prog X.w) s.heap (isInstance (.ref a) (.type "object")) true := J.type.andThen (PySem.W.looks_mroIn KI q.top)
    refine wpAny_call (codeAny_call_builtin PySem.F.cmp_object.ne.plain PySem.F.cmpEntry_ne (PySem.W.check_slot PySem.F.cmpKind_ne PySem.F.cmpSplit_ne sub (PySem.F.cmpArgs_ne _ _) ?_))
    have inner : wpAny (model X.prog X.w) X.A.in1 (callSpecialIfBound? (.ref a) "__eq__" [.ref b]) (fun o s' => ∃ r : Bool, o = some (.bool r) ∧ EP X pins σ Q (.bool (!r)) s') X.xe s :=
      PySem.W.ifBound_K KI J q.eq q.fn (thn (call_in F ⟨hr.in1, rfl⟩ hb pass0 I r2 hs) fun w s' z => by
        obtain ⟨v, H', I', rv, r, rfl, qr⟩ := z
        cases rv
        exact ⟨r, rfl, .bl (!r), H', I', rfl, qr⟩)
    unfold Builtin.«object.__ne__»
    repeat (first | with_reducible refine wpAny_cRoomFor hu ?_ | (refine wpAny_bind (wpAny_mono inner (fun o s' z => ?_) fun _ _ e => e)) | wp_step)
    obtain ⟨r, rfl, ep⟩ := z
    refine wpAny_bind (wpAny_truthy_bool (wpAny_pure ?_))
    exact ⟨!r, rfl, ep⟩
  have one : wpAny (model X.prog X.w) X.A (tryCompare (.ref a) "__ne__" (.ref b)) (fun r s' => ∃ b, r = some (.bool b) ∧ EP X pins σ Q (.bool b) s') X.xe s := by
    simp only [tryCompare, callSpecialIfBound?, bindSpecialIfBound?]
    refine wpAny_bind (wpAny_holding (wpAny_bind (wpAny_bind (wpAny_bind (J.type.here ((PySem.W.looks_findIn KI q.ne).here ?_))))))
    refine wpAny_bind (wpAny_askSetting (wpAny_ite ?_))
    have fin : wpAny (model X.prog X.w) X.A (call (.builtin "object.__ne__") ([.ref a] ++ [.ref b]) >>= fun v => pure (some v)) (fun o s' => ∃ r : Bool, o = some (.bool r) ∧ EP X pins σ Q (.bool r) s') X.xe s :=
      wpAny_bind (wpAny_mono run (fun v s' z => wpAny_pure (by obtain ⟨r, rfl, ep⟩ := z; exact ⟨r, rfl, ep⟩)) fun _ _ e => e)
    have fin2 : wpAny (model X.prog X.w) X.A (call (.builtin "object.__ne__") ([.ref a] ++ [.ref b]) >>= fun v => pure (some v))
        (fun o s' => wpAny (model X.prog X.w) X.A (match o with | some .notImplemented => pure none | none => pure none | some v => pure (some v)) (fun r s' => ∃ b, r = some (.bool b) ∧ EP X pins σ Q (.bool b) s') X.xe s') X.xe s :=
      wpAny_mono fin (fun o s' z => by obtain ⟨r, rfl, ep⟩ := z; exact wpAny_pure ⟨r, rfl, ep⟩) fun _ _ e => e
    split
    · refine wpAny_bind ?_
      rw [ne_bind]
      exact wpAny_pure (wpAny_pure fin2)
    · refine wpAny_tryCatch (wpAny_bind ?_)
      rw [ne_bind]
      exact wpAny_pure (wpAny_pure fin2)
  show wpAny _ _ (richCompare .NotEq (.ref a) (.ref b)) _ _ _
  unfold richCompare
  simp only [PySem.oneThing_ref, PySem.cmpInfo_NotEq]
  refine wpAny_holding (wpAny_bind (wpAny_cRoomFor hu0 ?_))
  refine wpAny_bind (J.type.here (wpAny_bind (lk.here ?_)))
  have tail : wpAny (model X.prog X.w) X.A (tryCompare (.ref a) "__ne__" (.ref b)) (fun r s' => ∃ v, r = some v ∧ EP X pins σ Q v s') X.xe s := wpAny_mono one (fun o s' z => by obtain ⟨r, rfl, ep⟩ := z; exact ⟨_, rfl, ep⟩) fun _ _ e => e
  split
  · rename_i ne
    have no : PySem.W.subIn X.K tb (.ref C) = some false := by
      unfold PySem.W.notFirst at nf
      rw [Bool.or_eq_true] at nf
      rcases nf with e | e
      · rw [eq_of_beq e] at ne
        simp at ne
      · exact eq_of_beq e
    refine wpAny_bind ((PySem.W.looks_subIn KI no).here ?_)
    rw [if_neg (by decide)]
    exact wpAny_bind (wpAny_mono tail (fun o s' z => by obtain ⟨v, rfl, ep⟩ := z; exact wpAny_pure ep) fun _ _ e => e)
  · refine wpAny_bind (wpAny_pure ?_)
    rw [if_neg (by decide)]
    exact wpAny_bind (wpAny_mono tail (fun o s' z => by obtain ⟨v, rfl, ep⟩ := z; exact wpAny_pure ep) fun _ _ e => e)
end
end As

/-! ## H02 -/
namespace As
open PySem PySem.Spec PyProof.Rows L2
def top (i : Nat) : Stmt := PySem.Challenge.pw_asksold_k21_open_rows.main.body.getD i (.Pass ⟨0, 0, 0, 0⟩)
-- class AskError at 2
-- class BadPlan at 3
-- class BadFact at 4
-- class BadLook at 5
-- class BadStore at 6
-- class BadAsk at 7
-- class TooMany at 8
abbrev s_is_number : Stmt := top 13
abbrev s_is_below : Stmt := top 14
abbrev s_is_name : Stmt := top 15
abbrev s_is_list : Stmt := top 16
abbrev s_is_pair : Stmt := top 17
abbrev s_is_rising : Stmt := top 18
abbrev s_is_column : Stmt := top 19
abbrev s_is_table : Stmt := top 20
abbrev s_have_distinct_names : Stmt := top 21
abbrev s_are_columns : Stmt := top 22
abbrev s_are_tables : Stmt := top 23
abbrev s_init : Stmt := inClass (top 24) 2
abbrev s_columns : Stmt := inClass (top 24) 3
abbrev s_tables : Stmt := inClass (top 24) 4
abbrev s_eq : Stmt := inClass (top 24) 5
abbrev s_size_of : Stmt := inClass (top 24) 6
abbrev s_sides : Stmt := inClass (top 24) 7
abbrev s_columns_of : Stmt := inClass (top 24) 8
abbrev s_spans : Stmt := inClass (top 24) 9
abbrev s_table_names : Stmt := inClass (top 24) 10
abbrev s_is_fact : Stmt := top 25
abbrev s_is_look : Stmt := top 26
abbrev s_check_fact : Stmt := top 27
abbrev s_check_looks : Stmt := top 28
abbrev s_all_rows : Stmt := top 29
abbrev s_all_facts : Stmt := top 30
abbrev s_looks_that_see : Stmt := top 31
abbrev s_is_lot : Stmt := top 35
abbrev s_are_ones : Stmt := top 36
abbrev s_is_stop : Stmt := top 37
abbrev s_in_columns_order : Stmt := top 38
abbrev s_is_link : Stmt := top 39
abbrev s_stops_of : Stmt := top 40
abbrev s_links_of : Stmt := top 41
abbrev s_tables_of : Stmt := top 42
abbrev s_is_ask : Stmt := top 43
abbrev s_lots_of : Stmt := top 44
abbrev s_product_of_sizes : Stmt := top 45
abbrev s_check_any_ask : Stmt := top 46
abbrev s_check_ask : Stmt := top 47
abbrev s_facts_added : Stmt := top 48
abbrev s_rows_with_facts : Stmt := top 49
abbrev s_present_facts : Stmt := top 50
abbrev s_absent_of : Stmt := top 51
abbrev s_check_settling : Stmt := top 53
abbrev s_seen_by : Stmt := top 54
abbrev s_is_shut : Stmt := top 55
abbrev s_first_open : Stmt := top 56
abbrev s_open_pair : Stmt := top 57
abbrev s_settles : Stmt := top 58
abbrev s_open_row : Stmt := top 59
abbrev s_are_facts : Stmt := top 61
abbrev s_Sinit : Stmt := inClass (top 62) 0
abbrev s_Splan : Stmt := inClass (top 62) 2
abbrev s_Sfacts : Stmt := inClass (top 62) 3
abbrev s_Slen : Stmt := inClass (top 62) 4
abbrev s_Seq : Stmt := inClass (top 62) 5
abbrev s_has : Stmt := inClass (top 62) 6
abbrev s_rows : Stmt := inClass (top 62) 7
abbrev s_seen : Stmt := inClass (top 62) 8
abbrev s_state : Stmt := top 64
abbrev s_draw : Stmt := top 65
abbrev s_pick : Stmt := top 66
abbrev s_lshuffled : Stmt := top 67
abbrev s_llabels : Stmt := top 68
abbrev s_llot : Stmt := top 69
abbrev s_lcase : Stmt := top 70
abbrev s_lall_rows : Stmt := top 71
abbrev s_llots : Stmt := top 72
abbrev s_lfacts : Stmt := top 73
abbrev s_lall_facts : Stmt := top 74
abbrev s_lall_looks : Stmt := top 75
abbrev s_lsome : Stmt := top 76
abbrev s_lseers : Stmt := top 77
abbrev s_lanswer : Stmt := top 78
abbrev s_lis_seen : Stmt := top 79
abbrev s_lis_open : Stmt := top 80
abbrev s_lopen_rows : Stmt := top 81
abbrev s_lviews : Stmt := top 82
abbrev s_lgreat_right : Stmt := top 83
abbrev s_law : Stmt := top 84
end As

/-! ## B1 -/
namespace As
open PySem PySem.Spec PyProof.Rows L2
section
variable {P : Program} {w : World} {K : PySem.W.Frag} {mg : Str → Option Value} {base : Heap}

def spNumber (K : PySem.W.Frag) : Sp := fun vs H Q _ => ∃ x t b1 b2, vs = [x] ∧ TyX K H x t ∧ PySem.W.kitOne K t (.type "int") = some b1 ∧ PySem.W.kitOne K t (.type "bool") = some b2 ∧ Q (.bl (b1 && !b2)) H
theorem sc_number : FnScope ["thing"] ["thing"] (defScope s_is_number) := ⟨rfl, rfl, rfl, by decide +kernel, rfl, by decide +kernel, by decide +kernel⟩
theorem ok_number {f : Addr} {fd : FuncData} (D : Df K mg "is_number" s_is_number ["thing"] f fd) (T : Bi mg) : FnOk P w K mg base CX0 1 f fd ["thing"] (spNumber K) := by
  refine D.F.ok sc_number (fun vs H Q E h => ?_) (fun cdv A outer s H vs Q E hr h => ?_)
  · obtain ⟨x, t, b1, b2, rfl, _⟩ := h; rfl
  · obtain ⟨x, t, b1, b2, rfl, ty, k1, k2, q⟩ := h
    refine ⟨_, pss_one (ps_ret (pe_and (pe_callB call_isi (by rfl) T.isinst (by decide +kernel) (pa_cons (pv 0) (pa_cons (pe_bltn (v := .ty "int") (by rfl) T.int (by decide +kernel) rfl) pa_nil)))
      (pe_one (pe_not (pe_callB call_isi (by rfl) T.isinst (by decide +kernel) (pa_cons (pv 0) (pa_cons (pe_bltn (v := .ty "bool") (by rfl) T.bool (by decide +kernel) rfl) pa_nil))))))), ?_⟩
    refine ⟨_, rfl, x, .ty "int", t, _, b1, rfl, .ty "int", ty, k1, b1, rfl, ?_⟩
    cases b1 with
    | false => exact iteF q
    | true => exact iteT ⟨_, rfl, x, .ty "bool", t, _, b2, rfl, .ty "bool", ty, k2, b2, rfl, q⟩
end
end As

/-! ## B2 -/
namespace As
open PySem PySem.Spec PyProof.Rows L2
section
variable {P : Program} {w : World} {K : PySem.W.Frag} {mg : Str → Option Value} {base : Heap}

def spName (K : PySem.W.Frag) : Sp := fun vs H Q _ => ∃ z, vs = [.str z] ∧ z.length ≤ sizeLine ∧ ∀ H', Same H H' → Q (.bl (nameB z)) H'
theorem sc_name : FnScope ["thing", "letter"] ["thing"] (defScope s_is_name) := ⟨rfl, rfl, rfl, by decide +kernel, rfl, by decide +kernel, by decide +kernel⟩
theorem ok_name {f : Addr} {fd : FuncData} (D : Df K mg "is_name" s_is_name ["thing"] f fd) (T : Bi mg) {t8 : Tok} (m8 : mg "MOST_LETTERS" = some (.int 8 t8)) : FnOk P w K mg base CX0 1 f fd ["thing"] (spName K) := by
  refine D.F.ok sc_name (fun vs H Q E h => ?_) (fun cdv A outer s H vs Q E hr h => ?_)
  · obtain ⟨z, rfl, _⟩ := h; rfl
  · obtain ⟨z, rfl, hz, q⟩ := h
    refine ⟨_, pss_cons (ps_if (PW.pt (pw_or (pt_not (pt_val (pe_callB call_isi (by rfl) T.isinst (by decide +kernel) (pa_cons (pv 0) (pa_cons (pe_bltn (v := .ty "str") (by rfl) T.str (by decide +kernel) rfl) pa_nil)))))
        (pw_or1 (pt_not (pt_chain op_le op_le pe_int (pe_callB call_len_str (by rfl) T.len PySem.boot_len (pa_cons (pv 0) pa_nil)) (pe_glob (v := .int 8) rfl m8 ⟨_, rfl⟩)))))) (pss_one (ps_ret pe_bl)) pss_nil)
      (pss_one (ps_ret (pe_callB (cr_all rfl) (by rfl) T.all (by decide +kernel) (pa_cons (pe_lc (own := [("letter", 1)]) (g := gName 1) (tt := tYes) rfl sc_name.nd (pi_str (pv 0)) (blkOk_by (N := ["thing", "letter"]) (sc := defScope s_is_name) (by decide +kernel))
        (fun _ _ _ _ _ => pg_name (i := 1) sc_name.nd rfl (Or.inl rfl)) (fun _ _ _ _ _ => pts_nil) (fun _ _ _ _ _ => pe_chain op_le_str op_le_str pe_str (pv 1) pe_str)) pa_nil)))), ?_⟩
    refine ⟨_, rfl, _, _, _, _, true, rfl, .ty "str", .base (.str z), kstr_str, true, rfl, ?_⟩
    refine iteF ?_
    refine ⟨_, rfl, z, rfl, hz, 1, _, rfl, rfl, _, rfl, ?_⟩
    have sq := @Same.refl H
    by_cases h1 : (1 : Int) ≤ z.length
    · rw [decide_eq_true h1]
      refine iteT ⟨_, _, rfl, rfl, _, rfl, ?_⟩
      by_cases h8 : (z.length : Int) ≤ 8
      · rw [decide_eq_true h8]
        refine iteF ⟨_, rfl, z, rfl, fun D hD => lc_same (B := H) walk_sign signs_length.symm (Same.refl H) hD (fun _ _ => trivial) (by rw [signs_length]; exact Nat.lt_of_le_of_lt (show z.cps.size ≤ 8 by have := @str_len z; omega) (by decide))
          (fun x => match x with | .str y => some (V.bl (y.cps.toList.all letter)) | _ => none) (fun x H2 Q1 Q2 hx s2 k1 k2 => ?_) (fun H' s' hD' => ?_)⟩
        · obtain ⟨c, hc, rfl⟩ := List.mem_map.mp hx
          refine ⟨rfl, ?_⟩
          refine iteT (B := Q2 H2) ?_
          refine ⟨_, rfl, _, _, rfl, rfl, _, rfl, ?_⟩
          have e1 : (!decide ((⟨#[c]⟩ : Str).cps.toList < (Str.ofString "a").cps.toList)) = decide (97 ≤ c) := one_le
          have e2 : (!decide ((Str.ofString "z").cps.toList < (⟨#[c]⟩ : Str).cps.toList)) = decide (c ≤ 122) := one_le
          rw [e1]
          by_cases ha : 97 ≤ c
          · rw [decide_eq_true ha]
            refine iteT ⟨_, _, rfl, rfl, ?_⟩
            rw [e2]
            refine k1 _ _ ?_ (Same.refl _)
            show some (V.bl (letter c && true)) = _
            unfold letter
            rw [decide_eq_true ha]; simp
          · rw [decide_eq_false ha]
            refine iteF (k1 _ _ ?_ (Same.refl _))
            show some (V.bl (letter c && true)) = _
            unfold letter
            rw [decide_eq_false ha]; simp
        · refine ⟨D, z.cps.toList.map letter, rfl, lof ?_, ?_⟩
          · rw [hD']
            congr 2
            unfold signs
            rw [List.filterMap_map, List.map_map, ← filterMap_some]
            congr 1
            funext c
            show some (V.bl (letter c && true)) = _
            rw [Bool.and_true]; rfl
          · rw [all_map]
            have e : nameB z = z.cps.toList.all letter := by
              unfold nameB
              rw [decide_eq_true (by omega)]; rfl
            rw [← e]
            exact q _ s'
      · rw [decide_eq_false h8]
        refine iteT ?_
        have e : nameB z = false := by
          unfold nameB
          rw [decide_eq_false (by omega)]; rfl
        rw [← e]
        exact q _ sq
    · rw [decide_eq_false h1]
      refine iteF ⟨_, rfl, ?_⟩
      refine iteT ?_
      have e : nameB z = false := by
        unfold nameB
        rw [decide_eq_false (by omega)]; rfl
      rw [← e]
      exact q _ sq
end
end As

/-! ## B3 -/
namespace As
open PySem PySem.Spec PyProof.Rows L2
/-- a list or a tuple -/
def Sq (H : Hp) (a : Addr) (xs : List V) : Prop := H a = some (.lst xs) ∨ H a = some (.tup xs)
theorem Sq.same {H H' : Hp} {a : Addr} {xs : List V} (h : Sq H a xs) (e : Same H H') : Sq H' a xs := h.elim (fun h => .inl (e _ _ h)) fun h => .inr (e _ _ h)
theorem Sq.or {K : PySem.W.Frag} {H : Hp} {a : Addr} {xs : List V} (h : Sq H a xs) : SqL K H a xs ∨ SqT K H a xs := h.elim (fun h => .inl (lof h)) fun h => .inr (tof h)
theorem kany1 {K : PySem.W.Frag} : PySem.W.kitAny K (.type "list") [.type "list", .type "tuple"] = some true := kitAny_cons klist_list (fun z => nomatch z) fun _ => rfl
theorem kany2 {K : PySem.W.Frag} : PySem.W.kitAny K (.type "tuple") [.type "list", .type "tuple"] = some true := kitAny_cons ktup_list (fun _ => kitAny_cons ktup_tup (fun z => nomatch z) fun _ => rfl) fun z => nomatch z

theorem bl_true {p : Prop} [Decidable p] (h : p) : V.bl (decide p) = V.bl true := by rw [decide_eq_true h]
abbrev CRow := Addr × Str × Int
def cv (r : CRow) : V := .ref r.1
structure ColsOk (H : Hp) (rs : List CRow) : Prop where
  row : ∀ r ∈ rs, H r.1 = some (.tup [.str r.2.1, .int r.2.2])
  len : 1 ≤ rs.length ∧ rs.length ≤ 6
  nm : ∀ r ∈ rs, nameB r.2.1 = true
  sz : ∀ r ∈ rs, 1 ≤ r.2.2 ∧ r.2.2 ≤ 6
  nd : (rs.map (·.2.1)).Nodup
abbrev TRow := Addr × Str × Addr × List Str
def tv (r : TRow) : V := .ref r.1
structure TabsOk (H : Hp) (cs : List Str) (rs : List TRow) : Prop where
  row : ∀ r ∈ rs, H r.1 = some (.tup [.str r.2.1, .ref r.2.2.1])
  prt : ∀ r ∈ rs, H r.2.2.1 = some (.tup (r.2.2.2.map V.str))
  len : 1 ≤ rs.length ∧ rs.length ≤ 8
  nm : ∀ r ∈ rs, nameB r.2.1 = true
  two : ∀ r ∈ rs, 1 ≤ r.2.2.2.length ∧ r.2.2.2.length ≤ 2
  own : ∀ r ∈ rs, ∀ x ∈ r.2.2.2, x ∈ cs
  nd : (rs.map (·.2.1)).Nodup
theorem ColsOk.same {H H' : Hp} {rs : List CRow} (h : ColsOk H rs) (e : Same H H') : ColsOk H' rs := ⟨fun r hr => e _ _ (h.row r hr), h.len, h.nm, h.sz, h.nd⟩
theorem TabsOk.same {H H' : Hp} {cs : List Str} {rs : List TRow} (h : TabsOk H cs rs) (e : Same H H') : TabsOk H' cs rs := ⟨fun r hr => e _ _ (h.row r hr), fun r hr => e _ _ (h.prt r hr), h.len, h.nm, h.two, h.own, h.nd⟩
theorem name_len {z : Str} (h : nameB z = true) : 1 ≤ z.length ∧ z.length ≤ 8 := by
  unfold nameB at h
  rw [Bool.and_eq_true] at h
  exact of_decide_eq_true h.1
theorem name_line {z : Str} (h : nameB z = true) : z.length ≤ sizeLine := Nat.le_trans (name_len h).2 (by decide)
theorem inV_str {x : Str} {xs : List Str} : inV (.str x) (xs.map V.str) = decide (x ∈ xs) := by
  unfold inV
  induction xs with
  | nil => rfl
  | cons y r ih =>
    rw [List.map_cons, List.any_cons, ih]
    show ((y == x) || decide (x ∈ r)) = decide (x ∈ y :: r)
    by_cases h : y = x
    · subst h; simp
    · have h' : ¬ x = y := fun e => h e.symm
      rw [(beq_eq_false_iff_ne).mpr h]; simp [h']
theorem flat_strs {xs : List Str} : (xs.map V.str).all flatV = true := by
  rw [List.all_map]; induction xs with
  | nil => rfl
  | cons a r ih => rw [List.all_cons, ih]; rfl

section
variable {P : Program} {w : World} {K : PySem.W.Frag} {mg : Str → Option Value} {base : Heap}

def spList (K : PySem.W.Frag) : Sp := fun vs H Q _ => ∃ a xs, vs = [.ref a] ∧ Sq H a xs ∧ ∀ H', Same H H' → Q (.bl true) H'
theorem sc_list : FnScope ["thing"] ["thing"] (defScope s_is_list) := ⟨rfl, rfl, rfl, by decide +kernel, rfl, by decide +kernel, by decide +kernel⟩
theorem ok_list {f : Addr} {fd : FuncData} (D : Df K mg "is_list" s_is_list ["thing"] f fd) (T : Bi mg) : FnOk P w K mg base CX0 1 f fd ["thing"] (spList K) := by
  refine D.F.ok sc_list (fun vs H Q E h => ?_) (fun cdv A outer s H vs Q E hr h => ?_)
  · obtain ⟨a, xs, rfl, _⟩ := h; rfl
  · obtain ⟨a, xs, rfl, hs, q⟩ := h
    refine ⟨_, pss_one (ps_ret (pe_callB call_isiT (by rfl) T.isinst (by decide +kernel) (pa_cons (pv 0) (pa_cons (pe_tup (pa_cons (pe_bltn (v := .ty "list") (by rfl) T.list (by decide +kernel) rfl)
      (pa_cons (pe_bltn (v := .ty "tuple") (by rfl) T.tuple (by decide +kernel) rfl) pa_nil))) pa_nil)))), ?_⟩
    refine ⟨_, rfl, by show 2 ≤ sizeLine; decide, fun p hp => ?_⟩
    have s1 : Same H (upd H p (.tup [.ty "list", .ty "tuple"])) := same_new hp
    rcases hs with hs | hs
    · exact ⟨_, p, _, .type "list", _, true, rfl, upd_same, .cons (.ty _) (.cons (.ty _) .nil), .base (.lst (s1 _ _ hs)), kany1, q _ s1⟩
    · exact ⟨_, p, _, .type "tuple", _, true, rfl, upd_same, .cons (.ty _) (.cons (.ty _) .nil), .base (.tup (s1 _ _ hs)), kany2, q _ s1⟩

def spPair (K : PySem.W.Frag) : Sp := fun vs H Q _ => ∃ a xs, vs = [.ref a] ∧ H a = some (.tup xs) ∧ Q (.bl (decide (xs.length = 2))) H
theorem sc_pair : FnScope ["thing"] ["thing"] (defScope s_is_pair) := ⟨rfl, rfl, rfl, by decide +kernel, rfl, by decide +kernel, by decide +kernel⟩
theorem ok_pair {f : Addr} {fd : FuncData} (D : Df K mg "is_pair" s_is_pair ["thing"] f fd) (T : Bi mg) : FnOk P w K mg base CX0 1 f fd ["thing"] (spPair K) := by
  refine D.F.ok sc_pair (fun vs H Q E h => ?_) (fun cdv A outer s H vs Q E hr h => ?_)
  · obtain ⟨a, xs, rfl, _⟩ := h; rfl
  · obtain ⟨a, xs, rfl, hs, q⟩ := h
    refine ⟨_, pss_one (ps_ret (pe_and (pe_callB call_isi (by rfl) T.isinst (by decide +kernel) (pa_cons (pv 0) (pa_cons (pe_bltn (v := .ty "tuple") (by rfl) T.tuple (by decide +kernel) rfl) pa_nil)))
      (pe_one (pe_cmpR op_eq (pe_callB call_len_seq (by rfl) T.len PySem.boot_len (pa_cons (pv 0) pa_nil)) pe_int (nomark _))))), ?_⟩
    refine ⟨_, rfl, _, _, _, _, true, rfl, .ty "tuple", .base (.tup hs), ktup_tup, true, rfl, iteT ?_⟩
    refine ⟨_, rfl, a, xs, rfl, .inr (tof hs), rfl, ?_⟩
    have e : decide (V.int (xs.length : Int) = V.int 2) = decide (xs.length = 2) := by
      by_cases h : xs.length = 2
      · rw [h]; rfl
      · rw [decide_eq_false h]; exact decide_eq_false fun z => h (by injection z with z; omega)
    rw [e]
    exact q

def spColumn (K : PySem.W.Frag) : Sp := fun vs H Q _ => ∃ t n m, vs = [.ref t] ∧ H t = some (.tup [.str n, .int m]) ∧ nameB n = true ∧ (1 ≤ m ∧ m ≤ 6) ∧ ∀ H', Same H H' → Q (.bl true) H'
theorem sc_column : FnScope ["thing"] ["thing"] (defScope s_is_column) := ⟨rfl, rfl, rfl, by decide +kernel, rfl, by decide +kernel, by decide +kernel⟩
theorem ok_column {f fn fp fu : Addr} {fd dn dp du : FuncData} (D : Df K mg "is_column" s_is_column ["thing"] f fd) (T : Bi mg) {t6 : Tok} (m6 : mg "MOST_VALUES" = some (.int 6 t6))
    (Dp : Df K mg "is_pair" s_is_pair ["thing"] fp dp) (Gp : FnOk P w K mg base CX0 1 fp dp ["thing"] (spPair K)) (Dn : Df K mg "is_name" s_is_name ["thing"] fn dn) (Gn : FnOk P w K mg base CX0 1 fn dn ["thing"] (spName K))
    (Du : Df K mg "is_number" s_is_number ["thing"] fu du) (Gu : FnOk P w K mg base CX0 1 fu du ["thing"] (spNumber K)) : FnOk P w K mg base CX0 2 f fd ["thing"] (spColumn K) := by
  refine D.F.ok sc_column (fun vs H Q E h => ?_) (fun cdv A outer s H vs Q E hr h => ?_)
  · obtain ⟨t, n, m, rfl, _⟩ := h; rfl
  · obtain ⟨t, n, m, rfl, ht, hn, hm, q⟩ := h
    refine ⟨_, pss_cons (ps_if (PW.pt (pw_or (pt_not (pt_val (pcall Dp Gp hr (pa_cons (pv 0) pa_nil)))) (pw_or1 (pt_not (pt_val (pcall Dn Gn hr (pa_cons (pe_ix ix_tup (pv 0) pe_int (fun _ _ => rfl)) pa_nil)))))))
        (pss_one (ps_ret pe_bl)) pss_nil)
      (pss_one (ps_ret (pe_and (pcall Du Gu hr (pa_cons (pe_ix ix_tup (pv 0) pe_int (fun _ _ => rfl)) pa_nil)) (pe_one (pe_chain op_le op_le pe_int (pe_ix ix_tup (pv 0) pe_int (fun _ _ => rfl)) (pe_glob (v := .int 6) rfl m6 ⟨_, rfl⟩)))))), ?_⟩
    refine ⟨_, rfl, t, _, rfl, ht, true, rfl, iteF ?_⟩
    refine ⟨_, rfl, t, _, 0, .str n, rfl, rfl, tof ht, rfl, n, rfl, name_line hn, fun H1 s1 => ?_⟩
    rw [hn]
    refine ⟨true, rfl, iteF ?_⟩
    have h1 := s1 _ _ ht
    refine ⟨_, rfl, t, _, 1, .int m, rfl, rfl, tof h1, rfl, .int m, .type "int", true, false, rfl, .base (.int m), kint_int, kint_bool, true, rfl, iteT ?_⟩
    refine ⟨_, rfl, t, _, 1, .int m, rfl, rfl, tof h1, rfl, 1, m, rfl, rfl, true, bl_true hm.1, iteT ?_⟩
    refine ⟨m, 6, rfl, rfl, ?_⟩
    show Q (.bl (decide (m ≤ 6))) H1
    rw [decide_eq_true hm.2]
    exact q _ s1

def spTable (K : PySem.W.Frag) : Sp := fun vs H Q _ => ∃ (t : Addr) (n : Str) (p : Addr) (ps : List Str) (c : Addr) (cs : List Str), vs = [.ref t, .ref c] ∧ H t = some (.tup [.str n, .ref p]) ∧ H p = some (.tup (ps.map V.str)) ∧ H c = some (.lst (cs.map V.str)) ∧ nameB n = true ∧
  (1 ≤ ps.length ∧ ps.length ≤ 2) ∧ (∀ x ∈ ps, x ∈ cs) ∧ ∀ H', Same H H' → Q (.bl true) H'
theorem sc_table : FnScope ["thing", "column_names", "names", "name"] ["thing", "column_names"] (defScope s_is_table) := ⟨rfl, rfl, rfl, by decide +kernel, rfl, by decide +kernel, by decide +kernel⟩
theorem ok_table {f fn fp : Addr} {fd dn dp : FuncData} (D : Df K mg "is_table" s_is_table ["thing", "column_names"] f fd) (T : Bi mg) {t2 : Tok} (m2 : mg "MOST_SIDES" = some (.int 2 t2))
    (Dp : Df K mg "is_pair" s_is_pair ["thing"] fp dp) (Gp : FnOk P w K mg base CX0 1 fp dp ["thing"] (spPair K)) (Dn : Df K mg "is_name" s_is_name ["thing"] fn dn) (Gn : FnOk P w K mg base CX0 1 fn dn ["thing"] (spName K)) :
    FnOk P w K mg base CX0 2 f fd ["thing", "column_names"] (spTable K) := by
  refine D.F.ok sc_table (fun vs H Q E h => ?_) (fun cdv A outer s H vs Q E hr h => ?_)
  · obtain ⟨t, n, p, ps, c, cs, rfl, _⟩ := h; rfl
  · obtain ⟨t, n, p, ps, c, cs, rfl, ht, hp, hc, hn, hl, ho, q⟩ := h
    refine ⟨_, pss_cons (ps_if (PW.pt (pw_or (pt_not (pt_val (pcall Dp Gp hr (pa_cons (pv 0) pa_nil)))) (pw_or1 (pt_not (pt_val (pcall Dn Gn hr (pa_cons (pe_ix ix_tup (pv 0) pe_int (fun _ _ => rfl)) pa_nil)))))))
        (pss_one (ps_ret pe_bl)) pss_nil)
      (pss_cons (ps_set (i := 2) sc_table.nd rfl (Or.inl rfl) (pe_ix ix_tup (pv 0) pe_int (fun _ _ => rfl)))
      (pss_cons (ps_if (PW.pt (pw_or (pt_not (pt_val (pe_callB call_isi (by rfl) T.isinst (by decide +kernel) (pa_cons (pv 2) (pa_cons (pe_bltn (v := .ty "tuple") (by rfl) T.tuple (by decide +kernel) rfl) pa_nil)))))
          (pw_or1 (pt_not (pt_chain op_le op_le pe_int (pe_callB call_len_seq (by rfl) T.len PySem.boot_len (pa_cons (pv 2) pa_nil)) (pe_glob (v := .int 2) rfl m2 ⟨_, rfl⟩)))))) (pss_one (ps_ret pe_bl)) pss_nil)
      (pss_one (ps_ret (pe_callB (cr_all rfl) (by rfl) T.all (by decide +kernel) (pa_cons (pe_lc (own := [("name", 3)]) (g := gName 3) (tt := tYes) rfl sc_table.nd (pi_tup (pv 2)) (blkOk_by (N := ["thing", "column_names", "names", "name"]) (sc := defScope s_is_table) (by decide +kernel))
        (fun _ _ _ _ _ => pg_name (i := 3) sc_table.nd rfl (Or.inl rfl)) (fun _ _ _ _ _ => pts_nil) (fun _ _ _ _ _ => pe_cmpR (inK K) (pv 3) (pv 1) rfl)) pa_nil)))))), ?_⟩
    refine ⟨_, rfl, t, _, rfl, ht, true, rfl, iteF ?_⟩
    refine ⟨_, rfl, t, _, 0, .str n, rfl, rfl, tof ht, rfl, n, rfl, name_line hn, fun H1 s1 => ?_⟩
    rw [hn]
    refine ⟨true, rfl, iteF ?_⟩
    refine ⟨_, rfl, t, _, 1, .ref p, rfl, rfl, tof (s1 _ _ ht), rfl, ?_⟩
    have hp1 := s1 _ _ hp
    refine ⟨_, rfl, _, _, _, _, true, rfl, .ty "tuple", .base (.tup hp1), ktup_tup, true, rfl, iteF ?_⟩
    refine ⟨_, rfl, p, _, rfl, .inr (tof hp1), 1, _, rfl, rfl, true, bl_true (by rw [List.length_map]; omega), iteT ?_⟩
    refine ⟨_, _, rfl, rfl, true, bl_true (by rw [List.length_map]; omega), iteF ?_⟩
    refine ⟨_, rfl, p, rfl, ⟨_, tof hp1⟩, fun D hD => lc_same (B := H1) walk_tup rfl (Same.refl H1) hD (fun H e => tof (e _ _ hp1)) (by rw [List.length_map]; exact Nat.lt_of_le_of_lt hl.2 (by decide)) (fun _ => some (.bl true)) (fun x H2 Q1 Q2 hx s2 k1 k2 => ?_) (fun H' s' hD' => ?_)⟩
    · obtain ⟨y, hy, rfl⟩ := List.mem_map.mp hx
      refine ⟨rfl, ?_⟩
      refine iteT (B := Q2 H2) ?_
      refine ⟨_, rfl, _, rfl, c, _, rfl, .inl (lof (s2 _ _ (s1 _ _ hc))), rfl, flat_strs, ?_⟩
      show Q1 (.bl (inV (.str y) (cs.map V.str))) H2
      rw [inV_str, decide_eq_true (ho y hy)]
      exact k1 _ _ rfl (Same.refl _)
    · refine ⟨D, ps.map fun _ => true, rfl, lof ?_, ?_⟩
      · rw [hD']
        congr 2
        rw [filterMap_some, List.map_map, List.map_map]; rfl
      · have e : (ps.map fun _ => true).all id = true := by
          rw [List.all_map]; simp
        rw [e]
        exact q _ (s1.trans s')
end
end As

/-! ## B4 -/
namespace As
open PySem PySem.Spec PyProof.Rows L2
/-- the class Plan as the module has it -/
structure PlC (K : PySem.W.Frag) (mg : Str → Option Value) (C : Addr) : Prop where
  m : mg "Plan" = some (.ref C)
  cls : ∃ mc u6 u8, ClX.CRead K C mc ∧ ClX.CVal K C mc "MOST_COLUMNS" (.int 6) u6 ∧ ClX.CVal K C mc "MOST_TABLES" (.int 8) u8
section
variable {P : Program} {w : World} {K : PySem.W.Frag} {mg : Str → Option Value} {base : Heap}

/-- rows: the place of a pair, its first item, its second -/
abbrev PRow := Addr × Str × V
def rv (r : PRow) : V := .ref r.1
def spDist (K : PySem.W.Frag) : Sp := fun vs H Q _ => ∃ (a : Addr) (rs : List PRow), vs = [.ref a] ∧ Sq H a (rs.map rv) ∧ (∀ r ∈ rs, H r.1 = some (.tup [.str r.2.1, r.2.2])) ∧ (rs.map (·.2.1)).Nodup ∧ rs.length ≤ 8 ∧ ∀ H', Same H H' → Q (.bl true) H'
theorem sc_dist : FnScope ["pairs", "pair"] ["pairs"] (defScope s_have_distinct_names) := ⟨rfl, rfl, rfl, by decide +kernel, rfl, by decide +kernel, by decide +kernel⟩
theorem nodup_key : ∀ {xs : List Str}, xs.Nodup → (xs.map (Sum.inr : Str → Key)).Nodup := fun h => by
  rw [List.Nodup, List.pairwise_map]
  exact h.imp fun h e => h (by injection e)
theorem ok_dist {f : Addr} {fd : FuncData} (D : Df K mg "have_distinct_names" s_have_distinct_names ["pairs"] f fd) (T : Bi mg) : FnOk P w K mg base CX0 1 f fd ["pairs"] (spDist K) := by
  refine D.F.ok sc_dist (fun vs H Q E h => ?_) (fun cdv A outer s H vs Q E hr h => ?_)
  · obtain ⟨a, rs, rfl, _⟩ := h; rfl
  · obtain ⟨a, rs, rfl, hs, hrow, nd, hl, q⟩ := h
    refine ⟨_, pss_one (ps_ret (pe_cmpR op_eq (pe_callB call_lenK (by rfl) T.len PySem.boot_len (pa_cons (pe_scK (own := [("pair", 1)]) (g := gName 1) (tt := tYes) rfl sc_dist.nd (pi_either (pi_list (pv 0)) (pi_tup (pv 0)))
        (blkOk_by (N := ["pairs", "pair"]) (sc := defScope s_have_distinct_names) (by decide +kernel)) (fun _ _ _ _ _ => pg_name (i := 1) sc_dist.nd rfl (Or.inl rfl)) (fun _ _ _ _ _ => pts_nil) (fun _ _ _ _ _ => pe_ix (ixT K) (pv 1) pe_int (fun _ _ => rfl))) pa_nil))
      (pe_callB call_len_seq (by rfl) T.len PySem.boot_len (pa_cons (pv 0) pa_nil)) (nomark _))), ?_⟩
    have turn : ∀ (x : V) (H1 : Hp) (Q1 : VK) (Q2 : Hp → Prop), x ∈ rs.map rv → Same H H1 → (∀ H4, Same H1 H4 → Q1 (kV (match rs.find? (fun r => decide (rv r = x)) with | some r => (.inr r.2.1 : Key) | none => .inl 0)) H4) →
        gName 1 x (wipe (L2.start ["pairs", "pair"] [.ref a]) [1]) H1 fun σ2 H2 => wipe σ2 [1] = wipe (L2.start ["pairs", "pair"] [.ref a]) [1] ∧ tYes σ2 H2 fun b H3 => if b = true then tOp (rIxT K) (tVar 1) (tC (.int 0)) σ2 H3 Q1 else Q2 H3 := by
      intro x H1 Q1 Q2 hx s1 k
      refine ⟨rfl, ?_⟩
      refine iteT (B := Q2 H1) ?_
      cases hf : rs.find? (fun r => decide (rv r = x)) with
      | none =>
        obtain ⟨r, hr', e⟩ := List.mem_map.mp hx
        exact absurd (List.find?_eq_none.mp hf r hr') (by simp [e])
      | some r =>
        have hm := List.mem_of_find?_eq_some hf
        have he : rv r = x := by have z := List.find?_some hf; simpa using z
        subst he
        rw [hf] at k
        exact ⟨_, rfl, r.1, _, 0, .str r.2.1, rfl, rfl, tof (s1 _ _ (hrow r hm)), rfl, k _ (Same.refl _)⟩
    have keys : ((rs.map rv).map (fun x => match rs.find? (fun r => decide (rv r = x)) with | some r => (.inr r.2.1 : Key) | none => .inl 0)).Nodup := by
      have e : (rs.map rv).map (fun x => match rs.find? (fun r => decide (rv r = x)) with | some r => (.inr r.2.1 : Key) | none => .inl 0) = (rs.map (·.2.1)).map Sum.inr := by
        rw [List.map_map, List.map_map]
        refine List.map_congr_left fun r hm => ?_
        show (match rs.find? (fun r' => decide (rv r' = rv r)) with | some r => (.inr r.2.1 : Key) | none => .inl 0) = .inr r.2.1
        cases hf : rs.find? (fun r' => decide (rv r' = rv r)) with
        | none => exact absurd (List.find?_eq_none.mp hf r hm) (by simp)
        | some r' =>
          have hm' := List.mem_of_find?_eq_some hf
          have he : rv r' = rv r := by have z := List.find?_some hf; simpa using z
          have h1 := hrow r hm
          have h2 := hrow r' hm'
          have ha : r'.1 = r.1 := by injection he
          rw [ha, h1] at h2
          injection h2 with h2; injection h2 with h2; injection h2 with h2; injection h2 with h2
          show Sum.inr r'.2.1 = _
          rw [h2]
      rw [e]; exact nodup_key nd
    have fin : ∀ (D : Addr) (H' : Hp) (S : Key → Bool), Same H H' → H' D = some (SetK P w D S (rs.map rv).length) →
        tCons (tVar 0) tNil (L2.start ["pairs", "pair"] [.ref a]) H' (fun vs H1 => ∃ p ys, vs = [V.ref p] ∧ (SqL K H1 p ys ∨ SqT K H1 p ys) ∧ rEq (.int ((rs.map rv).length : Nat)) (.int (ys.length : Nat)) H1 Q) := fun D H' S s' hD => by
      refine ⟨_, rfl, a, rs.map rv, rfl, (hs.same s').or, rfl, ?_⟩
      rw [decide_eq_true rfl]
      exact q _ s'
    have small : (rs.map rv).length + 1 < scanBound := by rw [List.length_map]; exact Nat.lt_of_le_of_lt (Nat.succ_le_succ hl) (by decide)
    rcases hs with hs | hs
    · refine .inl ⟨_, rfl, a, rfl, ⟨_, lof hs⟩, fun D hD => sc_same walk_list rfl (Same.refl H) hD (fun H e => lof (e _ _ hs)) small _ keys turn (fun H' S s' hD' => ?_)⟩
      exact ⟨D, S, _, rfl, hD', fin D H' S s' hD'⟩
    · refine .inr ⟨_, rfl, a, rfl, ⟨_, tof hs⟩, fun D hD => sc_same walk_tup rfl (Same.refl H) hD (fun H e => tof (e _ _ hs)) small _ keys turn (fun H' S s' hD' => ?_)⟩
      exact ⟨D, S, _, rfl, hD', fin D H' S s' hD'⟩

def colRow (r : CRow) : PRow := (r.1, r.2.1, .int r.2.2)
def tabRow (r : TRow) : PRow := (r.1, r.2.1, .ref r.2.2.1)
def spColumns (K : PySem.W.Frag) : Sp := fun vs H Q _ => ∃ (a : Addr) (rs : List CRow), vs = [.ref a] ∧ Sq H a (rs.map cv) ∧ ColsOk H rs ∧ ∀ H', Same H H' → Q (.bl true) H'
theorem sc_columns : FnScope ["thing", "item"] ["thing"] (defScope s_are_columns) := ⟨rfl, rfl, rfl, by decide +kernel, rfl, by decide +kernel, by decide +kernel⟩
theorem ok_columns {f fl fc fh C : Addr} {fd dl dc dh : FuncData} (D : Df K mg "are_columns" s_are_columns ["thing"] f fd) (T : Bi mg) (L : PlC K mg C)
    (Dl : Df K mg "is_list" s_is_list ["thing"] fl dl) (Gl' : FnOk P w K mg base CX0 1 fl dl ["thing"] (spList K)) (Dc : Df K mg "is_column" s_is_column ["thing"] fc dc) (Gc : FnOk P w K mg base CX0 2 fc dc ["thing"] (spColumn K))
    (Dh : Df K mg "have_distinct_names" s_have_distinct_names ["pairs"] fh dh) (Gh : FnOk P w K mg base CX0 1 fh dh ["pairs"] (spDist K)) : FnOk P w K mg base CX0 3 f fd ["thing"] (spColumns K) := by
  refine D.F.ok sc_columns (fun vs H Q E h => ?_) (fun cdv A outer s H vs Q E hr h => ?_)
  · obtain ⟨a, rs, rfl, _⟩ := h; rfl
  · obtain ⟨a, rs, rfl, hs, ok, q⟩ := h
    obtain ⟨mc, u6, u8, rd, c6, c8⟩ := L.cls
    have hr1 : Room 1 _ := hr.mono (by decide)
    refine ⟨_, pss_cons (ps_if (PW.pt (pw_or (pt_not (pt_val (pcall Dl Gl' hr1 (pa_cons (pv 0) pa_nil)))) (pw_or1 (pt_not (pt_chain op_le op_le pe_int (pe_callB call_len_seq (by rfl) T.len PySem.boot_len (pa_cons (pv 0) pa_nil)) (ClX.pe_cval (pe_glob (v := .ref C) rfl L.m rfl)))))))
        (pss_one (ps_ret pe_bl)) pss_nil)
      (pss_one (ps_ret (pe_and (pe_callB (cr_all rfl) (by rfl) T.all (by decide +kernel) (pa_cons (pe_lc (own := [("item", 1)]) (g := gName 1) (tt := tYes) rfl sc_columns.nd (pi_either (pi_list (pv 0)) (pi_tup (pv 0)))
          (blkOk_by (N := ["thing", "item"]) (sc := defScope s_are_columns) (by decide +kernel)) (fun _ _ _ _ _ => pg_name (i := 1) sc_columns.nd rfl (Or.inl rfl)) (fun _ _ _ _ _ => pts_nil) (fun _ _ _ _ _ => pcall Dc Gc hr (pa_cons (pv 1) pa_nil))) pa_nil))
        (pe_one (pcall Dh Gh hr1 (pa_cons (pv 0) pa_nil)))))), ?_⟩
    refine ⟨_, rfl, a, _, rfl, hs, fun H1 s1 => ⟨true, rfl, iteF ?_⟩⟩
    have hs1 := hs.same s1
    refine ⟨_, rfl, a, _, rfl, hs1.or, 1, _, rfl, rfl, true, bl_true (by rw [List.length_map]; have := ok.len; omega), iteT ?_⟩
    refine ⟨C, mc, .int 6, u6, rfl, rd, c6, _, _, rfl, rfl, true, bl_true (by rw [List.length_map]; have := ok.len; omega), iteF ?_⟩
    have ok1 := ok.same s1
    have turn : ∀ (x : V) (H2 : Hp) (Q1 : VK) (Q2 : Hp → Prop), x ∈ rs.map cv → Same H1 H2 → (∀ y H4, some (V.bl true) = some y → Same H2 H4 → Q1 y H4) → (∀ H3, some (V.bl true) = none → Same H2 H3 → Q2 H3) →
        gName 1 x (wipe (L2.start ["thing", "item"] [.ref a]) [1]) H2 fun σ2 H3 => wipe σ2 [1] = wipe (L2.start ["thing", "item"] [.ref a]) [1] ∧ tYes σ2 H3 fun b H4 => if b = true then tCall (spColumn K) [] E0 (tCons (tVar 1) tNil) σ2 H4 Q1 else Q2 H4 := by
      intro x H2 Q1 Q2 hx s2 k1 k2
      obtain ⟨r, hm, rfl⟩ := List.mem_map.mp hx
      refine ⟨rfl, ?_⟩
      refine iteT (B := Q2 H2) ?_
      exact ⟨_, rfl, r.1, r.2.1, r.2.2, rfl, s2 _ _ (ok1.row r hm), ok.nm r hm, ok.sz r hm, fun H4 s4 => k1 _ _ rfl s4⟩
    have fin : ∀ (D : Addr) (H' : Hp), Same H1 H' → H' D = some (.lst ((rs.map cv).filterMap fun _ => some (V.bl true))) →
        rAll K [.ref D] H' (fun x H2 => ∃ c, x = .bl c ∧ if c = true then tCall (spDist K) [] E0 (tCons (tVar 0) tNil) (L2.start ["thing", "item"] [.ref a]) H2 Q else Q (.bl false) H2) := by
      intro D H' s' hD
      refine ⟨D, rs.map fun _ => true, rfl, lof ?_, ?_⟩
      · rw [hD]; congr 2; rw [filterMap_some, List.map_map, List.map_map]; rfl
      · have e : (rs.map fun _ => true).all id = true := by rw [List.all_map]; simp
        rw [e]
        refine ⟨true, rfl, iteT ⟨_, rfl, a, rs.map colRow, rfl, ?_, ?_, ?_, ?_, fun H2 s2 => q _ ((s1.trans s').trans s2)⟩⟩
        · have e : (rs.map colRow).map rv = rs.map cv := by rw [List.map_map]; rfl
          rw [e]; exact hs1.same s'
        · intro r hm
          obtain ⟨r0, hm0, rfl⟩ := List.mem_map.mp hm
          exact s' _ _ (ok1.row r0 hm0)
        · rw [List.map_map]; exact ok.nd
        · rw [List.length_map]; have := ok.len; omega
    have small : (rs.map cv).length < sizeLine := by rw [List.length_map]; exact Nat.lt_of_le_of_lt ok.len.2 (by decide)
    rcases hs1 with hs1 | hs1
    · exact .inl ⟨_, rfl, a, rfl, ⟨_, lof hs1⟩, fun D hD => lc_same walk_list rfl (Same.refl H1) hD (fun H e => lof (e _ _ hs1)) small (fun _ => some (.bl true)) turn fun H' s' hD' => fin D H' s' hD'⟩
    · exact .inr ⟨_, rfl, a, rfl, ⟨_, tof hs1⟩, fun D hD => lc_same walk_tup rfl (Same.refl H1) hD (fun H e => tof (e _ _ hs1)) small (fun _ => some (.bl true)) turn fun H' s' hD' => fin D H' s' hD'⟩

def spTables (K : PySem.W.Frag) : Sp := fun vs H Q _ => ∃ (a c : Addr) (rs : List TRow) (cs : List CRow), vs = [.ref a, .ref c] ∧ Sq H a (rs.map tv) ∧ Sq H c (cs.map cv) ∧ ColsOk H cs ∧ TabsOk H (cs.map (·.2.1)) rs ∧ ∀ H', Same H H' → Q (.bl true) H'
theorem sc_tables : FnScope ["thing", "columns", "column_names", "name", "many", "item"] ["thing", "columns"] (defScope s_are_tables) := ⟨rfl, rfl, rfl, by decide +kernel, rfl, by decide +kernel, by decide +kernel⟩
theorem ok_tables {f fl fc fh C : Addr} {fd dl dc dh : FuncData} (D : Df K mg "are_tables" s_are_tables ["thing", "columns"] f fd) (T : Bi mg) (L : PlC K mg C)
    (Dl : Df K mg "is_list" s_is_list ["thing"] fl dl) (Gl' : FnOk P w K mg base CX0 1 fl dl ["thing"] (spList K)) (Dc : Df K mg "is_table" s_is_table ["thing", "column_names"] fc dc) (Gc : FnOk P w K mg base CX0 2 fc dc ["thing", "column_names"] (spTable K))
    (Dh : Df K mg "have_distinct_names" s_have_distinct_names ["pairs"] fh dh) (Gh : FnOk P w K mg base CX0 1 fh dh ["pairs"] (spDist K)) : FnOk P w K mg base CX0 3 f fd ["thing", "columns"] (spTables K) := by
  refine D.F.ok sc_tables (fun vs H Q E h => ?_) (fun cdv A outer s H vs Q E hr h => ?_)
  · obtain ⟨a, c, rs, cs, rfl, _⟩ := h; rfl
  · obtain ⟨a, c, rs, cs, rfl, hs, hcs, okc, ok, q⟩ := h
    obtain ⟨mc, u6, u8, rd, c6, c8⟩ := L.cls
    have hr1 : Room 1 _ := hr.mono (by decide)
    refine ⟨_, pss_cons (ps_if (PW.pt (pw_or (pt_not (pt_val (pcall Dl Gl' hr1 (pa_cons (pv 0) pa_nil)))) (pw_or1 (pt_not (pt_chain op_le op_le pe_int (pe_callB call_len_seq (by rfl) T.len PySem.boot_len (pa_cons (pv 0) pa_nil)) (ClX.pe_cval (pe_glob (v := .ref C) rfl L.m rfl)))))))
        (pss_one (ps_ret pe_bl)) pss_nil)
      (pss_cons (ps_set (i := 2) sc_tables.nd rfl (Or.inr rfl) (pe_lc (own := [("name", 3), ("many", 4)]) (g := gTup K 2 (gCons (gName 3) (gCons (gName 4) gNil))) (tt := tYes) rfl sc_tables.nd (pi_either (pi_list (pv 1)) (pi_tup (pv 1)))
          (blkOk_by (N := ["thing", "columns", "column_names", "name", "many", "item"]) (sc := defScope s_are_tables) (by decide +kernel)) (fun _ _ _ _ _ => pgT K (pg_tup rfl (pgs_cons (pg_name (i := 3) sc_tables.nd rfl (Or.inl rfl)) (pgs_cons (pg_name (i := 4) sc_tables.nd rfl (Or.inl rfl)) pgs_nil))))
          (fun _ _ _ _ _ => pts_nil) (fun _ _ _ _ _ => pv 3)))
      (pss_one (ps_ret (pe_and (pe_callB (cr_all rfl) (by rfl) T.all (by decide +kernel) (pa_cons (pe_lc (own := [("item", 5)]) (g := gName 5) (tt := tYes) rfl sc_tables.nd (pi_either (pi_list (pv 0)) (pi_tup (pv 0)))
          (blkOk_by (N := ["thing", "columns", "column_names", "name", "many", "item"]) (sc := defScope s_are_tables) (by decide +kernel)) (fun _ _ _ _ _ => pg_name (i := 5) sc_tables.nd rfl (Or.inl rfl)) (fun _ _ _ _ _ => pts_nil)
          (fun _ _ _ _ _ => pcall Dc Gc hr (pa_cons (pv 5) (pa_cons (pv 2) pa_nil)))) pa_nil))
        (pe_one (pcall Dh Gh hr1 (pa_cons (pv 0) pa_nil))))))), ?_⟩
    refine ⟨_, rfl, a, _, rfl, hs, fun H1 s1 => ⟨true, rfl, iteF ?_⟩⟩
    have hs1 := hs.same s1
    refine ⟨_, rfl, a, _, rfl, hs1.or, 1, _, rfl, rfl, true, bl_true (by rw [List.length_map]; have := ok.len; omega), iteT ?_⟩
    refine ⟨C, mc, .int 8, u8, rfl, rd, c8, _, _, rfl, rfl, true, bl_true (by rw [List.length_map]; have := ok.len; omega), iteF ?_⟩
    have hcs1 := hcs.same s1
    -- the rest, behind the names' list at N
    have rest : ∀ (N : Addr) (H2 : Hp), Same H1 H2 → H2 N = some (.lst ((cs.map (·.2.1)).map V.str)) →
        tRet (tAndV (tCB (rAll K) (tCons (tLc (fun σ H R => iList K (tVar 0) σ H R ∨ iTup K (tVar 0) σ H R) (gName 5) tYes (tCall (spTable K) [] E0 (tCons (tVar 5) (tCons (tVar 2) tNil))) [5]) tNil)) (tCall (spDist K) [] E0 (tCons (tVar 0) tNil)))
          { nx := fun _ H' => Q .non H', rt := Q } ((L2.start ["thing", "columns", "column_names", "name", "many", "item"] [.ref a, .ref c]).set 2 (some (.ref N))) H2 := by
      intro N H2 s2 hN
      have hs2 := hs1.same s2
      have ok2 := ok.same (s1.trans s2)
      have turn : ∀ (x : V) (H3 : Hp) (Q1 : VK) (Q2 : Hp → Prop), x ∈ rs.map tv → Same H2 H3 → (∀ y H4, some (V.bl true) = some y → Same H3 H4 → Q1 y H4) → (∀ H4, some (V.bl true) = none → Same H3 H4 → Q2 H4) →
          gName 5 x (wipe ((L2.start ["thing", "columns", "column_names", "name", "many", "item"] [.ref a, .ref c]).set 2 (some (.ref N))) [5]) H3 fun σ2 H4 => wipe σ2 [5] = wipe ((L2.start ["thing", "columns", "column_names", "name", "many", "item"] [.ref a, .ref c]).set 2 (some (.ref N))) [5] ∧
            tYes σ2 H4 fun b H5 => if b = true then tCall (spTable K) [] E0 (tCons (tVar 5) (tCons (tVar 2) tNil)) σ2 H5 Q1 else Q2 H5 := by
        intro x H3 Q1 Q2 hx s3 k1 k2
        obtain ⟨r, hm, rfl⟩ := List.mem_map.mp hx
        refine ⟨rfl, ?_⟩
        refine iteT (B := Q2 H3) ?_
        exact ⟨_, rfl, _, rfl, r.1, r.2.1, r.2.2.1, r.2.2.2, N, cs.map (·.2.1), rfl, s3 _ _ (ok2.row r hm), s3 _ _ (ok2.prt r hm), s3 _ _ hN, ok.nm r hm, ok.two r hm, ok.own r hm, fun H4 s4 => k1 _ _ rfl s4⟩
      have fin : ∀ (D : Addr) (H' : Hp), Same H2 H' → H' D = some (.lst ((rs.map tv).filterMap fun _ => some (V.bl true))) →
          rAll K [.ref D] H' (fun x H3 => ∃ c', x = .bl c' ∧ if c' = true then tCall (spDist K) [] E0 (tCons (tVar 0) tNil) ((L2.start ["thing", "columns", "column_names", "name", "many", "item"] [.ref a, .ref c]).set 2 (some (.ref N))) H3 Q else Q (.bl false) H3) := by
        intro D H' s' hD
        refine ⟨D, rs.map fun _ => true, rfl, lof ?_, ?_⟩
        · rw [hD]; congr 2; rw [filterMap_some, List.map_map, List.map_map]; rfl
        · have e : (rs.map fun _ => true).all id = true := by rw [List.all_map]; simp
          rw [e]
          refine ⟨true, rfl, iteT ⟨_, rfl, a, rs.map tabRow, rfl, ?_, ?_, ?_, ?_, fun H3 s3 => q _ (((s1.trans s2).trans s').trans s3)⟩⟩
          · have e : (rs.map tabRow).map rv = rs.map tv := by rw [List.map_map]; rfl
            rw [e]; exact hs2.same s'
          · intro r hm
            obtain ⟨r0, hm0, rfl⟩ := List.mem_map.mp hm
            exact s' _ _ (ok2.row r0 hm0)
          · rw [List.map_map]; exact ok.nd
          · rw [List.length_map]; exact ok.len.2
      have small : (rs.map tv).length < sizeLine := by rw [List.length_map]; exact Nat.lt_of_le_of_lt ok.len.2 (by decide)
      rcases hs2 with hs2 | hs2
      · exact .inl ⟨_, rfl, a, rfl, ⟨_, lof hs2⟩, fun D hD => lc_same walk_list rfl (Same.refl H2) hD (fun H e => lof (e _ _ hs2)) small (fun _ => some (.bl true)) turn fun H' s' hD' => fin D H' s' hD'⟩
      · exact .inr ⟨_, rfl, a, rfl, ⟨_, tof hs2⟩, fun D hD => lc_same walk_tup rfl (Same.refl H2) hD (fun H e => tof (e _ _ hs2)) small (fun _ => some (.bl true)) turn fun H' s' hD' => fin D H' s' hD'⟩
    have okc1 := okc.same s1
    let nameOf : V → Option V := fun x => match cs.find? (fun r => decide (cv r = x)) with | some r => some (.str r.2.1) | none => none
    have nameAt : ∀ r ∈ cs, nameOf (cv r) = some (.str r.2.1) := fun r hm => by
      show (match cs.find? (fun r' => decide (cv r' = cv r)) with | some r => some (V.str r.2.1) | none => none) = _
      cases hf : cs.find? (fun r' => decide (cv r' = cv r)) with
      | none => exact absurd (List.find?_eq_none.mp hf r hm) (by simp)
      | some r' =>
        have he : cv r' = cv r := by have z := List.find?_some hf; simpa using z
        have ha : r'.1 = r.1 := by injection he
        have h2 := okc.row r' (List.mem_of_find?_eq_some hf)
        rw [ha, okc.row r hm] at h2
        injection h2 with h2; injection h2 with h2; injection h2 with h2; injection h2 with h2
        show some (V.str r'.2.1) = _
        rw [h2]
    have names : (cs.map cv).filterMap nameOf = (cs.map (·.2.1)).map V.str := by
      rw [List.filterMap_map, List.map_map, ← filterMap_some]
      exact filterMap_same fun r hm => nameAt r hm
    have turn : ∀ (x : V) (H3 : Hp) (Q1 : VK) (Q2 : Hp → Prop), x ∈ cs.map cv → Same H1 H3 → (∀ y H4, nameOf x = some y → Same H3 H4 → Q1 y H4) → (∀ H4, nameOf x = none → Same H3 H4 → Q2 H4) →
        gTup K 2 (gCons (gName 3) (gCons (gName 4) gNil)) x (wipe (L2.start ["thing", "columns", "column_names", "name", "many", "item"] [.ref a, .ref c]) [3, 4]) H3 fun σ2 H4 => wipe σ2 [3, 4] = wipe (L2.start ["thing", "columns", "column_names", "name", "many", "item"] [.ref a, .ref c]) [3, 4] ∧
          tYes σ2 H4 fun b H5 => if b = true then tVar 3 σ2 H5 Q1 else Q2 H5 := by
      intro x H3 Q1 Q2 hx s3 k1 k2
      obtain ⟨r, hm, rfl⟩ := List.mem_map.mp hx
      refine ⟨r.1, _, rfl, tof (s3 _ _ (okc1.row r hm)), rfl, _, _, rfl, _, _, rfl, rfl, rfl, ?_⟩
      refine iteT (B := Q2 H3) ?_
      exact ⟨_, rfl, k1 _ _ (nameAt r hm) (Same.refl _)⟩
    have small : (cs.map cv).length < sizeLine := by rw [List.length_map]; exact Nat.lt_of_le_of_lt okc.len.2 (by decide)
    rcases hcs1 with hc1 | hc1
    · exact .inl ⟨_, rfl, c, rfl, ⟨_, lof hc1⟩, fun D hD => lc_same walk_list rfl (Same.refl H1) hD (fun H e => lof (e _ _ hc1)) small nameOf turn fun H' s' hD' => rest D H' s' (by rw [hD', names])⟩
    · exact .inr ⟨_, rfl, c, rfl, ⟨_, tof hc1⟩, fun D hD => lc_same walk_tup rfl (Same.refl H1) hD (fun H e => tof (e _ _ hc1)) small nameOf turn fun H' s' hD' => rest D H' s' (by rw [hD', names])⟩
end
end As

/-! ## B5 -/
namespace As
open PySem PySem.Spec PyProof.Rows L2

/-! what a row's place tells -/
def rowFn {ρ α : Type} (rows : List ρ) (at_ : ρ → Addr) (φ : ρ → α) (d : α) : V → α := fun x => match rows.find? (fun r => decide (V.ref (at_ r) = x)) with | some r => φ r | none => d
theorem rowFn_at {ρ α : Type} {rows : List ρ} {at_ : ρ → Addr} {φ : ρ → α} {d : α} (u : ∀ r ∈ rows, ∀ r' ∈ rows, at_ r = at_ r' → φ r = φ r') {r : ρ} (hr : r ∈ rows) : rowFn rows at_ φ d (.ref (at_ r)) = φ r := by
  unfold rowFn
  cases hf : rows.find? (fun r' => decide (V.ref (at_ r') = V.ref (at_ r))) with
  | none => exact absurd (List.find?_eq_none.mp hf r hr) (by simp)
  | some r' =>
    have z := List.find?_some hf
    have he : at_ r' = at_ r := by simpa using z
    exact u r' (List.mem_of_find?_eq_some hf) r hr he
theorem ColsOk.det {H : Hp} {cs : List CRow} (ok : ColsOk H cs) : ∀ r ∈ cs, ∀ r' ∈ cs, r.1 = r'.1 → r.2 = r'.2 := fun r hr r' hr' e => by
  have h1 := ok.row r hr
  have h2 := ok.row r' hr'
  rw [e, h2] at h1
  injection h1 with h1; injection h1 with h1; injection h1 with h1 h3; injection h3 with h3
  injection h1 with h1; injection h3 with h3
  exact Prod.ext h1.symm h3.symm
theorem map_str_inj : ∀ {xs ys : List Str}, xs.map V.str = ys.map V.str → xs = ys
  | [], [], _ => rfl
  | [], _ :: _, h => nomatch h
  | _ :: _, [], h => nomatch h
  | x :: xs, y :: ys, h => by
    injection h with h1 h2
    injection h1 with h1
    rw [h1, map_str_inj h2]
theorem TabsOk.det {H : Hp} {cs : List Str} {ts : List TRow} (ok : TabsOk H cs ts) : ∀ r ∈ ts, ∀ r' ∈ ts, r.1 = r'.1 → r.2 = r'.2 := fun r hr r' hr' e => by
  have h1 := ok.row r hr
  have h2 := ok.row r' hr'
  rw [e, h2] at h1
  injection h1 with h1; injection h1 with h1; injection h1 with h1 h3; injection h3 with h3
  injection h1 with h1; injection h3 with h3
  have p1 := ok.prt r hr
  have p2 := ok.prt r' hr'
  rw [← h3, p2] at p1
  injection p1 with p1; injection p1 with p1
  exact Prod.ext h1.symm (Prod.ext h3.symm (map_str_inj p1).symm)

/-! the plan as an object -/
theorem nCT : ¬ (Str.ofString "_columns") = (Str.ofString "_tables") := by decide +kernel
theorem nCS : ¬ (Str.ofString "_columns") = (Str.ofString "_sizes") := by decide +kernel
theorem nCP : ¬ (Str.ofString "_columns") = (Str.ofString "_spans") := by decide +kernel
theorem nTS : ¬ (Str.ofString "_tables") = (Str.ofString "_sizes") := by decide +kernel
theorem nTP : ¬ (Str.ofString "_tables") = (Str.ofString "_spans") := by decide +kernel
theorem nSP : ¬ (Str.ofString "_sizes") = (Str.ofString "_spans") := by decide +kernel
def pf3 (ct tt sz : Addr) : List (Str × V) := putF (Str.ofString "_sizes") (.ref sz) (putF (Str.ofString "_tables") (.ref tt) (putF (Str.ofString "_columns") (.ref ct) []))
theorem nCH : ¬ (Str.ofString "_columns") = (Str.ofString "_shapes") := by decide +kernel
theorem nTH : ¬ (Str.ofString "_tables") = (Str.ofString "_shapes") := by decide +kernel
theorem nSH : ¬ (Str.ofString "_sizes") = (Str.ofString "_shapes") := by decide +kernel
theorem nHP : ¬ (Str.ofString "_shapes") = (Str.ofString "_spans") := by decide +kernel
def pf4 (ct tt sz sh : Addr) : List (Str × V) := putF (Str.ofString "_shapes") (.ref sh) (pf3 ct tt sz)
def pf (ct tt sz sp sh : Addr) : List (Str × V) := putF (Str.ofString "_spans") (.ref sp) (pf4 ct tt sz sh)
theorem pf_C {ct tt sz sp sh : Addr} : (pf ct tt sz sp sh).lookup (Str.ofString "_columns") = some (.ref ct) := by
  unfold pf pf4 pf3; rw [lookup_putF, if_neg nCP, lookup_putF, if_neg nCH, lookup_putF, if_neg nCS, lookup_putF, if_neg nCT, lookup_putF, if_pos rfl]
theorem pf_T {ct tt sz sp sh : Addr} : (pf ct tt sz sp sh).lookup (Str.ofString "_tables") = some (.ref tt) := by
  unfold pf pf4 pf3; rw [lookup_putF, if_neg nTP, lookup_putF, if_neg nTH, lookup_putF, if_neg nTS, lookup_putF, if_pos rfl]
theorem pf_S {ct tt sz sp sh : Addr} : (pf ct tt sz sp sh).lookup (Str.ofString "_sizes") = some (.ref sz) := by
  unfold pf pf4 pf3; rw [lookup_putF, if_neg nSP, lookup_putF, if_neg nSH, lookup_putF, if_pos rfl]
theorem pf_P {ct tt sz sp sh : Addr} : (pf ct tt sz sp sh).lookup (Str.ofString "_spans") = some (.ref sp) := by
  unfold pf; rw [lookup_putF, if_pos rfl]
theorem pf_H {ct tt sz sp sh : Addr} : (pf ct tt sz sp sh).lookup (Str.ofString "_shapes") = some (.ref sh) := by
  unfold pf pf4; rw [lookup_putF, if_neg nHP, lookup_putF, if_pos rfl]
theorem pf4_S {ct tt sz sh : Addr} : (pf4 ct tt sz sh).lookup (Str.ofString "_sizes") = some (.ref sz) := by
  unfold pf4 pf3; rw [lookup_putF, if_neg nSH, lookup_putF, if_pos rfl]
theorem pf_no {ct tt sz sp sh : Addr} {m : Str} (h1 : ¬ m = (Str.ofString "_columns")) (h2 : ¬ m = (Str.ofString "_tables")) (h3 : ¬ m = (Str.ofString "_sizes")) (h4 : ¬ m = (Str.ofString "_spans")) (h5 : ¬ m = (Str.ofString "_shapes")) : (pf ct tt sz sp sh).lookup m = none := by
  unfold pf pf4 pf3; rw [lookup_putF, if_neg h4, lookup_putF, if_neg h5, lookup_putF, if_neg h3, lookup_putF, if_neg h2, lookup_putF, if_neg h1]; rfl

def colsD (cs : List CRow) : List (Key × V) := cs.map fun r => (.inr r.2.1, .int r.2.2)
/-- the number of values of a column, or None -/
def sizeV (cs : List CRow) (z : Str) : V := (valV (colsD cs) (.inr z)).getD .non
def spanVs (cs : List CRow) (r : TRow) : List V := r.2.2.2.map (sizeV cs)
/-- at p a plan of these columns and tables -/
def shapesD (ts : List TRow) : List (Key × V) := ts.map fun r => (.inr r.2.1, .ref r.2.2.1)
def PlanAt (H : Hp) (C p : Addr) (cs : List CRow) (ts : List TRow) : Prop := ∃ (dx ct tt sz sp sh : Addr) (ks : List (Key × V)), H p = some (.ins C dx (pf ct tt sz sp sh)) ∧ H ct = some (.tup (cs.map cv)) ∧ H tt = some (.tup (ts.map tv)) ∧
  H sz = some (.dK (colsD cs)) ∧ H sp = some (.dK ks) ∧ H sh = some (.dK (shapesD ts)) ∧ Paired (fun (r : TRow) (kv : Key × V) => kv.1 = .inr r.2.1 ∧ ∃ q, kv.2 = .ref q ∧ H q = some (.tup (spanVs cs r))) ts ks
theorem PlanAt.same {H H' : Hp} {C p : Addr} {cs : List CRow} {ts : List TRow} (h : PlanAt H C p cs ts) (e : Same H H') : PlanAt H' C p cs ts := by
  obtain ⟨dx, ct, tt, sz, sp, sh, ks, h1, h2, h3, h4, h5, hs, h6⟩ := h
  exact ⟨dx, ct, tt, sz, sp, sh, ks, e _ _ h1, e _ _ h2, e _ _ h3, e _ _ h4, e _ _ h5, e _ _ hs, paired_imp (fun _ _ r => ⟨r.1, r.2.elim fun q z => ⟨q, z.1, e _ _ z.2⟩⟩) h6⟩

theorem kTup_seq {K : PySem.W.Frag} {H : Hp} {a : Addr} {xs : List V} {Q : VK} (h : Sq H a xs) (k : ∀ q H', Same H H' → H' q = some (.tup xs) → Q (.ref q) H') : kTup K (.ref a) H Q := by
  rcases h with h | h
  · exact .inl ⟨a, xs, rfl, lof h, fun q hq => k q _ (same_new hq) upd_same⟩
  · exact .inr ⟨a, xs, rfl, tof h, k a H (Same.refl H) h⟩
theorem pfl {f : Str} {v : V} {fs : List (Str × V)} {n : Nat} (h : fs.length ≤ n) : (putF f v fs).length ≤ n + 1 := Nat.le_trans (length_putF f v fs) (Nat.succ_le_succ h)
theorem valV_cols {cs : List CRow} {c : Str} (h : c ∈ cs.map (·.2.1)) : ∃ v, valV (colsD cs) (.inr c) = some v := by
  unfold valV colsD
  cases hf : (cs.map fun r => ((.inr r.2.1 : Key), V.int r.2.2)).find? (fun kv => decide (kv.1 = .inr c)) with
  | some kv => exact ⟨_, rfl⟩
  | none =>
    obtain ⟨r, hr, e⟩ := List.mem_map.mp h
    exact absurd (List.find?_eq_none.mp hf (.inr r.2.1, .int r.2.2) (List.mem_map.mpr ⟨r, hr, rfl⟩)) (by simp [e])
section
variable {H : Hp} {p C dx : Addr} {fs : List (Str × V)}
theorem ne_ins {b : Addr} {o : HO} (hp : H p = some (.ins C dx fs)) (h : H b = some o) (n : ∀ C dx fs, o ≠ .ins C dx fs) : b ≠ p := fun e => by
  subst e; rw [hp] at h; injection h with h; exact n _ _ _ h.symm
theorem Sq.rem {a : Addr} {xs : List V} (hp : H p = some (.ins C dx fs)) (h : Sq H a xs) : Sq (As.rem H p) a xs := by
  rcases h with h | h
  · exact .inl (by rw [rem_ne (ne_ins hp h (fun _ _ _ z => nomatch z))]; exact h)
  · exact .inr (by rw [rem_ne (ne_ins hp h (fun _ _ _ z => nomatch z))]; exact h)
theorem ColsOk.rem {cs : List CRow} (hp : H p = some (.ins C dx fs)) (h : ColsOk H cs) : ColsOk (As.rem H p) cs :=
  ⟨fun r hr => by rw [rem_ne (ne_ins hp (h.row r hr) (fun _ _ _ z => nomatch z))]; exact h.row r hr, h.len, h.nm, h.sz, h.nd⟩
theorem TabsOk.rem {cs : List Str} {ts : List TRow} (hp : H p = some (.ins C dx fs)) (h : TabsOk H cs ts) : TabsOk (As.rem H p) cs ts :=
  ⟨fun r hr => by rw [rem_ne (ne_ins hp (h.row r hr) (fun _ _ _ z => nomatch z))]; exact h.row r hr, fun r hr => by rw [rem_ne (ne_ins hp (h.prt r hr) (fun _ _ _ z => nomatch z))]; exact h.prt r hr, h.len, h.nm, h.two, h.own, h.nd⟩
end
theorem paired_cols {cs cs0 : List CRow} {f g : V → V} {key : V → Key} : (∀ r ∈ cs, key (cv r) = .inr r.2.1 ∧ g (cv r) = .int r.2.2) → ∀ {kvs : List (Key × V)}, Paired (fun x (kv : Key × V) => kv.1 = key x ∧ kv.2 = g x) (cs.map cv) kvs → kvs = colsD cs := by
  induction cs with
  | nil => intro _ kvs h; cases h; rfl
  | cons r t ih =>
    intro hk kvs h
    rw [List.map_cons] at h
    cases h with
    | @cons a kv l1 l2 h1 h2 =>
      have e := ih (fun r hr => hk r (List.mem_cons_of_mem _ hr)) h2
      have z := hk r List.mem_cons_self
      show kv :: l2 = (.inr r.2.1, .int r.2.2) :: colsD t
      rw [e]
      congr 1
      exact Prod.ext (h1.1.trans z.1) (h1.2.trans z.2)
theorem paired_rows {ts : List TRow} {R : V → V → Prop} {S : TRow → V → Prop} {key : V → Key} : (∀ r ∈ ts, key (tv r) = .inr r.2.1 ∧ ∀ v, R (tv r) v → S r v) → ∀ {kvs : List (Key × V)}, Paired (fun x (kv : Key × V) => kv.1 = key x ∧ R x kv.2) (ts.map tv) kvs →
    Paired (fun (r : TRow) (kv : Key × V) => kv.1 = .inr r.2.1 ∧ S r kv.2) ts kvs := by
  induction ts with
  | nil => intro _ kvs h; cases h; exact .nil
  | cons r t ih =>
    intro hk kvs h
    rw [List.map_cons] at h
    cases h with
    | @cons a kv l1 l2 h1 h2 => exact .cons ⟨h1.1.trans (hk r List.mem_cons_self).1, (hk r List.mem_cons_self).2 _ h1.2⟩ (ih (fun r hr => hk r (List.mem_cons_of_mem _ hr)) h2)
/-- the class: its fields are no attributes of it -/
structure PlF (K : PySem.W.Frag) (C : Addr) : Prop where
  cl : Cls K C
  aC : NoAttr K C (Str.ofString "_columns")
  aT : NoAttr K C (Str.ofString "_tables")
  aS : NoAttr K C (Str.ofString "_sizes")
  aP : NoAttr K C (Str.ofString "_spans")
  aH : NoAttr K C (Str.ofString "_shapes")
/-- a dict comprehension over a list or a tuple -/
theorem dcE {K : PySem.W.Frag} {b : Addr} {i : Nat} {xs : List V} {g : TG} {tt : TT} {tk tv : TE} {vs : List Nat} {σ : L2.St} {H1 : Hp} {Q : VK} (hb : Sq H1 b xs) (hσ : σ[i]? = some (some (.ref b))) (hl : xs.length < sizeLine) (f : V → Key) (nd : (xs.map f).Nodup)
    (R : V → V → Hp → Prop) (mono : ∀ x v H H', Imm H H' → R x v H → R x v H')
    (hs : ∀ x H (Q1 : V → V → Hp → Prop) (Q2 : Hp → Prop), x ∈ xs → Same H1 H → (∀ v H5, Same H H5 → R x v H5 → Q1 (kV (f x)) v H5) →
      g x (wipe σ vs) H fun σ2 H2 => wipe σ2 vs = wipe σ vs ∧ tt σ2 H2 fun b H3 => if b = true then tk σ2 H3 (fun y H4 => tv σ2 H4 fun z H5 => Q1 y z H5) else Q2 H3)
    (hd : ∀ D H' kvs, Same H1 H' → H' D = some (.dK kvs) → Paired (fun x kv => kv.1 = f x ∧ R x kv.2 H') xs kvs → Q (.ref D) H') :
    tDc (fun σ H R => iList K (tVar i) σ H R ∨ iTup K (tVar i) σ H R) g tt tk tv vs σ H1 Q := by
  rcases hb with hb | hb
  · exact .inl ⟨_, hσ, b, rfl, ⟨_, lof hb⟩, fun D hD => dc_same walk_list rfl (Same.refl H1) hD (fun H e => lof (e _ _ hb)) hl f nd R mono hs fun H' ks s' h1 h2 => hd D H' ks s' h1 h2⟩
  · exact .inr ⟨_, hσ, b, rfl, ⟨_, tof hb⟩, fun D hD => dc_same walk_tup rfl (Same.refl H1) hD (fun H e => tof (e _ _ hb)) hl f nd R mono hs fun H' ks s' h1 h2 => hd D H' ks s' h1 h2⟩
theorem paired_shapes {ts : List TRow} {g : V → V} {key : V → Key} : (∀ r ∈ ts, key (tv r) = .inr r.2.1 ∧ g (tv r) = .ref r.2.2.1) → ∀ {kvs : List (Key × V)}, Paired (fun x (kv : Key × V) => kv.1 = key x ∧ kv.2 = g x) (ts.map tv) kvs → kvs = shapesD ts := by
  induction ts with
  | nil => intro _ kvs h; cases h; rfl
  | cons r t ih =>
    intro hk kvs h
    rw [List.map_cons] at h
    cases h with
    | @cons a kv l1 l2 h1 h2 =>
      have e := ih (fun r hr => hk r (List.mem_cons_of_mem _ hr)) h2
      have z := hk r List.mem_cons_self
      show kv :: l2 = (.inr r.2.1, .ref r.2.2.1) :: shapesD t
      rw [e]
      congr 1
      exact Prod.ext (h1.1.trans z.1) (h1.2.trans z.2)
theorem TabsOk.detA {H : Hp} {cs : List Str} {ts : List TRow} (ok : TabsOk H cs ts) : ∀ r ∈ ts, ∀ r' ∈ ts, r.1 = r'.1 → r.2.2.1 = r'.2.2.1 := fun r hr r' hr' e => by rw [ok.det r hr r' hr' e]
section
variable {P : Program} {w : World} {K : PySem.W.Frag} {mg : Str → Option Value} {base : Heap}

def spInit (K : PySem.W.Frag) (C : Addr) : Sp := fun vs H Q _ => ∃ (p dx a b : Addr) (cs : List CRow) (ts : List TRow), vs = [.ref p, .ref a, .ref b] ∧ H p = some (.ins C dx []) ∧ Sq H a (cs.map cv) ∧ Sq H b (ts.map tv) ∧ ColsOk H cs ∧ TabsOk H (cs.map (·.2.1)) ts ∧
  ∀ H', (∀ c o, c ≠ p → H c = some o → H' c = some o) → PlanAt H' C p cs ts → Q .non H'
abbrev scSpans : Scope := { kind := .function, names := [(".0", .local), ("name", .local), ("names", .local), ("tuple", .globalImplicit), ("self", .free)], isGenerator := false, isCoroutine := false }
abbrev nInit : List Str := ["self", "columns", "tables", "name", "many", "names", "column"]
theorem sc_init : FnScope nInit ["self", "columns", "tables"] (defScope s_init) := ⟨rfl, rfl, rfl, by decide +kernel, rfl, by decide +kernel, by decide +kernel⟩
theorem ok_init {f fc ft C : Addr} {fd dc dt : FuncData} (F : Fun K "__init__" "Plan.__init__" s_init f fd) (T : Bi mg) (L : PlF K C)
    (Dc : Df K mg "are_columns" s_are_columns ["thing"] fc dc) (Gc : FnOk P w K mg base CX0 3 fc dc ["thing"] (spColumns K)) (Dt : Df K mg "are_tables" s_are_tables ["thing", "columns"] ft dt) (Gt : FnOk P w K mg base CX0 3 ft dt ["thing", "columns"] (spTables K)) :
    FnOk P w K mg base CX0 4 f fd ["self", "columns", "tables"] (spInit K C) := by
  refine F.ok sc_init (fun vs H Q E h => ?_) (fun cdv A outer s H vs Q E hr h => ?_)
  · obtain ⟨p, dx, a, b, cs, ts, rfl, _⟩ := h; rfl
  · obtain ⟨p, dx, a, b, cs, ts, rfl, hp, ha, hb, okc, okt, q⟩ := h
    have ht := T.tuple
    refine ⟨_, pss_cons (ps_if (pt_not (pt_val (pcall Dc Gc hr (pa_cons (pv 1) pa_nil)))) (pss_one ps_dead) pss_nil)
      (pss_cons (ps_if (pt_not (pt_val (pcall Dt Gt hr (pa_cons (pv 2) (pa_cons (pv 1) pa_nil))))) (pss_one ps_dead) pss_nil)
      (pss_cons (ps_fld (pv 0) (tupK K (pv 1)) rfl) (pss_cons (ps_fld (pv 0) (tupK K (pv 2)) rfl)
      (pss_cons (ps_fld (pv 0) (pe_dc (own := [("name", 3), ("many", 4)]) (g := gTup K 2 (gCons (gName 3) (gCons (gName 4) gNil))) (tt := tYes) rfl sc_init.nd (pi_either (piL K (pv 1)) (piT K (pv 1)))
          (blkOk_by (N := nInit) (sc := defScope s_init) (by decide +kernel)) (fun _ _ _ _ _ => pgT K (pg_tup rfl (pgs_cons (pg_name (i := 3) sc_init.nd rfl (Or.inl rfl)) (pgs_cons (pg_name (i := 4) sc_init.nd rfl (Or.inl rfl)) pgs_nil))))
          (fun _ _ _ _ _ => pts_nil) (fun _ _ _ _ _ => pv 3) (fun _ _ _ _ _ => pv 4)) rfl)
      (pss_cons (ps_fld (pv 0) (pe_dc (own := [("name", 3), ("names", 5)]) (g := gTup K 2 (gCons (gName 3) (gCons (gName 5) gNil))) (tt := tYes) rfl sc_init.nd (pi_either (piL K (pv 2)) (piT K (pv 2)))
          (blkOk_by (N := nInit) (sc := defScope s_init) (by decide +kernel)) (fun _ _ _ _ _ => pgT K (pg_tup rfl (pgs_cons (pg_name (i := 3) sc_init.nd rfl (Or.inl rfl)) (pgs_cons (pg_name (i := 5) sc_init.nd rfl (Or.inl rfl)) pgs_nil))))
          (fun _ _ _ _ _ => pts_nil) (fun _ _ _ _ _ => pv 3) (fun _ _ _ _ _ => pv 5)) rfl)
      (pss_one (ps_fld (pv 0) (pe_dc (own := [("name", 3), ("names", 5)]) (g := gTup K 2 (gCons (gName 3) (gCons (gName 5) gNil))) (tt := tYes) rfl sc_init.nd (pi_either (piL K (pv 2)) (piT K (pv 2)))
          (blkOk_by (N := nInit) (sc := defScope s_init) (by decide +kernel)) (fun _ _ _ _ _ => pgT K (pg_tup rfl (pgs_cons (pg_name (i := 3) sc_init.nd rfl (Or.inl rfl)) (pgs_cons (pg_name (i := 5) sc_init.nd rfl (Or.inl rfl)) pgs_nil))))
          (fun _ _ _ _ _ => pts_nil) (fun _ _ _ _ _ => pv 3)
          (fun _ _ _ _ _ => tupK K (pe_lc (own := [("column", 6)]) (g := gName 6) (tt := tYes) rfl sc_init.nd (piT K (pv 5)) (blkOk_by (N := nInit) (sc := relS scSpans (defScope s_init)) (by decide +kernel)) (fun _ _ _ _ _ => pg_name (i := 6) sc_init.nd rfl (Or.inl rfl))
            (fun _ _ _ _ _ => pts_nil) (fun _ _ _ _ _ => pe_dget (hu_of hr) (fldK K (pv 0)) (pv 6) (fun _ _ => rfl))))) rfl))))))), ?_⟩
    refine ⟨_, rfl, a, cs, rfl, ha, okc, fun H1 s1 => ⟨true, rfl, iteF ?_⟩⟩
    refine ⟨_, rfl, _, rfl, b, a, ts, cs, rfl, hb.same s1, ha.same s1, okc.same s1, okt.same s1, fun H2 s2 => ⟨true, rfl, iteF ?_⟩⟩
    have s12 := s1.trans s2
    -- what stands for good
    have sB : Same (As.rem H p) H2 := same_rem.trans s12
    have bp : As.rem H p p = none := rem_self
    have aB := ha.rem hp
    have bB := hb.rem hp
    have cB := okc.rem hp
    have tB := okt.rem hp
    have p2 := s12 _ _ hp
    generalize hBe : As.rem H p = B at sB bp aB bB cB tB
    -- self._columns, self._tables
    refine ⟨_, rfl, kTup_seq (aB.same sB) fun ct H3 s3 hct => ?_⟩
    refine ⟨_, rfl, p, C, dx, [], rfl, s3 _ _ p2, L.cl, L.aC, by decide, ?_⟩
    have ct3 := ne_ins (s3 _ _ p2) hct (fun _ _ _ z => nomatch z)
    have sB4 : Same B (upd H3 p (.ins C dx (putF (Str.ofString "_columns") (.ref ct) []))) := same_mut (sB.trans s3) bp
    have hct4 : (upd H3 p (.ins C dx (putF (Str.ofString "_columns") (.ref ct) []))) ct = some (.tup (cs.map cv)) := by rw [upd_ne ct3]; exact hct
    have p4 : (upd H3 p (.ins C dx (putF (Str.ofString "_columns") (.ref ct) []))) p = some (.ins C dx (putF (Str.ofString "_columns") (.ref ct) [])) := upd_same
    generalize (upd H3 p (.ins C dx (putF (Str.ofString "_columns") (.ref ct) []))) = H4 at sB4 hct4 p4 ⊢
    refine ⟨_, rfl, kTup_seq (bB.same sB4) fun tt H5 s5 htt => ?_⟩
    refine ⟨_, rfl, p, C, dx, _, rfl, s5 _ _ p4, L.cl, L.aT, Nat.lt_of_le_of_lt (pfl (Nat.le_refl 0)) (by decide), ?_⟩
    have tt5 := ne_ins (s5 _ _ p4) htt (fun _ _ _ z => nomatch z)
    have sB6 : Same B (upd H5 p (.ins C dx (putF (Str.ofString "_tables") (.ref tt) (putF (Str.ofString "_columns") (.ref ct) [])))) := same_mut (sB4.trans s5) bp
    have hct6 : (upd H5 p (.ins C dx (putF (Str.ofString "_tables") (.ref tt) (putF (Str.ofString "_columns") (.ref ct) [])))) ct = some (.tup (cs.map cv)) := by rw [upd_ne ct3]; exact s5 _ _ hct4
    have htt6 : (upd H5 p (.ins C dx (putF (Str.ofString "_tables") (.ref tt) (putF (Str.ofString "_columns") (.ref ct) [])))) tt = some (.tup (ts.map tv)) := by rw [upd_ne tt5]; exact htt
    have p6 : (upd H5 p (.ins C dx (putF (Str.ofString "_tables") (.ref tt) (putF (Str.ofString "_columns") (.ref ct) [])))) p = some (.ins C dx (putF (Str.ofString "_tables") (.ref tt) (putF (Str.ofString "_columns") (.ref ct) []))) := upd_same
    generalize (upd H5 p (.ins C dx (putF (Str.ofString "_tables") (.ref tt) (putF (Str.ofString "_columns") (.ref ct) [])))) = H6 at sB6 hct6 htt6 p6 ⊢
    have c6 := cB.same sB6
    have smallC : (cs.map cv).length < sizeLine := by rw [List.length_map]; exact Nat.lt_of_le_of_lt okc.len.2 (by decide)
    have smallT : (ts.map tv).length < sizeLine := by rw [List.length_map]; exact Nat.lt_of_le_of_lt okt.len.2 (by decide)
    have keyAt : ∀ r ∈ cs, rowFn cs (·.1) (fun r => (Sum.inr r.2.1 : Key)) (.inl 0) (cv r) = .inr r.2.1 := fun r hr => rowFn_at (fun r hr r' hr' e => by rw [okc.det r hr r' hr' e]) hr
    have valAt : ∀ r ∈ cs, rowFn cs (·.1) (fun r => V.int r.2.2) .non (cv r) = .int r.2.2 := fun r hr => rowFn_at (fun r hr r' hr' e => by rw [okc.det r hr r' hr' e]) hr
    have keyT : ∀ r ∈ ts, rowFn ts (·.1) (fun r => (Sum.inr r.2.1 : Key)) (.inl 0) (tv r) = .inr r.2.1 := fun r hr => rowFn_at (fun r hr r' hr' e => by rw [okt.det r hr r' hr' e]) hr
    have spanT : ∀ r ∈ ts, rowFn ts (·.1) (fun r => spanVs cs r) [] (tv r) = spanVs cs r := fun r hr => rowFn_at (fun r hr r' hr' e => by unfold spanVs; rw [okt.det r hr r' hr' e]) hr
    have ndC : ((cs.map cv).map (rowFn cs (·.1) (fun r => (Sum.inr r.2.1 : Key)) (.inl 0))).Nodup := by
      have e : (cs.map cv).map (rowFn cs (·.1) (fun r => (Sum.inr r.2.1 : Key)) (.inl 0)) = (cs.map (·.2.1)).map Sum.inr := by
        rw [List.map_map, List.map_map]; exact List.map_congr_left keyAt
      rw [e]; exact nodup_key okc.nd
    have ndT : ((ts.map tv).map (rowFn ts (·.1) (fun r => (Sum.inr r.2.1 : Key)) (.inl 0))).Nodup := by
      have e : (ts.map tv).map (rowFn ts (·.1) (fun r => (Sum.inr r.2.1 : Key)) (.inl 0)) = (ts.map (·.2.1)).map Sum.inr := by
        rw [List.map_map, List.map_map]; exact List.map_congr_left keyT
      rw [e]; exact nodup_key okt.nd
    have valT : ∀ r ∈ ts, rowFn ts (·.1) (fun r => V.ref r.2.2.1) .non (tv r) = .ref r.2.2.1 := fun r hr => rowFn_at (fun r hr r' hr' e => by rw [okt.det r hr r' hr' e]) hr
    -- self._sizes
    dsimp only [tSeq, sFld]
    refine dcE (K := K) (i := 1) (σ := L2.start nInit [.ref p, .ref a, .ref b]) (aB.same sB6) rfl smallC _ ndC (fun x v H => v = rowFn cs (·.1) (fun r => V.int r.2.2) .non x) (fun _ _ _ _ _ h => h) (fun x H7 Q1 Q2 hx s7 k => ?_) (fun sz H7 ks s7 hsz hks => ?_)
    · obtain ⟨r, hr, rfl⟩ := List.mem_map.mp hx
      refine ⟨r.1, _, rfl, tof (s7 _ _ (c6.row r hr)), rfl, _, _, rfl, _, _, rfl, rfl, rfl, ?_⟩
      refine iteT (B := Q2 H7) ⟨_, rfl, _, rfl, ?_⟩
      have key : kV (rowFn cs (·.1) (fun r => (Sum.inr r.2.1 : Key)) (.inl 0) (cv r)) = V.str r.2.1 := by rw [keyAt r hr]; rfl
      rw [← key]
      exact k _ _ (Same.refl _) (valAt r hr).symm
    rw [paired_cols (cs0 := cs) (f := fun x => x) (fun r hr => ⟨keyAt r hr, valAt r hr⟩) hks] at hsz
    refine ⟨_, rfl, p, C, dx, _, rfl, s7 _ _ p6, L.cl, L.aS, Nat.lt_of_le_of_lt (pfl (pfl (Nat.le_refl 0))) (by decide), ?_⟩
    have z7 := ne_ins (s7 _ _ p6) hsz (fun _ _ _ z => nomatch z)
    have sB8 : Same B (upd H7 p (.ins C dx (pf3 ct tt sz))) := same_mut (sB6.trans s7) bp
    have hct8 : (upd H7 p (.ins C dx (pf3 ct tt sz))) ct = some (.tup (cs.map cv)) := by rw [upd_ne ct3]; exact s7 _ _ hct6
    have htt8 : (upd H7 p (.ins C dx (pf3 ct tt sz))) tt = some (.tup (ts.map tv)) := by rw [upd_ne tt5]; exact s7 _ _ htt6
    have hsz8 : (upd H7 p (.ins C dx (pf3 ct tt sz))) sz = some (.dK (colsD cs)) := by rw [upd_ne z7]; exact hsz
    have p8 : (upd H7 p (.ins C dx (pf3 ct tt sz))) p = some (.ins C dx (pf3 ct tt sz)) := upd_same
    have e8 : upd H7 p (.ins C dx (putF (Str.ofString "_sizes") (.ref sz) (putF (Str.ofString "_tables") (.ref tt) (putF (Str.ofString "_columns") (.ref ct) [])))) = upd H7 p (.ins C dx (pf3 ct tt sz)) := rfl
    rw [e8]
    generalize (upd H7 p (.ins C dx (pf3 ct tt sz))) = H8 at sB8 hct8 htt8 hsz8 p8 ⊢
    -- self._shapes
    have t8 := tB.same sB8
    refine dcE (K := K) (i := 2) (σ := L2.start nInit [.ref p, .ref a, .ref b]) (bB.same sB8) rfl smallT _ ndT (fun x v H => v = rowFn ts (·.1) (fun r => V.ref r.2.2.1) .non x) (fun _ _ _ _ _ h => h) (fun x H9 Q1 Q2 hx s9 k => ?_) (fun sh H9 ks9 s9 hsh hks9 => ?_)
    · obtain ⟨r, hr, rfl⟩ := List.mem_map.mp hx
      refine ⟨r.1, _, rfl, tof (s9 _ _ (t8.row r hr)), rfl, _, _, rfl, _, _, rfl, rfl, rfl, ?_⟩
      refine iteT (B := Q2 H9) ⟨_, rfl, _, rfl, ?_⟩
      have key : kV (rowFn ts (·.1) (fun r => (Sum.inr r.2.1 : Key)) (.inl 0) (tv r)) = V.str r.2.1 := by rw [keyT r hr]; rfl
      rw [← key]
      exact k _ _ (Same.refl _) (valT r hr).symm
    rw [paired_shapes (fun r hr => ⟨keyT r hr, valT r hr⟩) hks9] at hsh
    refine ⟨_, rfl, p, C, dx, _, rfl, s9 _ _ p8, L.cl, L.aH, Nat.lt_of_le_of_lt (pfl (pfl (pfl (Nat.le_refl 0)))) (by decide), ?_⟩
    have z9 := ne_ins (s9 _ _ p8) hsh (fun _ _ _ z => nomatch z)
    have z8 := ne_ins p8 hsz8 (fun _ _ _ z => nomatch z)
    have sBA : Same B (upd H9 p (.ins C dx (pf4 ct tt sz sh))) := same_mut (sB8.trans s9) bp
    have hctA : (upd H9 p (.ins C dx (pf4 ct tt sz sh))) ct = some (.tup (cs.map cv)) := by rw [upd_ne ct3]; exact s9 _ _ hct8
    have httA : (upd H9 p (.ins C dx (pf4 ct tt sz sh))) tt = some (.tup (ts.map tv)) := by rw [upd_ne tt5]; exact s9 _ _ htt8
    have hszA : (upd H9 p (.ins C dx (pf4 ct tt sz sh))) sz = some (.dK (colsD cs)) := by rw [upd_ne z8]; exact s9 _ _ hsz8
    have hshA : (upd H9 p (.ins C dx (pf4 ct tt sz sh))) sh = some (.dK (shapesD ts)) := by rw [upd_ne z9]; exact hsh
    have pA : (upd H9 p (.ins C dx (pf4 ct tt sz sh))) p = some (.ins C dx (pf4 ct tt sz sh)) := upd_same
    have eA : upd H9 p (.ins C dx (putF (Str.ofString "_shapes") (.ref sh) (pf3 ct tt sz))) = upd H9 p (.ins C dx (pf4 ct tt sz sh)) := rfl
    rw [eA]
    generalize (upd H9 p (.ins C dx (pf4 ct tt sz sh))) = HA at sBA hctA httA hszA hshA pA ⊢
    -- self._spans
    have tA := tB.same sBA
    refine dcE (K := K) (i := 2) (σ := L2.start nInit [.ref p, .ref a, .ref b]) (bB.same sBA) rfl smallT _ ndT (fun x v H => ∃ q, v = V.ref q ∧ H q = some (.tup (rowFn ts (·.1) (fun r => spanVs cs r) [] x))) (fun x v H H' e ⟨q, h1, h2⟩ => ⟨q, h1, e _ _ h2⟩) (fun x H9 Q1 Q2 hx s9 k => ?_) (fun sp H9 ks s9 hsp hks => ?_)
    · obtain ⟨r, hr, rfl⟩ := List.mem_map.mp hx
      have t9 := tA.same s9
      refine ⟨r.1, _, rfl, tof (t9.row r hr), rfl, _, _, rfl, _, _, rfl, rfl, rfl, ?_⟩
      refine iteT (B := Q2 H9) ⟨_, rfl, ?_⟩
      have hq := t9.prt r hr
      have key : kV (rowFn ts (·.1) (fun r => (Sum.inr r.2.1 : Key)) (.inl 0) (tv r)) = V.str r.2.1 := by rw [keyT r hr]; rfl
      refine ⟨_, rfl, r.2.2.1, rfl, ⟨_, tof hq⟩, fun D hD => lc_same (B := H9) walk_tup rfl (Same.refl H9) hD (fun H e => tof (e _ _ hq)) (by rw [List.length_map]; exact Nat.lt_of_le_of_lt (okt.two r hr).2 (by decide))
        (fun y => match y with | .str c => some (sizeV cs c) | _ => none) (fun y H10 Q3 Q4 hy s10 k1 k2 => ?_) (fun H10 s10 hD10 => ?_)⟩
      · obtain ⟨c, hc, rfl⟩ := List.mem_map.mp hy
        refine ⟨rfl, ?_⟩
        refine iteT (B := Q4 H10) ?_
        obtain ⟨v, hv⟩ := valV_cols (okt.own r hr c hc)
        have sv : sizeV cs c = v := by unfold sizeV; rw [hv]; rfl
        refine ⟨_, rfl, p, C, dx, _, _, rfl, s10 _ _ (s9 _ _ pA), L.cl, L.aS, pf4_S, _, rfl, sz, v, rfl, ?_, k1 v _ (by show some (sizeV cs c) = _; rw [sv]) (Same.refl _)⟩
        have g := DGet.k (k := Sum.inr c) (s10 _ _ (s9 _ _ hszA))
        rw [hv] at g
        exact g
      · refine kTup_seq (.inl hD10) fun q H11 s11 hq11 => ?_
        rw [← key]
        refine k _ _ (s10.trans s11) ⟨q, rfl, ?_⟩
        rw [hq11, spanT r hr]
        congr 2
        rw [List.filterMap_map]
        unfold spanVs
        rw [← filterMap_some]; rfl
    refine ⟨_, rfl, p, C, dx, _, rfl, s9 _ _ pA, L.cl, L.aP, Nat.lt_of_le_of_lt (pfl (pfl (pfl (pfl (Nat.le_refl 0))))) (by decide), q _ (fun c o hc e => ?_) ?_⟩
    · rw [upd_ne hc]
      exact (sBA.trans s9) _ _ (by rw [← hBe, rem_ne hc]; exact e)
    · have p9 := s9 _ _ pA
      have up : ∀ {c : Addr} {o : HO}, H9 c = some o → (∀ C dx fs, o ≠ .ins C dx fs) → (upd H9 p (.ins C dx (pf ct tt sz sp sh))) c = some o := fun {c o} h n => by rw [upd_ne (ne_ins p9 h n)]; exact h
      refine ⟨dx, ct, tt, sz, sp, sh, ks, upd_same, up (s9 _ _ hctA) (fun _ _ _ z => nomatch z), up (s9 _ _ httA) (fun _ _ _ z => nomatch z), up (s9 _ _ hszA) (fun _ _ _ z => nomatch z), up hsp (fun _ _ _ z => nomatch z), up (s9 _ _ hshA) (fun _ _ _ z => nomatch z), ?_⟩
      refine paired_rows (R := fun x v => ∃ q, v = .ref q ∧ H9 q = some (.tup (rowFn ts (·.1) (fun r => spanVs cs r) [] x))) (S := fun r v => ∃ q, v = .ref q ∧ (upd H9 p (.ins C dx (pf ct tt sz sp sh))) q = some (.tup (spanVs cs r))) (fun r hr => ⟨keyT r hr, fun v hv => ?_⟩) hks
      obtain ⟨q, e, hq⟩ := hv
      rw [spanT r hr] at hq
      exact ⟨q, e, up hq (fun _ _ _ z => nomatch z)⟩
end
end As

/-! ## B6 -/
namespace As
open PySem PySem.Spec PyProof.Rows L2
theorem dk_get {H : Hp} {d : Addr} {kvs : List (Key × V)} {z : Str} (h : H d = some (.dK kvs)) : DGet H d (.str z) (valV kvs (.inr z)) := DGet.k (k := Sum.inr z) h
section
variable {P : Program} {w : World} {K : PySem.W.Frag} {mg : Str → Option Value} {base : Heap}
/-- a value of another type than str -/
def NoStr (K : PySem.W.Frag) (H : Hp) (x : V) : Prop := ∃ t, TyX K H x t ∧ PySem.W.kitOne K t (.type "str") = some false
def spSizeOf (K : PySem.W.Frag) (C : Addr) : Sp := fun vs H Q _ => ∃ (p : Addr) (x : V) (cs : List CRow) (ts : List TRow), vs = [.ref p, x] ∧ PlanAt H C p cs ts ∧ ((∃ z, x = .str z ∧ Q (sizeV cs z) H) ∨ (NoStr K H x ∧ Q .non H))
/-- the row of a table -/
def tabOf (ts : List TRow) (z : Str) : Option TRow := ts.find? fun r => decide (r.2.1 = z)
theorem paired_find {ts : List TRow} {S : TRow → V → Prop} {z : Str} : ∀ {kvs : List (Key × V)}, Paired (fun (r : TRow) (kv : Key × V) => kv.1 = .inr r.2.1 ∧ S r kv.2) ts kvs →
    (tabOf ts z = none ∧ valV kvs (.inr z) = none) ∨ ∃ r v, tabOf ts z = some r ∧ valV kvs (.inr z) = some v ∧ S r v := by
  induction ts with
  | nil => intro kvs h; cases h; exact .inl ⟨rfl, rfl⟩
  | cons r t ih =>
    intro kvs h
    cases h with
    | @cons a kv l1 l2 h1 h2 =>
      obtain ⟨k, v⟩ := kv
      obtain ⟨rfl, hv⟩ := h1
      by_cases e : r.2.1 = z
      · refine .inr ⟨r, v, ?_, ?_, hv⟩
        · unfold tabOf; rw [List.find?_cons]; simp [e]
        · unfold valV; rw [List.find?_cons]; simp [e]
      · have e1 : tabOf (r :: t) z = tabOf t z := by unfold tabOf; rw [List.find?_cons]; simp [e]
        have e2 : valV ((.inr r.2.1, v) :: l2) (.inr z : Key) = valV l2 (.inr z) := by
          unfold valV; rw [List.find?_cons]
          have : ¬ ((.inr r.2.1 : Key) = .inr z) := fun q => e (by injection q)
          simp [this]
        rw [e1, e2]
        exact ih h2
def spSpans (K : PySem.W.Frag) (C : Addr) : Sp := fun vs H Q _ => ∃ (p : Addr) (x : V) (cs : List CRow) (ts : List TRow), vs = [.ref p, x] ∧ PlanAt H C p cs ts ∧
  ((∃ z, x = .str z ∧ (tabOf ts z = none → Q .non H) ∧ ∀ r q, tabOf ts z = some r → H q = some (.tup (spanVs cs r)) → Q (.ref q) H) ∨ (NoStr K H x ∧ Q .non H))
theorem sc_spans : FnScope ["self", "table"] ["self", "table"] (defScope s_spans) := ⟨rfl, rfl, rfl, by decide +kernel, rfl, by decide +kernel, by decide +kernel⟩
theorem ok_spans {f C : Addr} {fd : FuncData} (F : Fun K "spans" "Plan.spans" s_spans f fd) (T : Bi mg) (L : PlF K C) : FnOk P w K mg base CX0 1 f fd ["self", "table"] (spSpans K C) := by
  refine F.ok sc_spans (fun vs H Q E h => ?_) (fun cdv A outer s H vs Q E hr h => ?_)
  · obtain ⟨p, x, cs, ts, rfl, _⟩ := h; rfl
  · obtain ⟨p, x, cs, ts, rfl, ⟨dx, ct, tt, sz, sp, sh, ks, h1, h2, h3, h4, h5, hs, h6⟩, q⟩ := h
    refine ⟨_, pss_cons (ps_if (pt_not (pt_val (pe_callB call_isi (by rfl) T.isinst (by decide +kernel) (pa_cons (pv 1) (pa_cons (pe_bltn (v := .ty "str") (by rfl) T.str (by decide +kernel) rfl) pa_nil))))) (pss_one (ps_ret pe_non)) pss_nil)
      (pss_one (ps_ret (pe_dget1 (hu_of hr) (pe_fld (pv 0) rfl) (pv 1) ⟨rfl, rfl, rfl, rfl⟩))), ?_⟩
    rcases q with ⟨z, rfl, q0, q1⟩ | ⟨⟨t, ty, k⟩, q⟩
    · refine ⟨_, rfl, _, _, _, _, true, rfl, .ty "str", .base (.str z), kstr_str, true, rfl, iteF ?_⟩
      refine ⟨_, rfl, p, C, dx, _, _, rfl, h1, L.cl, L.aP, pf_P, sp, rfl, .inl ⟨_, .inl h5⟩, _, rfl, _, dk_get h5, ?_⟩
      rcases paired_find (z := z) (S := fun r v => ∃ q, v = .ref q ∧ H q = some (.tup (spanVs cs r))) h6 with ⟨e1, e2⟩ | ⟨r, v, e1, e2, q, rfl, hq⟩
      · rw [e2]; exact q0 e1
      · rw [e2]; exact q1 r q e1 hq
    · exact ⟨_, rfl, _, _, t, _, false, rfl, .ty "str", ty, k, false, rfl, iteT q⟩

/-- the number of sides of a table, or None -/
def sidesV (ts : List TRow) (z : Str) : V := match tabOf ts z with | some r => .int (r.2.2.2.length : Nat) | none => .non
def spSides (K : PySem.W.Frag) (C : Addr) : Sp := fun vs H Q _ => ∃ (p : Addr) (x : V) (cs : List CRow) (ts : List TRow), vs = [.ref p, x] ∧ PlanAt H C p cs ts ∧ ((∃ z, x = .str z ∧ Q (sidesV ts z) H) ∨ (NoStr K H x ∧ Q .non H))
end
end As

/-! ## A6 -/
namespace As
open PySem PySem.Spec PyProof.Rows L2
theorem name_ok {z : Str} (h : nameB z = true) : PyData.strOk z = true := by
  unfold nameB at h
  rw [Bool.and_eq_true] at h
  have h2 := h.2
  rw [List.all_eq_true] at h2
  unfold PyData.strOk
  rw [Array.all_eq_true_iff_forall_mem]
  intro c hc
  have h3 := h2 c (Array.mem_toList_iff.mpr hc)
  unfold letter at h3
  rw [Bool.and_eq_true] at h3
  have h4 := of_decide_eq_true h3.2
  exact decide_eq_true (by omega)
def colD (c : Str × Int) : PyData := .tuple [.str c.1, .int c.2]
def tabD (c : Str × List Str) : PyData := .tuple [.str c.1, .tuple (c.2.map .str)]
section
open PyData
theorem strs_lay : ∀ {xs : List Str}, (∀ x ∈ xs, strOk x = true) → canLayAll0 (xs.map .str) = true
  | [], _ => by simp [canLayAll0]
  | x :: xs, h => by
    have h1 := strs_lay fun y hy => h y (List.mem_cons_of_mem _ hy)
    have h2 := h x List.mem_cons_self
    simp [canLayAll0, canLay0, h1, h2]
theorem strs_depth : ∀ {xs : List Str}, depthAll (xs.map .str) = 0
  | [] => by simp [depthAll]
  | x :: xs => by simp [depthAll, depth, strs_depth (xs := xs)]
theorem cols_lay : ∀ {xs : List (Str × Int)}, (∀ x ∈ xs, strOk x.1 = true) → canLayAll0 (xs.map colD) = true
  | [], _ => by simp [canLayAll0]
  | x :: xs, h => by
    have h1 := cols_lay fun y hy => h y (List.mem_cons_of_mem _ hy)
    have h2 := h x List.mem_cons_self
    simp [canLayAll0, canLay0, colD, h2] at h1 ⊢
    exact h1
theorem cols_depth : ∀ {xs : List (Str × Int)}, depthAll (xs.map colD) ≤ 1
  | [] => by simp [depthAll]
  | x :: xs => by
    have h1 := cols_depth (xs := xs)
    have h2 : depth (colD x) = 1 := by simp [depth, depthAll, colD]
    simp only [List.map_cons, depthAll]
    omega
theorem tabs_lay : ∀ {xs : List (Str × List Str)}, (∀ x ∈ xs, strOk x.1 = true ∧ ∀ y ∈ x.2, strOk y = true) → canLayAll0 (xs.map tabD) = true
  | [], _ => by simp [canLayAll0]
  | x :: xs, h => by
    have h1 := tabs_lay fun y hy => h y (List.mem_cons_of_mem _ hy)
    have h2 := h x List.mem_cons_self
    have h3 := strs_lay h2.2
    have e : canLay0 (tabD x) = true := by
      show canLay0 (.tuple [.str x.1, .tuple (x.2.map .str)]) = true
      simp only [canLay0, canLayAll0, h2.1, h3, Bool.and_true]
    simp only [List.map_cons, canLayAll0, e, h1, Bool.and_true]
theorem tabs_depth : ∀ {xs : List (Str × List Str)}, depthAll (xs.map tabD) ≤ 2
  | [] => by simp [depthAll]
  | x :: xs => by
    have h1 := tabs_depth (xs := xs)
    have h2 : depth (tabD x) ≤ 2 := by
      have h3 := strs_depth (xs := x.2)
      show depth (.tuple [.str x.1, .tuple (x.2.map .str)]) ≤ 2
      simp only [depth, depthAll, h3]
      omega
    simp only [List.map_cons, depthAll]
    omega
theorem shaped_tup {ds : List PyData} (h1 : canLayAll0 ds = true) (h2 : depthAll ds ≤ 2) : SeqAt.shaped (.tuple ds) = true := by
  show (canLay0 (.tuple ds) && decide (depth (.tuple ds) ≤ 64)) = true
  rw [Bool.and_eq_true]
  exact ⟨by simp only [canLay0]; exact h1, decide_eq_true (by simp only [depth]; omega)⟩
theorem shaped_lst {ds : List PyData} (h1 : canLayAll0 ds = true) (h2 : depthAll ds ≤ 2) : SeqAt.shaped (.list ds) = true := by
  show (canLay0 (.list ds) && decide (depth (.list ds) ≤ 64)) = true
  rw [Bool.and_eq_true]
  exact ⟨by simp only [canLay0]; exact h1, decide_eq_true (by simp only [depth]; omega)⟩
theorem eqvAll_dec {α : Type} [DecidableEq α] {f : α → PyData} (h : ∀ a b, eqv (f a) (f b) = decide (a = b)) : ∀ {xs ys : List α}, eqvAll (xs.map f) (ys.map f) = decide (xs = ys)
  | [], [] => by simp [eqvAll]
  | [], _ :: _ => by simp [eqvAll]
  | _ :: _, [] => by simp [eqvAll]
  | x :: xs, y :: ys => by
    simp only [List.map_cons, eqvAll, h, eqvAll_dec h]
    by_cases e : x = y
    · subst e; simp
    · simp [e]
theorem eqv_str (a b : Str) : eqv (.str a) (.str b) = decide (a = b) := by
  simp only [eqv]
  by_cases h : a = b
  · subst h; simp
  · rw [decide_eq_false h]; exact beq_eq_false_iff_ne.mpr h
theorem eqv_col (a b : Str × Int) : eqv (colD a) (colD b) = decide (a = b) := by
  obtain ⟨x, i⟩ := a
  obtain ⟨y, j⟩ := b
  have e : eqv (colD (x, i)) (colD (y, j)) = (eqv (.str x) (.str y) && ((i == j) && true)) := by simp only [colD, eqv, eqvAll]
  rw [e, eqv_str]
  by_cases h : x = y
  · subst h
    by_cases h2 : i = j
    · subst h2; simp
    · simp [h2]
  · simp [h]
theorem eqv_tab (a b : Str × List Str) : eqv (tabD a) (tabD b) = decide (a = b) := by
  obtain ⟨x, xs⟩ := a
  obtain ⟨y, ys⟩ := b
  have e : eqv (tabD (x, xs)) (tabD (y, ys)) = (eqv (.str x) (.str y) && (eqvAll (xs.map .str) (ys.map .str) && true)) := by simp only [tabD, eqv, eqvAll]
  rw [e, eqv_str, eqvAll_dec eqv_str]
  by_cases h : x = y
  · subst h
    by_cases h2 : xs = ys
    · subst h2; simp
    · simp [h2]
  · simp [h]
theorem eqv_tup {α : Type} [DecidableEq α] {f : α → PyData} (h : ∀ a b, eqv (f a) (f b) = decide (a = b)) {xs ys : List α} : eqv (.tuple (xs.map f)) (.tuple (ys.map f)) = decide (xs = ys) := by
  simp only [eqv]; exact eqvAll_dec h
theorem eqv_lst {α : Type} [DecidableEq α] {f : α → PyData} (h : ∀ a b, eqv (f a) (f b) = decide (a = b)) {xs ys : List α} : eqv (.list (xs.map f)) (.list (ys.map f)) = decide (xs = ys) := by
  simp only [eqv]; exact eqvAll_dec h
end
section
variable {K : PySem.W.Frag} {H : Hp}
theorem dp_strs : ∀ {xs : List Str}, DpAll K H (xs.map V.str) (xs.map .str)
  | [] => .nil
  | x :: _ => .cons (.str x) dp_strs
theorem dp_cols : ∀ {cs : List CRow}, (∀ r ∈ cs, H r.1 = some (.tup [.str r.2.1, .int r.2.2])) → DpAll K H (cs.map cv) ((cs.map (·.2)).map colD)
  | [], _ => .nil
  | r :: _, h => .cons (.tup (tof (h r List.mem_cons_self)) (.cons (.str _) (.cons (.int _) .nil))) (dp_cols fun x hx => h x (List.mem_cons_of_mem _ hx))
def tkey (r : TRow) : Str × List Str := (r.2.1, r.2.2.2)
theorem dp_tabs : ∀ {ts : List TRow}, (∀ r ∈ ts, H r.1 = some (.tup [.str r.2.1, .ref r.2.2.1])) → (∀ r ∈ ts, H r.2.2.1 = some (.tup (r.2.2.2.map V.str))) → DpAll K H (ts.map tv) ((ts.map tkey).map tabD)
  | [], _, _ => .nil
  | r :: _, h, h2 => .cons (.tup (tof (h r List.mem_cons_self)) (.cons (.str _) (.cons (.tup (tof (h2 r List.mem_cons_self)) dp_strs) .nil))) (dp_tabs (fun x hx => h x (List.mem_cons_of_mem _ hx)) fun x hx => h2 x (List.mem_cons_of_mem _ hx))
theorem cols_ok {cs : List CRow} (ok : ColsOk H cs) : PyData.canLayAll0 ((cs.map (·.2)).map colD) = true := cols_lay fun x hx => by
  obtain ⟨r, hr, rfl⟩ := List.mem_map.mp hx
  exact name_ok (ok.nm r hr)
theorem tabs_ok {cs : List CRow} {ts : List TRow} (okc : ColsOk H cs) (ok : TabsOk H (cs.map (·.2.1)) ts) : PyData.canLayAll0 ((ts.map tkey).map tabD) = true := tabs_lay fun x hx => by
  obtain ⟨r, hr, rfl⟩ := List.mem_map.mp hx
  refine ⟨name_ok (ok.nm r hr), fun y hy => ?_⟩
  obtain ⟨c, hc, rfl⟩ := List.mem_map.mp (ok.own r hr y hy)
  exact name_ok (okc.nm c hc)
/-- two tuples of columns, two lists of columns, compared -/
theorem cmp_colsT {cs cs' : List CRow} {a b : Addr} {Q : VK} (h : H a = some (.tup (cs.map cv))) (h' : H b = some (.tup (cs'.map cv))) (ok : ColsOk H cs) (ok' : ColsOk H cs') (q : Q (.bl (decide (cs.map (·.2) = cs'.map (·.2)))) H) : rEqD K (.ref a) (.ref b) H Q :=
  ⟨_, _, .tup (tof h) (dp_cols ok.row), .tup (tof h') (dp_cols ok'.row), shaped_tup (cols_ok ok) (Nat.le_trans cols_depth (by decide)), shaped_tup (cols_ok ok') (Nat.le_trans cols_depth (by decide)), by rw [eqv_tup eqv_col]; exact q⟩
theorem cmp_tabsT {cs cs' : List CRow} {ts ts' : List TRow} {a b : Addr} {Q : VK} (h : H a = some (.tup (ts.map tv))) (h' : H b = some (.tup (ts'.map tv))) (okc : ColsOk H cs) (okc' : ColsOk H cs') (ok : TabsOk H (cs.map (·.2.1)) ts) (ok' : TabsOk H (cs'.map (·.2.1)) ts')
    (q : Q (.bl (decide (ts.map tkey = ts'.map tkey))) H) : rEqD K (.ref a) (.ref b) H Q :=
  ⟨_, _, .tup (tof h) (dp_tabs ok.row ok.prt), .tup (tof h') (dp_tabs ok'.row ok'.prt), shaped_tup (tabs_ok okc ok) tabs_depth, shaped_tup (tabs_ok okc' ok') tabs_depth, by rw [eqv_tup eqv_tab]; exact q⟩
end
end As

/-! ## B7p -/
namespace As
open PySem PySem.Spec PyProof.Rows L2
section
variable {P : Program} {w : World} {K : PySem.W.Frag} {mg : Str → Option Value} {base : Heap}
/-- the two properties -/
theorem sc_pcols : FnScope ["self"] ["self"] (defScope s_columns) := ⟨rfl, rfl, rfl, by decide +kernel, rfl, by decide +kernel, by decide +kernel⟩
theorem sc_ptabs : FnScope ["self"] ["self"] (defScope s_tables) := ⟨rfl, rfl, rfl, by decide +kernel, rfl, by decide +kernel, by decide +kernel⟩
theorem ok_pcols {f C : Addr} {fd : FuncData} (F : Fun K "columns" "Plan.columns" s_columns f fd) (L : PlF K C) : FnOk P w K mg base CX0 1 f fd ["self"] (getSp C (Str.ofString "_columns")) := by
  refine F.ok sc_pcols (fun vs H Q E h => ?_) (fun cdv A outer s H vs Q E hr h => ?_)
  · obtain ⟨a, dx, fs, v, rfl, _⟩ := h; rfl
  · obtain ⟨a, dx, fs, v, rfl, ea, l, q⟩ := h
    exact ⟨_, pss_one (ps_ret (pe_fld (pv 0) rfl)), _, rfl, a, C, dx, fs, v, rfl, ea, L.cl, L.aC, l, q⟩
theorem ok_ptabs {f C : Addr} {fd : FuncData} (F : Fun K "tables" "Plan.tables" s_tables f fd) (L : PlF K C) : FnOk P w K mg base CX0 1 f fd ["self"] (getSp C (Str.ofString "_tables")) := by
  refine F.ok sc_ptabs (fun vs H Q E h => ?_) (fun cdv A outer s H vs Q E hr h => ?_)
  · obtain ⟨a, dx, fs, v, rfl, _⟩ := h; rfl
  · obtain ⟨a, dx, fs, v, rfl, ea, l, q⟩ := h
    exact ⟨_, pss_one (ps_ret (pe_fld (pv 0) rfl)), _, rfl, a, C, dx, fs, v, rfl, ea, L.cl, L.aT, l, q⟩
end
end As

/-! ## B6t -/
namespace As
open PySem PySem.Spec PyProof.Rows L2
section
variable {P : Program} {w : World} {K : PySem.W.Frag} {mg : Str → Option Value} {base : Heap}
theorem sc_sides : FnScope ["self", "table", "spans"] ["self", "table"] (defScope s_sides) := ⟨rfl, rfl, rfl, by decide +kernel, rfl, by decide +kernel, by decide +kernel⟩
theorem ok_sides {f fs C : Addr} {fd ds : FuncData} (F : Fun K "sides" "Plan.sides" s_sides f fd) (T : Bi mg) (L : PlF K C) (Fs : Fun K "spans" "Plan.spans" s_spans fs ds) (bs : Binds K ds ["self", "table"] []) (ms : Meth K C "spans" fs) :
    FnOk P w K mg base CX0 2 f fd ["self", "table"] (spSides K C) := by
  have Gs : FnOk P w K mg base CX0 1 fs ds ["self", "table"] (spSpans K C) := ok_spans Fs T L
  refine F.ok sc_sides (fun vs H Q E h => ?_) (fun cdv A outer s H vs Q E hr h => ?_)
  · obtain ⟨p, x, cs, ts, rfl, _⟩ := h; rfl
  · obtain ⟨p, x, cs, ts, rfl, pl, q⟩ := h
    obtain ⟨dx, ct, tt, sz, sp, sh, ks, h1, _⟩ := id pl
    refine ⟨_, pss_cons (ps_set (i := 2) sc_sides.nd rfl (Or.inl rfl) (pe_meth (pv 0) L.cl ms Gs hr bs .nil pass0 (pa_cons (pv 1) pa_nil)))
      (pss_cons (ps_if (pt_cmp (pc_isN (pv 2))) (pss_one (ps_ret pe_non)) pss_nil)
      (pss_one (ps_ret (pe_callB call_len_seq (by rfl) T.len PySem.boot_len (pa_cons (pv 2) pa_nil))))), ?_⟩
    have no : (pf ct tt sz sp sh).lookup (Str.ofString "spans") = none := pf_no (by decide +kernel) (by decide +kernel) (by decide +kernel) (by decide +kernel) (by decide +kernel)
    refine ⟨_, rfl, p, dx, _, rfl, h1, no, _, rfl, p, x, cs, ts, rfl, pl, ?_⟩
    rcases q with ⟨z, rfl, q⟩ | ⟨ns, q⟩
    · refine .inl ⟨z, rfl, fun e => ?_, fun r a e ha => ?_⟩
      · refine ⟨_, rfl, true, rfl, iteT ?_⟩
        have z' : sidesV ts z = .non := by unfold sidesV; rw [e]
        rw [z'] at q
        exact q
      · refine ⟨_, rfl, false, rfl, iteF ⟨_, rfl, a, _, rfl, .inr (tof ha), ?_⟩⟩
        have z' : sidesV ts z = .int ((spanVs cs r).length : Nat) := by unfold sidesV; rw [e]; unfold spanVs; rw [List.length_map]
        rw [z'] at q
        exact q
    · exact .inr ⟨ns, _, rfl, true, rfl, iteT q⟩
end
end As

/-! ## B7 -/
namespace As
open PySem PySem.Spec PyProof.Rows L2
/-- isinstance of the class -/
structure IsC (K : PySem.W.Frag) (C : Addr) : Prop where
  ha : PySem.W.findIn K (.ref C) "__class__" = some (some (.builtin "object.__class__"))
  hn : PySem.W.specialIn K (.builtin "object.__class__") "__get__" = some (some (.builtin "getset_descriptor.__get__"))
  htk : PySem.W.takesIn K (.builtin "object.__class__") = some true
  hm : PySem.W.mroIn K C (.type "object") = some true
  lst : PySem.W.kitOne K (.type "list") (.ref C) = some false
theorem kit_self {K : PySem.W.Frag} {C : Addr} : PySem.W.kitOne K (.ref C) (.ref C) = some true := by
  unfold PySem.W.kitOne
  rw [if_pos (by simp)]
section
variable {P : Program} {w : World} {K : PySem.W.Frag} {mg : Str → Option Value} {base : Heap}
/-- two plans compared, or a plan and a list -/
def spEqP (C : Addr) : Sp := fun vs H Q _ => ∃ (p b : Addr) (cs : List CRow) (ts : List TRow), vs = [.ref p, .ref b] ∧ PlanAt H C p cs ts ∧ ColsOk H cs ∧ TabsOk H (cs.map (·.2.1)) ts ∧
  ((∃ cs' ts', PlanAt H C b cs' ts' ∧ ColsOk H cs' ∧ TabsOk H (cs'.map (·.2.1)) ts' ∧ Q (.bl (decide (cs.map (·.2) = cs'.map (·.2)) && decide (ts.map tkey = ts'.map tkey))) H) ∨ ((∃ zs, H b = some (.lst zs)) ∧ Q (.bl false) H))
theorem sc_eq : FnScope ["self", "other"] ["self", "other"] (defScope s_eq) := ⟨rfl, rfl, rfl, by decide +kernel, rfl, by decide +kernel, by decide +kernel⟩
theorem ok_eq {f C : Addr} {fd : FuncData} (F : Fun K "__eq__" "Plan.__eq__" s_eq f fd) (T : Bi mg) (L : PlF K C) (G : IsC K C) (hC : mg "Plan" = some (.ref C)) : FnOk P w K mg base CX0 1 f fd ["self", "other"] (spEqP C) := by
  refine F.ok sc_eq (fun vs H Q E h => ?_) (fun cdv A outer s H vs Q E hr h => ?_)
  · obtain ⟨p, b, cs, ts, rfl, _⟩ := h; rfl
  · obtain ⟨p, b, cs, ts, rfl, ⟨dx, ct, tt, sz, sp, sh, ks, h1, h2, h3, h4, h5, hs, h6⟩, okc, okt, q⟩ := h
    refine ⟨_, pss_one (ps_ret (pe_and (pe_callB call_isi (by rfl) T.isinst (by decide +kernel) (pa_cons (pv 1) (pa_cons (pe_glob (v := .ref C) rfl hC rfl) pa_nil)))
      (pe_and (pe_cmpR (op_eqD (hu64 hr)) (pe_fld (pv 0) rfl) (pe_fld (pv 1) rfl) (nomark _)) (pe_one (pe_cmpR (op_eqD (hu64 hr)) (pe_fld (pv 0) rfl) (pe_fld (pv 1) rfl) (nomark _)))))), ?_⟩
    rcases q with ⟨cs', ts', ⟨dx', ct', tt', sz', sp', sh', ks', g1, g2, g3, g4, g5, gs, g6⟩, okc', okt', q⟩ | ⟨⟨zs, hb⟩, q⟩
    · refine ⟨_, rfl, _, _, .ref C, _, true, rfl, .own C, .base (.ins g1 L.cl G.ha G.hn G.htk G.hm), kit_self, true, rfl, iteT ?_⟩
      refine ⟨_, rfl, p, C, dx, _, _, rfl, h1, L.cl, L.aC, pf_C, _, rfl, b, C, dx', _, _, rfl, g1, L.cl, L.aC, pf_C, cmp_colsT h2 g2 okc okc' ⟨_, rfl, ?_⟩⟩
      cases hd : decide (cs.map (·.2) = cs'.map (·.2)) with
      | false =>
        rw [hd] at q
        exact iteF q
      | true =>
        rw [hd, Bool.true_and] at q
        exact iteT ⟨_, rfl, p, C, dx, _, _, rfl, h1, L.cl, L.aT, pf_T, _, rfl, b, C, dx', _, _, rfl, g1, L.cl, L.aT, pf_T, cmp_tabsT h3 g3 okc okc' okt okt' q⟩
    · exact ⟨_, rfl, _, _, .type "list", _, false, rfl, .own C, .base (.lst hb), G.lst, false, rfl, iteF q⟩
end
end As

/-! ## A13 -/
set_option maxHeartbeats 2000000
namespace As
open PySem PySem.Spec PyProof.Rows L2
/-- an error of the class cls, with d as its own dict -/
def ExcO (a : Addr) (cls : Value) (d : Option Addr) : HO := .ext fun h => ∃ oe vs, h.get? a = some oe ∧ Zc cls d oe ∧ oe.data = .fields vs
section
variable {X : Cx} {pins : List (Addr × Obj)} {σ : List (Option V)} {H : Hp} {s : Shared}
theorem inv_tell {a : Addr} {oe : Obj} {cls : Value} {d : Option Addr} (I : Inv X ((a, oe) :: pins) σ H s) (hs0 : X.s_0.heap.get? a = none) (np : ∀ p ∈ X.pn ++ pins, p.1 ≠ a) (hz : Zc cls d oe) (hd : ∃ vs, oe.data = .fields vs) : Inv X pins σ (upd H a (ExcO a cls d)) s := by
  obtain ⟨g1, g2, g3, g4, g5⟩ := I.pin (a, oe) (List.mem_append_right _ List.mem_cons_self)
  dsimp only at g1 g2 g3 g4 g5
  refine ⟨I.ok, I.os, I.bare, ⟨I.base.keep, I.base.slot, fun b o e n hx => ?_, I.base.there, fun b xs e => ?_, fun b o u e => ?_, fun b ps e => ?_⟩, I.loc, I.cell, ?_, fun x c e => ?_, fun p hp => ?_, fun b o e => ?_, I.len⟩
  · rw [upd_ne (fun z => by subst z; rw [hs0] at e; cases e)]; exact I.base.free b o e n hx
  · have q := I.base.tups b xs e
    rw [upd_ne (ne_of_none q g2)]; exact q
  · have q := I.base.frzs b o u e
    rw [upd_ne (ne_of_none q g2)]; exact q
  · obtain ⟨more, q⟩ := I.base.tbls b ps e
    exact ⟨more, by rw [upd_ne (ne_of_none q g2)]; exact q⟩
  · rw [upd_ne (Ne.symm g3)]; exact I.free
  · have hne : c ≠ a := fun z => by
      subst z
      obtain ⟨v, o, ho, hv⟩ := I.cell x c e
      rw [g1] at ho; cases ho
      exact g5 _ hv
    rw [upd_ne hne]; exact I.freeC x c e
  · have q := I.pin p (by
      rcases List.mem_append.mp hp with z | z
      · exact List.mem_append_left _ z
      · exact List.mem_append_right _ (List.mem_cons_of_mem _ z))
    exact ⟨q.1, by rw [upd_ne (np p hp)]; exact q.2.1, q.2.2⟩
  · by_cases hb : b = a
    · subst hb
      rw [upd_same] at e; cases e
      obtain ⟨vs, hv⟩ := hd
      exact ⟨⟨oe, vs, g1, hz, hv⟩, ⟨_, g1⟩, fun h1 h2 ⟨oe', vs', e', r⟩ k => ⟨oe', vs', k _ e', r⟩⟩
    · rw [upd_ne hb] at e
      exact (I.hok b o e).stay (fun c v _ q => q) (fun c q => by rw [upd_ne (ne_of_none q g2)]; exact q) fun c xs q => by rw [upd_ne (ne_of_none q g2)]; exact q
end
/-- what an except clause with a name does; behind it the error is known -/
def wHold (K : PySem.W.Frag) (c : Value) (i : Nat) (ts : Addr → Value → Option Addr → TS) (Wout : WX) (D : Ends) : WX := fun cls d σ H =>
  ∃ b, PySem.W.exmOne K cls c = some b ∧ (b = true → ∀ a, H a = none → ts a cls d { nx := fun σ' H' => H' a = none → D.nx (σ'.set i none) (upd H' a (ExcO a cls d)), rt := D.rt, bk := fun σ' H' => D.bk (σ'.set i none) H', ct := fun σ' H' => D.ct (σ'.set i none) H' } (σ.set i (some (.ref a))) H) ∧
    (b = false → Wout cls d σ H)
section
variable {X : Cx} {pins : List (Addr × Obj)} {σ : List (Option V)} {H : Hp} {sI : Shared} {B : Heap} {a : Addr}
/-- the error at a came after the def began: nothing that the def knew of -/
structure Came (X : Cx) (pins : List (Addr × Obj)) (a : Addr) : Prop where
  start : X.s_0.heap.get? a = none
  pin : ∀ p ∈ X.pn ++ pins, p.1 ≠ a
  loc : a ≠ X.env.locals
  fs : a ∉ X.fs
theorem came (I : Inv X pins σ H sI) (hs : X.stack = X.env :: X.outer) (hf : X.env.frame = some X.env.locals) (hex : X.ex = []) (nb : ∀ b o, sI.heap.get? b = some o → b ∉ frs X.stack → B.get? b = some o) (nB : B.get? a = none) (nfr : a ∉ frs X.stack) : Came X pins a := by
  have never : ∀ o, sI.heap.get? a ≠ some o := fun o e => by
    have e' := nb a o e nfr
    rw [nB] at e'; cases e'
  have inl : ∀ env ∈ X.env :: X.outer, env.frame ≠ some a := fun env m e => nfr (by rw [hs]; exact List.mem_filterMap.mpr ⟨env, m, e⟩)
  refine ⟨?_, fun p hp e => never p.2 (e ▸ (I.pin p hp).1), fun e => inl _ List.mem_cons_self (e ▸ hf), fun m => ?_⟩
  · cases e : X.s_0.heap.get? a with
    | none => rfl
    | some o =>
      obtain ⟨o', e'⟩ := I.base.there a o e (by rw [hex]; simp)
      exact (never o' e').elim
  · obtain ⟨env, m', e⟩ := List.mem_filterMap.mp m
    exact inl env (List.mem_cons_of_mem _ m') e
/-- no frame is an error -/
theorem no_frame {l : List Env} {Z : Obj → Prop} {h : Heap} (fl : HandSPX.FlyingZ B l a Z h) : a ∉ frs l := fun m => by
  obtain ⟨oe, vs, he, _, hd⟩ := fl.there
  obtain ⟨_, o, ho, nf⟩ := fl.2.2.1.mem m
  cases he.symm.trans ho
  exact nf _ hd
/-- behind the suite its name goes, and the error is told of -/
theorem suite_end {i : Nat} {n : Str} {pos : Pos} {oe : Obj} {cls : Value} {d : Option Addr} {D : Ends} {f : Flow} {s6 : Shared} (ok : X.Ok) (C : Came X pins a) (hz : Zc cls d oe) (hd : ∃ vs, oe.data = .fields vs) (hN : X.N.Nodup) (hi : X.N[i]? = some n) (hl : X.env.kindOf n = some .local)
    (h : SP (X.suite a ((a, oe) :: (X.pn ++ pins))) [] { nx := fun σ' H' => H' a = none → D.nx (σ'.set i none) (upd H' a (ExcO a cls d)), rt := D.rt, bk := fun σ' H' => D.bk (σ'.set i none) H', ct := fun σ' H' => D.ct (σ'.set i none) H' } f s6) :
    wpAny (model X.prog X.w) X.A (do bindName X.env n .none; unbindBehindTheSuite X.env n pos) (fun _ s7 => SP X pins D f s7) X.xe s6 := by
  match f, h with
  | .next, ⟨σ6, H6, S6, q⟩ =>
    have told := S6.pin (a, oe) (List.mem_append_left _ List.mem_cons_self)
    have I6 : Inv X ((a, oe) :: pins) σ6 H6 s6 := (S6.unsuite ok).pins_of fun p hp => by
      rcases List.mem_cons.mp hp with rfl | m
      · exact ⟨told.1, told.2.1, C.loc, C.fs, told.2.2.2.2⟩
      · exact (S6.unsuite ok).pin p (List.mem_append_right _ m)
    exact gone_ok I6 hN hi hl fun s7 J => ⟨_, _, inv_tell J C.start C.pin hz hd, q told.2.1⟩
  | .brk, ⟨σ6, H6, S6, q⟩ => exact gone_ok (S6.unsuite ok) hN hi hl fun s7 J => ⟨_, _, J, q⟩
  | .cont, ⟨σ6, H6, S6, q⟩ => exact gone_ok (S6.unsuite ok) hN hi hl fun s7 J => ⟨_, _, J, q⟩
  | .ret u, ⟨v, σ6, H6, S6, rv, q⟩ => exact gone_ok (S6.unsuite ok) hN hi hl fun s7 J => ⟨_, _, _, J, rv, q⟩
end
section
variable {X : Cx} {x n : Str} {c : Value} {i : Nat} {body suite : List Stmt} {b₀ : Stmt} {np pos pos' : Pos} {tb : WX → TS} {ts : Addr → Value → Option Addr → TS} {Wout : WX}
theorem class_named {pins : List (Addr × Obj)} {σ : List (Option V)} {H : Hp} {s : Shared} {Q : Value → Shared → Prop} {E : Value → Shared → Prop} (I : Inv X pins σ H s) (hc : L2.Names X x c) (q : Q c s) : wpAny (model X.prog X.w) X.A (eval (.Name x np) X.env) Q E s := by
  rcases hc with ⟨g, nd, m | ⟨m, v, nn⟩⟩
  · exact ld_glob I g m q nd
  · exact ld_blt I g m v q nn nd
/-- try .. except x as n: .., and the error stays known behind it -/
theorem ps_try_hold (hs : X.stack = X.env :: X.outer) (hf : X.env.frame = some X.env.locals) (hex : X.ex = []) (hN : X.N.Nodup) (hi : X.N[i]? = some n) (hln : X.env.kindOf n = some .local) (hc : L2.Names X x c) (tk : Takes X Wout)
    (hb : ∀ (W : WX) (pn : List (Addr × Obj)) (xe : Value → Shared → Prop), Takes (X.tr pn xe) W → PassesOwn (model X.prog X.w) X.A X.env xe → PSs (X.tr pn xe) body (tb W))
    (hsu : ∀ (a : Addr) (oe : Obj) (cls : Value) (d : Option Addr) (pn : List (Addr × Obj)), Zc cls d oe → (∃ vs, oe.data = .fields vs) → PSs (X.suite a ((a, oe) :: pn)) (b₀ :: suite) (ts a cls d)) :
    PS X (.Try body [.ExceptHandler (some (.Name x np)) (some n) (b₀ :: suite) pos'] [] [] pos) (fun D σ H => tb (wHold X.K c i ts Wout D) D σ H) := by
  refine ⟨fun pins s σ H D I h => wpAny_Try_except ?_⟩
  have frames : X.A.frames = some (X.env :: X.outer) := I.ok.frames.trans (congrArg some hs)
  refine wpAny_mono ((hb (wHold X.K c i ts Wout D) (X.pn ++ pins) _ (fun u s1 out => ?caught) PassesOwn.looking).run [] s σ H D (I.toTry _) h) (fun f s1 done => ?through) fun e s1 z => z
  case through =>
    match f, done with
    | .next, ⟨σ1, H1, J, q⟩ => exact wpAny_execs_nil ⟨σ1, H1, J.ofTry I.ok, q⟩
    | .brk, ⟨σ1, H1, J, q⟩ => exact ⟨σ1, H1, J.ofTry I.ok, q⟩
    | .cont, ⟨σ1, H1, J, q⟩ => exact ⟨σ1, H1, J.ofTry I.ok, q⟩
    | .ret u, ⟨v, σ1, H1, J, rv, q⟩ => exact ⟨v, σ1, H1, J.ofTry I.ok, rv, q⟩
  case caught =>
    obtain ⟨a, B, sI, pins', σ1, H1, cls, d, rfl, J0, nb, up, sky, na, os, ag, b, fits, yes, no⟩ := out
    have J := J0.ofTry I.ok
    rw [show (X.tr (X.pn ++ pins) _).stack = X.env :: X.outer from hs] at sky
    refine Sky.land Zc.steady frames hf sky fun h2 fl2 up2 => ?_
    have nfr : a ∉ frs X.stack := by rw [hs]; exact no_frame fl2
    have C : Came X pins a := came J hs hf hex nb fl2.2.1 nfr
    have J2 : Inv X pins σ1 H1 { s1 with heap := h2 } := J.landed nb fl2.1 (up.trans up2) os ag
    obtain ⟨o2, v2, at2, z2, f2⟩ := fl2.there
    have S2 := J2.suite at2 f2 na C.loc C.fs
    refine wpAny_handleBy_cons (codeAny_handlers_test ?_) (fun z => nomatch z)
    refine class_named (X := X.suite a ((a, o2) :: (X.pn ++ pins))) S2 hc ?_
    refine (PySem.W.exm_one (M := model X.prog X.w) J2.kIn (fun A Q E s' k q => wpAny_typeOf_ref (k _ _ at2) (by rw [z2.1]; exact q)) fits).here ?_
    cases b with
    | true =>
      refine codeAny_handlers_suite_as (HandSPX.lands_againZ fl2 fun h3 fl3 up3 => ?_)
      have J3 : Inv X pins σ1 H1 { s1 with heap := h3 } := J.landed nb fl3.1 ((up.trans up2).trans up3) os ag
      obtain ⟨o3, v3, at3, z3, f3⟩ := fl3.there
      refine store_ok (X := X.suite a ((a, o3) :: (X.pn ++ pins))) (v := .ref a) (J3.suite at3 f3 na C.loc C.fs) hN hi (.inl hln) rfl (fun s4 S4 => ?_) (.inr hln)
      exact wpAny_mono ((hsu a o3 cls d (X.pn ++ pins) z3 ⟨_, f3⟩).run [] s4 _ H1 _ S4 (yes rfl a na)) (fun f s5 done => suite_end I.ok C z3 ⟨_, f3⟩ hN hi hln done) fun _ _ z => z.elim
    | false =>
      show wpAny _ X.A (handleBy (.ref a) X.env []) _ _ _
      refine wpAny_handleBy_nil ?_
      obtain ⟨_, _, _, oe, vs, T, _, _, he, _, hd, h1, _⟩ := id fl2
      unfold PySem.passOn
      refine wpAny_bind (wpAny_field he hd h1 ?_)
      rw [if_neg (by simp)]
      have out : ∀ h3, HandSPX.HeldZ B (X.env :: X.outer) a (Zc cls d) X.env.locals h3 → h2.UpToSlots h3 → X.xe (.ref a) { s1 with heap := h3 } := fun h3 held up3 =>
        tk _ _ ⟨a, B, sI, pins, σ1, H1, cls, d, rfl, J, nb, (up.trans up2).trans up3, .inr (.inr (hs ▸ held)), na, os, ag, no rfl⟩
      rw [hf]
      first
        | exact wpAny_bind (wpAny_pure (wpAny_bind (HandSPX.setFlight_upZ fl2 fun h3 held up3 => wpAny_throw (out h3 held up3))))
        | exact wpAny_bind (HandSPX.setFlight_upZ fl2 fun h3 held up3 => wpAny_throw (out h3 held up3))
end
/-- isinstance(e, c), e an error that is known -/
def rIsX (K : PySem.W.Frag) : List V → Hp → VK → Prop := fun xs H Q => ∃ (a D : Addr) (c : V) (cv : Value) (b : Bool), xs = [.ref a, c] ∧ H a = some (ExcO a (.ref D) none) ∧ ExcC K D ∧ (∀ u, RelV c u → u = cv) ∧ PySem.W.kitOne K (.ref D) cv = some b ∧ Q (.bl b) H
theorem inst_at {h : Heap} {a D : Addr} {oe : Obj} {vs : Array Value} (e : h.get? a = some oe) (z : Zc (.ref D) none oe) (f : oe.data = .fields vs) : PySem.W.InstAt h a oe D none := by
  rcases oe with ⟨k1, k2, k3, k4⟩
  cases (show k1 = _ from z.1)
  cases (show k2 = _ from z.2)
  cases (show k3 = _ from f)
  exact ⟨e, rfl, rfl, trivial⟩
theorem call_isX {X : Cx} : CallR X (.builtin "isinstance") (rIsX X.K) := by
  rintro pins s σ H xs us Q I r ⟨a, D, c, cv, b, rfl, ha, C, only, fits, q⟩
  obtain ⟨u1, u2, rfl, r1, r2⟩ := vals2 r
  cases (show u1 = Value.ref a from r1)
  cases only u2 r2
  obtain ⟨oe, vs, at_, z, f⟩ := (I.hok a _ ha).1
  exact PySem.W.kia_one (PySem.W.handS_kitx_exc C.hg C.hk C.hs C.hd C.ha C.hn C.ht C.hm) I.kIn (inst_at at_ z f) fits (fun z => nomatch z) fun tk => ⟨.bl b, H, I.tok tk, rfl, q⟩
end As

/-! ## A12 -/
namespace As
open PySem PySem.Spec PyProof.Rows L2 RZ
theorem walk_zipT {K : PySem.W.Frag} {a b : Addr} {xs ys : List V} {n : Nat} (hn : n = min xs.length ys.length) : Walk (ItzT K a b) n (fun H => SqT K H a xs ∧ SqT K H b ys) (YPair (fun i => xs[i]?) (fun i => ys[i]?)) := by
  subst hn
  constructor
  · rintro i H lt ⟨ha, hb⟩
    have l1 : i < xs.length := Nat.lt_of_lt_of_le lt (Nat.min_le_left _ _)
    have l2 : i < ys.length := Nat.lt_of_lt_of_le lt (Nat.min_le_right _ _)
    exact ⟨xs, ys, _, _, ha, hb, List.getElem?_eq_getElem l1, List.getElem?_eq_getElem l2⟩
  · rintro H ⟨ha, hb⟩
    exact ⟨xs, ys, ha, hb, by rcases Nat.le_total xs.length ys.length with h | h <;> omega⟩
  · rintro i H v H' _ ⟨ha, hb⟩ ⟨T, u, z, ev, nT, eH, fu, fz⟩
    exact ⟨T, u, z, ev, nT, eH, fu _ ha, fz _ hb⟩
section
variable {X : Cx} (K : PySem.W.Frag)
theorem zipK {e e2 : Expr} {ta : TA} {p pos tpos : Pos} {elts : List Expr} {kk : Nat} (hg : Gl X "zip") (hm : X.mg "zip" = none) (ha : PA X [e, e2] ta) (h : X.K = K := by rfl) (hs : starEach [e, e2] X.env = (false, eval e X.env) :: starEach [e2] X.env := by rfl) (hpl : (backTo pos (starEach [e2] X.env)).any (·.1) = false := by rfl) :
    PI X (.Tuple elts kk tpos) (.Call (.Name "zip" p) [e, e2] [] pos) (iZipA K ta) := h ▸ pi_zipA hg hm ha hs hpl
end
/-- the same over pairs: each turn's pair is a new tuple -/
theorem lc_pair {J : It} {n : Nat} {G : Hp → Prop} {xs ys : Nat → Option V} {g : TG} {tt : TT} {te : TE} {vs : List Nat} {σ : L2.St} {H1 : Hp} {D : Addr} {Qd : Hp → Prop}
    (w : Walk J n G (YPair xs ys)) (hD : H1 D = none) (hG : ∀ H, Same H1 H → G H) (hl : n < sizeLine) (P : Nat → List V → Hp → Prop) (h0 : P 0 [] H1) (hP : ∀ i acc H H', Imm H H' → P i acc H → P i acc H')
    (hs : ∀ i x y T H acc (Q1 : VK) (Q2 : Hp → Prop), i < n → xs i = some x → ys i = some y → Same H1 H → H T = some (.tup [x, y]) → P i acc H → (∀ y H4, Same H H4 → P (i + 1) (acc ++ [y]) H4 → Q1 y H4) → (∀ H3, Same H H3 → P (i + 1) acc H3 → Q2 H3) →
      g (.ref T) (wipe σ vs) H fun σ2 H2 => wipe σ2 vs = wipe σ vs ∧ tt σ2 H2 fun b H3 => if b = true then te σ2 H3 Q1 else Q2 H3)
    (hd : ∀ H' acc, Same H1 H' → H' D = some (.lst acc) → P n acc H' → Qd H') :
    ∃ W : Nat → Nat → Hp → Prop, (∃ m, W 0 m (upd H1 D (.lst []))) ∧ ∀ i m H, W i m H →
      (J.stop i H ∧ Qd H) ∨ (J.go i H ∧ ∃ Nx : Hp → Prop, (∀ H', Nx H' → ∃ m', m' < m ∧ W (i + 1) m' H') ∧ ∀ x H', J.yld i H x H' → g x (wipe σ vs) H' fun σ2 H2 => wipe σ2 vs = wipe σ vs ∧ tt σ2 H2 fun b H3 =>
        if b = true then te σ2 H3 fun y H4 => ∃ acc, H4 D = some (.lst acc) ∧ acc.length < sizeLine ∧ Nx (upd H4 D (.lst (acc ++ [y]))) else Nx H3) := by
  refine lc_it w (fun i H => ∃ acc, Same H1 H ∧ H D = some (.lst acc) ∧ acc.length ≤ i ∧ P i acc H) ⟨[], same_new hD, upd_same, Nat.le_refl _, hP _ _ _ _ (same_imm (same_new hD)) h0⟩
    (fun i H _ ⟨acc, s, _⟩ => hG H s) (fun i x H H' hi p y => ?_) (fun H ⟨acc, s, hd', _, p⟩ => hd H acc s hd' p)
  obtain ⟨T, a, b, rfl, nT, rfl, ea, eb⟩ := y
  obtain ⟨acc, s, hd', hlen, p⟩ := p
  have sT : Same H (upd H T (.tup [a, b])) := same_new nT
  refine hs i a b T _ acc _ _ hi ea eb (s.trans sT) upd_same (hP _ _ _ _ (same_imm sT) p) (fun y H4 s4 p4 => ?_) (fun H3 s3 p3 => ⟨acc, (s.trans sT).trans s3, s3 _ _ (sT _ _ hd'), Nat.le_succ_of_le hlen, p3⟩)
  have h4 := s4 _ _ (sT _ _ hd')
  refine ⟨acc, h4, by omega, acc ++ [y], same_mut ((s.trans sT).trans s4) hD, upd_same, ?_, hP _ _ _ _ (imm_lst' h4) p4⟩
  rw [List.length_append]; simp; omega
end As

/-! ## A9 -/
namespace As
open PySem PySem.Spec PyProof.Rows L2
open PySem.W (EachIs dataLe AllAlike Sortable dataLt alike dataKind sortVals)
/-- sorted(xs) of data of one form, any number of them -/
def rSortedD (K : PySem.W.Frag) : List V → Hp → VK → Prop := fun vs H Q => ∃ (β : Type) (a : Addr) (bs : List β) (v : β → V) (k : β → PyData), vs = [.ref a] ∧ SqL K H a (bs.map v) ∧ (∀ b ∈ bs, Dp K H (v b) (k b) ∧ PyData.depth (k b) ≤ 60) ∧ AllAlike (bs.map k) ∧ Sortable (bs.map k) ∧
  ∀ p, H p = none → Q (.ref p) (upd H p (.lst ((bs.mergeSort (dataLe false k)).map v)))
theorem vals_each {β : Type} {v : β → V} : ∀ {bs : List β} {us : List Value}, Vals (bs.map v) us → EachIs (fun u b => RelV (v b) u) us bs
  | [], _, r => by cases r; exact .nil
  | b :: bs, _, r => by
    rw [List.map_cons] at r
    cases r with
    | cons h t => exact .cons h (vals_each t)
theorem each_vals {β : Type} {v : β → V} : ∀ {bs : List β} {us : List Value}, EachIs (fun u b => RelV (v b) u) us bs → Vals (bs.map v) us
  | [], _, r => by cases r; exact .nil
  | b :: bs, _, r => by
    cases r with
    | cons h t => exact .cons h (each_vals t)
theorem each_map {α β γ : Type} {R : α → γ → Prop} (f : β → γ) : ∀ {as : List α} {bs : List β}, EachIs (fun a b => R a (f b)) as bs → EachIs R as (bs.map f)
  | _, [], r => by cases r; exact .nil
  | _, b :: bs, r => by
    cases r with
    | cons h t => exact .cons h (each_map f t)
section
variable {X : Cx}
theorem cr_sortedD (hu : X.A.units + 64 < cLine) : CallR X (.builtin "sorted") (rSortedD X.K) := by
  intro pins s σ H xs us Q I r h
  obtain ⟨β, a, bs, v, k, rfl, hs, hd, hal, hso, q⟩ := h
  obtain ⟨its, rv, hl, hz⟩ := I.list hs
  obtain ⟨u, rfl, ru⟩ := vals1 r
  obtain rfl : u = Value.ref a := ru
  have ev := vals_each rv
  have lz : its.length = bs.length := by rw [← rv.length, List.length_map]
  have hzs : its.length ≤ sizeLine := by rw [lz]; rw [List.length_map] at hz; exact hz
  -- the items as data, wherever the heap has grown
  obtain ⟨h', eh⟩ : ∃ h', PySem.W.sortingHeap (PySem.W.copyHeap s.heap its) (s.heap.objs.size + 1) its = h' := ⟨_, rfl⟩
  have keep : ∀ b o, s.heap.get? b = some o → h'.get? b = some o := fun b o e => by rw [← eh]; exact PySem.W.sorting_copy_old e
  have er : EachIs (fun u d => ∃ as, Reads h' u d as) its (bs.map k) := by
    refine each_map k ((PySem.W.each_mem ev).mono fun u b ⟨rb, hb⟩ => ?_)
    obtain ⟨as, rr⟩ := Dp.reads I (k b) (v b) u (hd b hb).1 rb
    exact ⟨as, Reads.keeps keep rr⟩
  have S : PySem.W.SortsAt X.prog X.w X.A.in1.in1 { s with heap := h' } (dataKind h' (bs.map k)) its := by
    refine PySem.W.SortsAt.data (s := { s with heap := h' }) er hal hso fun d hm => ?_
    obtain ⟨b, hb, rfl⟩ := List.mem_map.mp hm
    have := (hd b hb).2
    show X.A.units + 1 + 1 + (k b).depth < cLine
    omega
  have out := PySem.W.sortVals_each (κ := dataKind h' (bs.map k)) (rev := false) (fun b => PySem.W.keyToks (k b)) ev (PySem.W.each_of_map k (PySem.W.each_keys hal er))
  refine PySem.W.sorted_vals hl.isList (by rw [eh]; exact S) hzs ?_
  have rout : Vals ((bs.mergeSort (dataLe false k)).map v) (sortVals (dataKind h' (bs.map k)) false its its) := each_vals out
  obtain ⟨n, hn⟩ := sortedAll_at s.heap its (sortVals (dataKind h' (bs.map k)) false its its).toArray
  refine ⟨.ref (s.heap.objs.size + 1), upd H (s.heap.objs.size + 1) (.lst ((bs.mergeSort (dataLe false k)).map v)), I.laid (t' := s.toks) (fun b o e => sortedAll_old e) (Nat.le_succ _) ⟨?_, _, n, rout, hn⟩, rfl, q _ (I.hok.fresh (Nat.le_succ _))⟩
  rw [List.length_map, List.length_mergeSort]
  rw [List.length_map] at hz
  exact hz
/-- x < y of data of one form -/
def rLtD (K : PySem.W.Frag) : R2 := fun x y H Q => ∃ d e, Dp K H x d ∧ Dp K H y e ∧ alike d e = true ∧ d ≠ .none ∧ PyData.depth d ≤ 60 ∧ Q (.bl (dataLt d e)) H
theorem op_ltD (hu : X.A.units + 64 < cLine) : OpR X (compareOp .Lt) (rLtD X.K) := by
  intro pins s σ H x y v u Q I rx ry h
  obtain ⟨d, e, hd, he, ha, hn, hz, q⟩ := h
  obtain ⟨as, r1⟩ := Dp.reads I d x v hd rx
  obtain ⟨bs, r2⟩ := Dp.reads I e y u he ry
  exact PySem.W.lt_data r1 r2 ha hn (by omega) ⟨.bl _, H, I, rfl, q⟩
end
end As

/-! ## A10 -/
namespace As
open PySem PySem.Spec PyProof.Rows L2
/-! enumerate(t), t a tuple -/
/-- what the call makes: the walk over t, and the enumerate around it -/
abbrev walkO (t : Addr) : Obj := { cls := .type "tuple_iterator", data := .fields #[.ref t, .int 0 0] }
abbrev enumO (it : Addr) : Obj := { cls := .type "enumerate", data := .fields #[.none, .bool false, .ref it, rawInt 0, .none, .none] }
abbrev enumH (h : Heap) (t : Addr) : Heap := (h.push (walkO t)).push (enumO h.objs.size)
theorem enum_made {t : Addr} {o : Obj} {vs : Array Value} {n : Nat} (hc : o.cls = .type "tuple") (hd : o.data = .seq vs n) :
    Meets (Builtin.«enumerate.__new__» ⟨[.type "enumerate", .ref t], []⟩) (fun _ R s => s.heap.get? t = some o ∧ R (.ok (.ret (.ref (s.heap.push (walkO t)).objs.size))) { s with heap := enumH s.heap t }) := by
  refine .of_wp fun prog w A R s h => ?_
  have sub := sub_enumerate
  obtain ⟨at_, fin⟩ := h
  have tup : s.heap.IsTuple t vs := ⟨o, at_, hc, n, hd⟩
  wp_walk using AutoSeq1.wpAny_loadPart' at_
  refine wpAny_stack_any fun st => wpAny_pure ?_
  have last : ∀ b : Bool, True := fun _ => trivial
  split
  · rename_i c _ _ _ _ _
    cases (c == Value.type "enumerate") <;> (wp_walk using AutoSeq1.wpAny_loadPart' at_, wpAny_pyIter_tuple tup; exact ⟨_, rfl, fin⟩)
  · wp_walk using AutoSeq1.wpAny_loadPart' at_, wpAny_pyIter_tuple tup
    exact ⟨_, rfl, fin⟩
section
variable {prog : Program} {w : World} {A : Around} {E : Value → Shared → Prop} {s : Shared}
theorem enum_of {t : Addr} {vs : Array Value} {Q : Value → Shared → Prop} (tup : s.heap.IsTuple t vs) (q : Q (.ref (s.heap.objs.size + 1)) { s with heap := enumH s.heap t }) : wpAny (model prog w) A (call (.type "enumerate") [.ref t]) Q E s := by
  obtain ⟨o, at_, hc, n, hd⟩ := tup
  refine callType_new F.called_enumerate (by decide) (F.typeCall_enumerate_1 _) (F.newCall_enumerate_1 _) (fun x => F.args_object_init_2 x _) F.entry_enumerate_new (enum_made hc hd) ⟨at_, ?_⟩
  have sz : (s.heap.push (walkO t)).objs.size = s.heap.objs.size + 1 := Heap.size_push ..
  refine show _ ∧ _ from ⟨⟨enumO s.heap.objs.size, ?_, rfl⟩, sz ▸ q⟩
  exact Heap.get?_push_size (s.heap.push (walkO t)) rfl
end
theorem enumH_old {h : Heap} {t b : Addr} {o : Obj} (e : h.get? b = some o) : (enumH h t).get? b = some o := Heap.get?_push_of_some _ (Heap.get?_push_of_some _ e)
theorem enumH_enum {h : Heap} {t : Addr} : IsEnum (enumH h t) (h.objs.size + 1) h.objs.size 0 .none := by
  have e := Heap.get?_push_size (h.push (walkO t)) (o := enumO h.objs.size) rfl
  rw [Heap.size_push] at e
  exact e
theorem enumH_walk {h : Heap} {t : Addr} : (enumH h t).IsTupleIter h.objs.size t 0 := ⟨walkO t, Heap.get?_push_of_some _ (Heap.get?_push_size _ rfl), rfl, rfl⟩
/-- the walk: at each turn a new pair of the number and the item -/
def IteT (K : PySem.W.Frag) (a : Addr) : It where
  go i H := ∃ (xs : List V) (x : V), SqT K H a xs ∧ xs[i]? = some x
  yld i H v H' := ∃ T x, v = .ref T ∧ H T = none ∧ H' = upd H T (.tup [.int (i : Nat), x]) ∧ ∀ xs, SqT K H a xs → xs[i]? = some x
  stop i H := ∃ xs : List V, SqT K H a xs ∧ xs.length ≤ i
/-- the state of the walk after i turns -/
def EnS (a e it : Addr) (i : Nat) (h : Heap) : Prop := (∃ old, IsEnum h e it ((i : Nat) : Int) old) ∧ h.IsTupleIter it a i ∧ e ≠ it ∧ e ≠ a ∧ a ≠ it
theorem mem2 {b e it : Addr} (h : b ∈ [e, it]) : b = e ∨ b = it := by simpa using h
theorem turn_enumT {P : Program} {w : World} {K : PySem.W.Frag} {elts : List Expr} {kk : Nat} {tpos : Pos} (a e it : Addr) : Turn P w K (.Tuple elts kk tpos) (IteT K a) [e, it] e (EnS a e it) where
  mem := List.mem_cons_self
  obj i h st b hb := by
    obtain ⟨⟨old, at1⟩, ⟨o, at2, c2, d2⟩, _⟩ := st
    rcases mem2 hb with rfl | rfl
    · exact ⟨_, at1, fun v z => nomatch z⟩
    · exact ⟨o, at2, fun v z => nomatch (d2.symm.trans z)⟩
  keep i h h' st k := by
    obtain ⟨⟨old, at1⟩, w2, r⟩ := st
    exact ⟨⟨old, k e List.mem_cons_self _ at1⟩, w2.at fun o z => k it (by simp) o z, r⟩
  self A i s Q E st q := by
    obtain ⟨⟨old, at1⟩, _⟩ := st
    exact wpAny_pyIter_enum at1 q
  item := by
    rintro X rfl rfl rfl hc i pins s σ H E I hf ⟨⟨old, at1⟩, w2, ne1, ne2, ne3⟩ ⟨xs, x, hq, hx⟩
    obtain ⟨its, rv, tup, _⟩ := I.tuple hq
    obtain ⟨u, hu, ru⟩ := rv.get hx
    have lt : i < its.toArray.size := by
      have z := (List.getElem?_eq_some_iff.mp hu).1
      rwa [List.size_toArray]
    have old1 : e < s.heap.objs.size := Heap.lt_size at1
    have old2 : it < s.heap.objs.size := w2.elim fun _ z => Heap.lt_size z.1
    refine wpAny_pyNext_enum_itemD (PySem.Draws.tuple (A := X.A.in1) (I.ok.hd hc) it a ne3 its.toArray) at1 ⟨w2, tup⟩ lt ne1 (by simp [ne1, ne2]) fun y h1 tk drawn out st1 pair _ kept => ?_
    obtain rfl : y = u := by
      have z : its.toArray[i]? = some y := drawn
      rw [List.getElem?_toArray, hu] at z
      exact (Option.some.inj z).symm
    refine ⟨_, rfl, wpAny_letOwnedTupleGo_enum (s := { s with heap := h1, toks := tk + 1 }) out fun h2 en2 but => ?_⟩
    have pair2 := (but.2 s.heap.objs.size (Nat.ne_of_gt old1)).trans pair
    have ok : ObjOk X.prog X.w (upd H s.heap.objs.size (.tup [.int (i : Nat), x])) h2 s.heap.objs.size (.tup [.int (i : Nat), x]) := ⟨by show 2 ≤ sizeLine; decide, [.int i tk, y], .cons ⟨_, rfl⟩ (.cons ru .nil), _, pair2, rfl, _, rfl⟩
    have still : ∀ b o, b ∉ [e, it] → s.heap.get? b = some o → h2.get? b = some o := fun b o nb z => by
      have n1 : b ≠ e := fun q => nb (by simp [q])
      have n2 : b ≠ it := fun q => nb (by simp [q])
      exact (but.2 b n1).trans (kept b o n1 n2 z)
    refine ⟨.ref s.heap.objs.size, _, I.turnedNew (t' := tk + 1) still hf (Nat.le_refl _) ok, rfl, ⟨_, x, rfl, I.hok.fresh (Nat.le_refl _), rfl, fun ys hy => (I.tuple_inj hy hq) ▸ hx⟩, ⟨⟨y, ?_⟩, st1.1.at fun o z => (but.2 it (Ne.symm ne1)).trans z, ne1, ne2, ne3⟩, fun b hb => ?_⟩
    · rw [Int.natCast_succ]; exact en2
    · have lt' : b < s.heap.objs.size := by rcases mem2 hb with rfl | rfl <;> assumption
      rw [upd_ne (Nat.ne_of_lt lt')]
      exact (hf b hb).1
  done := by
    rintro X rfl rfl rfl hc i pins s σ H E I hf ⟨⟨old, at1⟩, w2, _⟩ ⟨xs, hq, all⟩
    obtain ⟨its, rv, tup, _⟩ := I.tuple hq
    have ty : s.TypeIs (.ref e) "enumerate" := ⟨_, at1, rfl⟩
    have none_ : its.toArray[i]? = none := by
      rw [List.getElem?_toArray]
      exact List.getElem?_eq_none (rv.length ▸ all)
    have pin := hf it (by simp)
    unfold pyNext
    refine wpAny_bind (wpAny_attempt (wpAny_callSpecial?_slot (name := Str.ofString "__next__") ty F.slot_enumerate_next (wpAny_call_entry F.slot_enumerate_next ty F.entry_enumerate_next ?_ (F.args_enumerate_next_1 _))))
    refine show wpAny _ _ (field (.ref e) 2 >>= _) _ _ _ from wpAny_bind (wpAny_field at1 rfl (x := .ref it) rfl (wpAny_bind (wpAny_nextOf_tuple_end (I.ok.hd hc) w2 tup none_ fun h1 x grown stop => ?_)))
    obtain ⟨o, ho, cl⟩ := stop
    exact wpAny_bind (wpAny_isInstance (T := "StopIteration") (b := true) ⟨o, ho, cl⟩ isSubtype_stop (wpAny_pure ⟨rfl, I.turned (t' := s.toks) (fun b o hb z => grown b o hb z) pin.1 pin.2.1 pin.2.2.2.1 pin.2.2.2.2.1 pin.2.2.2.2.2⟩))
def iEnumT (K : PySem.W.Frag) (ta : TA) : TI := fun σ H R => ta σ H fun vs H1 => ∃ a xs, vs = [.ref a] ∧ SqT K H1 a xs ∧ R (IteT K a) H1
theorem pi_enumT {X : Cx} {e : Expr} {ta : TA} {p pos tpos : Pos} {elts : List Expr} {kk : Nat} (hg : Gl X "enumerate") (hm : X.mg "enumerate" = none) (ha : PA X [e] ta) (hs : starEach [e] X.env = [(false, eval e X.env)] := by rfl) :
    PI X (.Tuple elts kk tpos) (.Call (.Name "enumerate" p) [e] [] pos) (iEnumT X.K ta) := by
  refine ⟨fun pins s σ H R I h => Call_ (ld_blt I hg hm boot_enumerate (PyProof.Rows.callWith_type1 (thn (ha.run pos pins s σ H _ I h) ?_) hs rfl))⟩
  rintro us s1 ⟨vs, H1, I1, r1, a, xs, rfl, hq, q⟩
  obtain ⟨u, rfl, ru⟩ := vals1 r1
  cases (show u = Value.ref a from ru)
  obtain ⟨its, rv, tup, _⟩ := I1.tuple hq
  have lt : a < s1.heap.objs.size := tup.elim fun _ z => Heap.lt_size z.1
  refine enum_of tup (wpAny_pyIter_enum enumH_enum ⟨s1.heap.objs.size + 1, [s1.heap.objs.size + 1, s1.heap.objs.size], _, _, H1, rfl, I1.kept (t' := s1.toks) fun b o z => enumH_old z, turn_enumT a (s1.heap.objs.size + 1) s1.heap.objs.size,
    ⟨⟨.none, enumH_enum⟩, enumH_walk, Nat.succ_ne_self _, Nat.ne_of_gt (Nat.lt_succ_of_lt lt), Nat.ne_of_lt lt⟩, fun b hb => ?_, q⟩)
  have le : s1.heap.objs.size ≤ b := by rcases mem2 hb with rfl | rfl <;> simp
  exact I1.fpOk le (I1.hok.fresh le)
theorem walk_enumT {K : PySem.W.Frag} {a : Addr} {xs : List V} : Walk (IteT K a) xs.length (fun H => SqT K H a xs) (YPair (fun i => some (.int (i : Nat))) (fun i => xs[i]?)) where
  goes i H lt q := ⟨xs, _, q, List.getElem?_eq_getElem lt⟩
  stops H q := ⟨xs, q, Nat.le_refl _⟩
  yields i H v H' _ q y := y.elim fun T z => z.elim fun x z => ⟨T, _, x, z.1, z.2.1, z.2.2.1, rfl, z.2.2.2 xs q⟩
end As

/-! ## B8p -/
namespace As
open PySem PySem.Spec PyProof.Rows L2
theorem dp_ints {K : PySem.W.Frag} {H : Hp} : ∀ {ns : List Int}, DpAll K H (ns.map V.int) (ns.map .int)
  | [] => .nil
  | n :: _ => .cons (.int n) dp_ints
theorem ints_lay : ∀ {ns : List Int}, PyData.canLayAll0 (ns.map .int) = true ∧ PyData.depthAll (ns.map .int) = 0
  | [] => by simp [PyData.canLayAll0, PyData.depthAll]
  | n :: ns => by
    have h := ints_lay (ns := ns)
    simp [PyData.canLayAll0, PyData.canLay0, PyData.depthAll, PyData.depth, h.1, h.2]
theorem ints_nil {ns : List Int} : PyData.eqv (.list (ns.map .int)) (.list []) = decide (ns = []) := by
  cases ns with
  | nil => simp [PyData.eqv, PyData.eqvAll]
  | cons n ns => simp [PyData.eqv, PyData.eqvAll]
theorem ixN_lt {n : Nat} {i : Int} (h0 : 0 ≤ i) (h1 : i < n) : ixN n i = some i.toNat := by
  unfold ixN; rw [if_pos h0, if_pos h1]
theorem atI_lt {α : Type} {xs : List α} {i : Int} {v : α} (h0 : 0 ≤ i) (h1 : i < xs.length) (h : xs[i.toNat]? = some v) : atI xs i = some v := by
  unfold atI; rw [ixN_lt h0 h1]; exact h
end As

/-! ## B9p -/
namespace As
open PySem PySem.Spec PyProof.Rows L2
section
variable {K : PySem.W.Frag}
/-- plain data, not deep -/
def Plain (K : PySem.W.Frag) (B : Hp) (x : V) : Prop := ∃ d, Dp K B x d ∧ PyData.canLay0 d = true ∧ PyData.depth d ≤ 2
mutual
theorem dp_same {K : PySem.W.Frag} {H H' : Hp} (e : Same H H') : ∀ {v : V} {d : PyData}, Dp K H v d → Dp K H' v d
  | _, _, .non => .non
  | _, _, .bl b => .bl b
  | _, _, .int i => .int i
  | _, _, .str x => .str x
  | _, _, .lst h a => .lst (e.seq h) (dpAll_same e a)
  | _, _, .tup h a => .tup (same_t e h) (dpAll_same e a)
theorem dpAll_same {K : PySem.W.Frag} {H H' : Hp} (e : Same H H') : ∀ {vs : List V} {ds : List PyData}, DpAll K H vs ds → DpAll K H' vs ds
  | _, _, .nil => .nil
  | _, _, .cons h a => .cons (dp_same e h) (dpAll_same e a)
end
theorem plain_all {B : Hp} : ∀ {xs : List V}, (∀ x ∈ xs, Plain K B x) → ∃ ds, DpAll K B xs ds ∧ PyData.canLayAll0 ds = true ∧ PyData.depthAll ds ≤ 2
  | [], _ => ⟨[], .nil, by simp [PyData.canLayAll0], by simp [PyData.depthAll]⟩
  | x :: xs, h => by
    obtain ⟨ds, h1, h2, h3⟩ := plain_all fun y hy => h y (List.mem_cons_of_mem _ hy)
    obtain ⟨d, g1, g2, g3⟩ := h x List.mem_cons_self
    refine ⟨d :: ds, .cons g1 h1, ?_, ?_⟩
    · simp only [PyData.canLayAll0, g2, h2, Bool.and_self]
    · simp only [PyData.depthAll]; omega
theorem dpAll_len {B : Hp} : ∀ {xs : List V} {ds : List PyData}, DpAll K B xs ds → xs.length = ds.length
  | _, _, .nil => rfl
  | _, _, .cons _ a => by rw [List.length_cons, List.length_cons, dpAll_len a]
/-- xs != [] -/
theorem ne_nil {B H : Hp} {l e : Addr} {xs : List V} {Q : VK} (pl : ∀ x ∈ xs, Plain K B x) (s : Same B H) (h : H l = some (.lst xs)) (he : H e = some (.lst [])) (q : Q (.bl (!decide (xs = []))) H) : rNeD K (.ref l) (.ref e) H Q := by
  obtain ⟨ds, h1, h2, h3⟩ := plain_all pl
  refine ⟨_, _, .lst (lof h) (dpAll_same s h1), .lst (lof he) .nil, shaped_lst h2 h3, shaped_lst (by simp [PyData.canLayAll0]) (by simp [PyData.depthAll]), ?_⟩
  have hl := dpAll_len h1
  have e : PyData.eqv (.list ds) (.list []) = decide (xs = []) := by
    cases ds with
    | nil => cases xs with
      | nil => simp [PyData.eqv, PyData.eqvAll]
      | cons => simp at hl
    | cons => cases xs with
      | nil => simp at hl
      | cons => simp [PyData.eqv, PyData.eqvAll]
  rw [e]; exact q
theorem eq_nil {B H : Hp} {l e : Addr} {xs : List V} {Q : VK} (pl : ∀ x ∈ xs, Plain K B x) (s : Same B H) (h : H l = some (.lst xs)) (he : H e = some (.lst [])) (q : Q (.bl (decide (xs = []))) H) : rEqD K (.ref l) (.ref e) H Q := by
  obtain ⟨ds, h1, h2, h3⟩ := plain_all pl
  refine ⟨_, _, .lst (lof h) (dpAll_same s h1), .lst (lof he) .nil, shaped_lst h2 h3, shaped_lst (by simp [PyData.canLayAll0]) (by simp [PyData.depthAll]), ?_⟩
  have hl := dpAll_len h1
  have e : PyData.eqv (.list ds) (.list []) = decide (xs = []) := by
    cases ds with
    | nil => cases xs with
      | nil => simp [PyData.eqv, PyData.eqvAll]
      | cons => simp at hl
    | cons => cases xs with
      | nil => simp at hl
      | cons => simp [PyData.eqv, PyData.eqvAll]
  rw [e]; exact q
theorem seq_at {r : Int} {n : Nat} (h0 : 0 ≤ r) (h1 : r < n) : seqIndex? r n = some r.toNat := (ixN_seq (ixN_lt h0 h1)).1

theorem erase_perm {α : Type} : ∀ (xs : List α) (i : Nat) (h : i < xs.length), ([xs[i]] ++ xs.eraseIdx i).Perm xs
  | x :: xs, 0, _ => .refl _
  | x :: xs, i + 1, h => by
    have hi : i < xs.length := by simpa using h
    have ih := erase_perm xs i hi
    show (xs[i] :: x :: xs.eraseIdx i).Perm (x :: xs)
    exact (List.Perm.swap x xs[i] _).trans (ih.cons x)
end
end As

/-! ## C0 -/
namespace As
open PySem PySem.Spec PyProof.Rows L2 TL
open PySem.W (dataLe AllAlike Sortable dataLt alike alikeAll)
/-! facts and looks as keys -/
abbrev FK := Str × List Int
abbrev LK := Str × Int × Int
def fkD (k : FK) : PyData := .tuple [.str k.1, .tuple (k.2.map .int)]
def lkD (k : LK) : PyData := .tuple [.str k.1, .int k.2.1, .int k.2.2]
abbrev FRow := Addr × Addr × FK
def fv (r : FRow) : V := .ref r.1
abbrev LRow := Addr × LK
def lv (r : LRow) : V := .ref r.1
def FAt (H : Hp) (r : FRow) : Prop := H r.1 = some (.tup [.str r.2.2.1, .ref r.2.1]) ∧ H r.2.1 = some (.tup (r.2.2.2.map V.int))
def LAt (H : Hp) (r : LRow) : Prop := H r.1 = some (.tup [.str r.2.1, .int r.2.2.1, .int r.2.2.2])
theorem FAt.imm {H H' : Hp} {r : FRow} (h : FAt H r) (e : Imm H H') : FAt H' r := ⟨e _ _ h.1, e _ _ h.2⟩
theorem LAt.imm {H H' : Hp} {r : LRow} (h : LAt H r) (e : Imm H H') : LAt H' r := e _ _ h
theorem imm_lst {H : Hp} {D : Addr} {xs : List V} {o : HO} (h : H D = some (.lst xs)) : Imm H (upd H D o) := fun b ys e => by
  rw [upd_ne (fun z => by subst z; rw [h] at e; cases e)]; exact e
theorem imm_new {H : Hp} {D : Addr} {o : HO} (h : H D = none) : Imm H (upd H D o) := same_imm (same_new h)
theorem Imm.trans {A B C : Hp} (h : Imm A B) (k : Imm B C) : Imm A C := fun _ _ e => k _ _ (h _ _ e)
theorem alike_ints : ∀ xs ys : List Int, alikeAll (xs.map .int) (ys.map .int) = true
  | [], ys => by simp [alikeAll]
  | x :: xs, [] => by simp [alikeAll]
  | x :: xs, y :: ys => by
    rw [List.map_cons, List.map_cons, alikeAll, alike_ints xs ys]; simp [alike]
theorem alike_fk (a b : FK) : alike (fkD a) (fkD b) = true := by
  simp [fkD, alike, alikeAll, alike_ints]
theorem alike_lk (a b : LK) : alike (lkD a) (lkD b) = true := by
  simp [lkD, alike, alikeAll]
theorem fk_all {β : Type} (k : β → FK) (bs : List β) : AllAlike (bs.map fun b => fkD (k b)) := fun d hd e he => by
  obtain ⟨a, _, rfl⟩ := List.mem_map.mp hd
  obtain ⟨b, _, rfl⟩ := List.mem_map.mp he
  exact alike_fk _ _
theorem lk_all {β : Type} (k : β → LK) (bs : List β) : AllAlike (bs.map fun b => lkD (k b)) := fun d hd e he => by
  obtain ⟨a, _, rfl⟩ := List.mem_map.mp hd
  obtain ⟨b, _, rfl⟩ := List.mem_map.mp he
  exact alike_lk _ _
theorem fk_sortable {β : Type} (k : β → FK) (bs : List β) : Sortable (bs.map fun b => fkD (k b)) := .inl fun d hd => by
  obtain ⟨a, _, rfl⟩ := List.mem_map.mp hd
  exact ⟨_, _, rfl⟩
theorem lk_sortable {β : Type} (k : β → LK) (bs : List β) : Sortable (bs.map fun b => lkD (k b)) := .inl fun d hd => by
  obtain ⟨a, _, rfl⟩ := List.mem_map.mp hd
  exact ⟨_, _, rfl⟩
theorem fk_depth (k : FK) : (fkD k).depth = 1 + 0 ∨ (fkD k).depth ≤ 2 := .inr (by simp [fkD, PyData.depth, PyData.depthAll, ints_lay.2])
theorem lk_depth (k : LK) : (lkD k).depth ≤ 2 := by simp [lkD, PyData.depth, PyData.depthAll]
theorem dp_fk {K : PySem.W.Frag} {H : Hp} {r : FRow} (h : FAt H r) : Dp K H (fv r) (fkD r.2.2) := .tup (tof h.1) (.cons (.str _) (.cons (.tup (tof h.2) dp_ints) .nil))
theorem dp_lk {K : PySem.W.Frag} {H : Hp} {r : LRow} (h : LAt H r) : Dp K H (lv r) (lkD r.2) := .tup (tof h) (.cons (.str _) (.cons (.int _) (.cons (.int _) .nil)))
theorem lay_fk (k : FK) (h : PyData.strOk k.1 = true) : (fkD k).canLay0 = true := by simp [fkD, PyData.canLay0, PyData.canLayAll0, ints_lay.1, h]
theorem lay_lk (k : LK) (h : PyData.strOk k.1 = true) : (lkD k).canLay0 = true := by simp [lkD, PyData.canLay0, PyData.canLayAll0, h]
/-! all facts, all looks of tables -/
def sizeI (cs : List CRow) (c : Str) : Int := match sizeV cs c with | .int i => i | _ => 0
def ir (n : Nat) : List Int := (List.range n).map fun (k : Nat) => (k : Int)
def factsUp (cs : List CRow) (n : Str) (ps : List Str) (j : Nat) : List FK := match ps with
  | [_] => (ir j).map fun v => (n, [v])
  | [_, d] => (ir j).flatMap fun v => (ir (sizeI cs d).toNat).map fun o => (n, [v, o])
  | _ => []
def firstN (cs : List CRow) (ps : List Str) : Nat := (sizeI cs (ps.headD ⟨#[]⟩)).toNat
def factsT (cs : List CRow) (r : TRow) : List FK := factsUp cs r.2.1 r.2.2.2 (firstN cs r.2.2.2)
def looksUp (cs : List CRow) (n : Str) (ps : List Str) (i : Nat) : List LK := (List.range i).flatMap fun s => (ir (sizeI cs (ps.getD s ⟨#[]⟩)).toNat).map fun v => (n, (s : Int), v)
def looksT (cs : List CRow) (r : TRow) : List LK := looksUp cs r.2.1 r.2.2.2 r.2.2.2.length
theorem ir_succ (n : Nat) : ir (n + 1) = ir n ++ [(n : Int)] := by unfold ir; rw [List.range_succ, List.map_append]; rfl
theorem ir_len (n : Nat) : (ir n).length = n := by unfold ir; rw [List.length_map, List.length_range]
theorem valV_sz {H : Hp} {cs : List CRow} (ok : ColsOk H cs) {c : Str} (h : c ∈ cs.map (·.2.1)) : valV (colsD cs) (.inr c) = some (.int (sizeI cs c)) ∧ 1 ≤ sizeI cs c ∧ sizeI cs c ≤ 6 := by
  obtain ⟨v, hv⟩ := valV_cols h
  have h1 : v ∈ (colsD cs).map Prod.snd := by
    unfold valV at hv
    cases hf : (colsD cs).find? (fun kv => decide (kv.1 = .inr c)) with
    | none => rw [hf] at hv; cases hv
    | some kv =>
      rw [hf] at hv
      cases hv
      exact List.mem_map.mpr ⟨kv, List.mem_of_find?_eq_some hf, rfl⟩
  obtain ⟨kv, hk, e⟩ := List.mem_map.mp h1
  obtain ⟨r, hr, rfl⟩ := List.mem_map.mp hk
  have e' : v = .int r.2.2 := e.symm
  subst e'
  have es : sizeI cs c = r.2.2 := by unfold sizeI sizeV; rw [hv]; rfl
  rw [es]
  exact ⟨hv, ok.sz r hr⟩
theorem factsUp_one {cs : List CRow} {n c : Str} {j : Nat} : factsUp cs n [c] (j + 1) = factsUp cs n [c] j ++ [(n, [(j : Int)])] := by
  show (ir (j + 1)).map _ = (ir j).map _ ++ _
  rw [ir_succ, List.map_append]; rfl
theorem factsUp_two {cs : List CRow} {n c d : Str} {j : Nat} : factsUp cs n [c, d] (j + 1) = factsUp cs n [c, d] j ++ (ir (sizeI cs d).toNat).map fun o => ((n, [(j : Int), o]) : FK) := by
  show (ir (j + 1)).flatMap _ = (ir j).flatMap _ ++ _
  rw [ir_succ, List.flatMap_append, List.flatMap_cons, List.flatMap_nil, List.append_nil]
theorem factsUp_len {cs : List CRow} (hs : ∀ d, sizeI cs d ≤ 6) {n : Str} {ps : List Str} {j : Nat} : (factsUp cs n ps j).length ≤ 6 * j := by
  unfold factsUp
  split
  · rw [List.length_map, ir_len]; omega
  · rename_i d
    rw [List.length_flatMap]
    have h1 : (ir j).map (fun v => ((ir (sizeI cs d).toNat).map fun o => ((n, [v, o]) : FK)).length) = (ir j).map fun _ => (sizeI cs d).toNat := by
      apply List.map_congr_left; intro v _; rw [List.length_map, ir_len]
    rw [h1, List.map_const', List.sum_replicate_nat, ir_len]
    have := hs d
    have h2 : (sizeI cs d).toNat ≤ 6 := by omega
    calc j * (sizeI cs d).toNat ≤ j * 6 := Nat.mul_le_mul_left _ h2
      _ = 6 * j := Nat.mul_comm _ _
  · simp
theorem looksUp_succ {cs : List CRow} {n : Str} {ps : List Str} {i : Nat} : looksUp cs n ps (i + 1) = looksUp cs n ps i ++ (ir (sizeI cs (ps.getD i ⟨#[]⟩)).toNat).map fun v => ((n, (i : Int), v) : LK) := by
  unfold looksUp
  rw [List.range_succ, List.flatMap_append, List.flatMap_cons, List.flatMap_nil, List.append_nil]
theorem sizeI_le {H : Hp} {cs : List CRow} (ok : ColsOk H cs) (d : Str) : sizeI cs d ≤ 6 := by
  by_cases h : d ∈ cs.map (·.2.1)
  · exact (valV_sz ok h).2.2
  · have e : sizeV cs d = .non := by
      unfold sizeV valV
      rw [List.find?_eq_none.mpr]
      · rfl
      · intro kv hk
        obtain ⟨r, hr, rfl⟩ := List.mem_map.mp hk
        have : ¬ r.2.1 = d := fun z => h (List.mem_map.mpr ⟨r, hr, z⟩)
        simp [this]
    unfold sizeI; rw [e]; decide
theorem flat_len {α β : Type} {f : α → List β} {m : Nat} : ∀ {l : List α}, (∀ x ∈ l, (f x).length ≤ m) → (l.flatMap f).length ≤ m * l.length
  | [], _ => by simp
  | x :: l, h => by
    rw [List.flatMap_cons, List.length_append, List.length_cons, Nat.mul_add, Nat.mul_one]
    have h1 := h x List.mem_cons_self
    have h2 := flat_len (l := l) fun y hy => h y (List.mem_cons_of_mem _ hy)
    omega
theorem looksUp_len {cs : List CRow} (hs : ∀ d, sizeI cs d ≤ 6) {n : Str} {ps : List Str} {i : Nat} : (looksUp cs n ps i).length ≤ 6 * i := by
  unfold looksUp
  have h := flat_len (m := 6) (l := List.range i) (f := fun s => (ir (sizeI cs (ps.getD s ⟨#[]⟩)).toNat).map fun v => ((n, (s : Int), v) : LK)) fun x _ => by
    rw [List.length_map, ir_len]; have := hs (ps.getD x ⟨#[]⟩); omega
  rw [List.length_range] at h
  exact h
end As

/-! ## C1p -/
namespace As
open PySem PySem.Spec PyProof.Rows L2 TL
open PySem.W (dataLe AllAlike Sortable dataLt alike)
section
variable {P : Program} {w : World} {K : PySem.W.Frag} {mg : Str → Option Value} {base : Heap}
def sortF (l : List FK) : List FK := l.mergeSort (dataLe false fkD)
def sortL (l : List LK) : List LK := l.mergeSort (dataLe false lkD)
theorem mergeK_nd : ∀ {more acc : List (Key × V)}, ((acc ++ more).map (·.1)).Nodup → mergeK acc more = acc ++ more
  | [], acc, _ => by rw [List.append_nil]; rfl
  | (k, v) :: r, acc, h => by
    have h1 : k ∉ acc.map (·.1) := by
      rw [List.map_append, List.nodup_append] at h
      exact fun z => h.2.2 _ z k (by simp) rfl
    have e : mergeK acc ((k, v) :: r) = mergeK (putK acc k v) r := rfl
    rw [e, putK_new h1, mergeK_nd (by rw [List.append_assoc]; exact h), List.append_assoc]; rfl
theorem colsD_nd {cs : List CRow} (h : (cs.map (·.2.1)).Nodup) : ((colsD cs).map (·.1)).Nodup := by
  unfold colsD
  rw [List.map_map]
  have e : ((fun kv : Key × V => kv.1) ∘ fun r : CRow => ((.inr r.2.1 : Key), V.int r.2.2)) = (fun z : Str => (.inr z : Key)) ∘ fun r : CRow => r.2.1 := rfl
  rw [e, ← List.map_map]
  exact List.Pairwise.map _ (fun a b (q : a ≠ b) z => q (by injection z)) h
theorem mergeK_cols {H : Hp} {cs : List CRow} (ok : ColsOk H cs) : mergeK [] (colsD cs) = colsD cs := by
  rw [mergeK_nd (by rw [List.nil_append]; exact colsD_nd ok.nd), List.nil_append]
theorem cols_refs {cs : List CRow} : (cs.map (·.1)).map V.ref = cs.map cv := by rw [List.map_map]; rfl
theorem cols_pairs {K : PySem.W.Frag} {H : Hp} {cs : List CRow} (ok : ColsOk H cs) : Paired (fun p kv => SqT K H p [kV kv.1, kv.2]) (cs.map (·.1)) (colsD cs) := by
  have h1 := ok.row
  clear ok
  unfold colsD
  induction cs with
  | nil => exact .nil
  | cons r t ih => exact .cons (tof (h1 r List.mem_cons_self)) (ih fun r hr => h1 r (List.mem_cons_of_mem _ hr))
def spLFacts : Sp := fun vs H Q _ => ∃ (cl tl : Addr) (cs : List CRow) (ts : List TRow), vs = [.ref cl, .ref tl] ∧ H cl = some (.lst (cs.map cv)) ∧ H tl = some (.lst (ts.map tv)) ∧ ColsOk H cs ∧ TabsOk H (cs.map (·.2.1)) ts ∧
  ∀ p (fs : List FRow) H', Same H H' → H p = none → H' p = some (.lst (fs.map fv)) → (∀ r ∈ fs, FAt H' r) → fs.map (·.2.2) = sortF (ts.flatMap (factsT cs)) → Q (.ref p) H'
end
end As

/-! ## C3 -/
namespace As
open PySem PySem.Spec PyProof.Rows L2 RZ
/-! values of any kind -/
inductive Kind | non | bl | int | str | lst | tup | dict
  deriving DecidableEq
def Kind.name : Kind → String
  | .non => "NoneType" | .bl => "bool" | .int => "int" | .str => "str" | .lst => "list" | .tup => "tuple" | .dict => "dict"
theorem kit_tup {K : PySem.W.Frag} (k : Kind) : PySem.W.kitOne K (.type k.name) (.type "tuple") = some (decide (k = .tup)) := by
  cases k <;> exact kit_ty (by decide +kernel)
theorem kit_str {K : PySem.W.Frag} (k : Kind) : PySem.W.kitOne K (.type k.name) (.type "str") = some (decide (k = .str)) := by
  cases k <;> exact kit_ty (by decide +kernel)
theorem kit_int {K : PySem.W.Frag} (k : Kind) : PySem.W.kitOne K (.type k.name) (.type "int") = some (decide (k = .int ∨ k = .bl)) := by
  cases k <;> exact kit_ty (by decide +kernel)
theorem kit_bool {K : PySem.W.Frag} (k : Kind) : PySem.W.kitOne K (.type k.name) (.type "bool") = some (decide (k = .bl)) := by
  cases k <;> exact kit_ty (by decide +kernel)
/-- x is of one of the kinds -/
inductive Val (H : Hp) : V → Kind → Prop
  | non : Val H .non .non
  | bl (b : Bool) : Val H (.bl b) .bl
  | int (i : Int) : Val H (.int i) .int
  | str (z : Str) : Val H (.str z) .str
  | lst {a : Addr} {xs : List V} (h : H a = some (.lst xs)) : Val H (.ref a) .lst
  | tup {a : Addr} {xs : List V} (h : H a = some (.tup xs)) : Val H (.ref a) .tup
  | dict {a : Addr} {ks : List (Key × V)} (h : H a = some (.dK ks)) : Val H (.ref a) .dict
theorem Val.ty {K : PySem.W.Frag} {H : Hp} {x : V} {k : Kind} : Val H x k → TyX K H x (.type k.name)
  | .non => .base .non
  | .bl b => .base (.bl b)
  | .int i => .base (.int i)
  | .str z => .base (.str z)
  | .lst h => .base (.lst h)
  | .tup h => .base (.tup h)
  | .dict h => .base (.dK h)
theorem Val.same {H H' : Hp} {x : V} {k : Kind} (e : Same H H') : Val H x k → Val H' x k
  | .non => .non
  | .bl b => .bl b
  | .int i => .int i
  | .str z => .str z
  | .lst h => .lst (e _ _ h)
  | .tup h => .tup (e _ _ h)
  | .dict h => .dict (e _ _ h)
def tupV (H : Hp) (x : V) : Option (List V) := match x with
  | .ref a => (match H a with | some (.tup xs) => some xs | _ => none)
  | _ => none
theorem tupV_at {H : Hp} {a : Addr} {xs : List V} (h : H a = some (.tup xs)) : tupV H (.ref a) = some xs := by unfold tupV; simp only [h]
theorem tupV_some {H : Hp} {x : V} {xs : List V} (h : tupV H x = some xs) : ∃ a, x = .ref a ∧ H a = some (.tup xs) := by
  unfold tupV at h
  cases x <;> simp only [reduceCtorEq] at h
  rename_i a
  split at h
  · rename_i ys e; cases h; exact ⟨a, rfl, e⟩
  · cases h
theorem Val.tupV {H : Hp} {x : V} {k : Kind} (h : Val H x k) : (k ≠ .tup ∧ tupV H x = none) ∨ (k = .tup ∧ ∃ a xs, x = .ref a ∧ H a = some (.tup xs) ∧ tupV H x = some xs) := by
  cases h with
  | tup h => exact .inr ⟨rfl, _, _, rfl, h, tupV_at h⟩
  | lst h => exact .inl ⟨by decide, by unfold As.tupV; simp only [h]⟩
  | dict h => exact .inl ⟨by decide, by unfold As.tupV; simp only [h]⟩
  | non => exact .inl ⟨by decide, rfl⟩
  | bl => exact .inl ⟨by decide, rfl⟩
  | int => exact .inl ⟨by decide, rfl⟩
  | str => exact .inl ⟨by decide, rfl⟩
theorem tupV_same {H H' : Hp} {x : V} {k : Kind} (h : Val H x k) (e : Same H H') : tupV H' x = tupV H x := by
  rcases h.tupV with ⟨n, t⟩ | ⟨n, a, xs, rfl, ha, t⟩
  · rw [t]
    rcases (h.same e).tupV with ⟨_, t'⟩ | ⟨n', _⟩
    · exact t'
    · exact absurd n' n
  · rw [t, tupV_at (e _ _ ha)]
section
variable {P : Program} {w : World} {K : PySem.W.Frag} {mg : Str → Option Value} {base : Heap}
def pairB (H : Hp) (x : V) : Bool := match tupV H x with | some xs => decide (xs.length = 2) | none => false
def spPairA : Sp := fun vs H Q _ => ∃ x k b, vs = [x] ∧ Val H x k ∧ pairB H x = b ∧ Q (.bl b) H
theorem ok_pairA {f : Addr} {fd : FuncData} (D : Df K mg "is_pair" s_is_pair ["thing"] f fd) (T : Bi mg) : FnOk P w K mg base CX0 1 f fd ["thing"] spPairA := by
  refine D.F.ok sc_pair (fun vs H Q E h => ?_) (fun cdv A outer s H vs Q E hr h => ?_)
  · obtain ⟨a, xs, b, rfl, _⟩ := h; rfl
  · obtain ⟨x, k, b, rfl, hk, eb, q⟩ := h
    subst eb
    unfold pairB at q
    refine ⟨_, pss_one (ps_ret (pe_and (pe_callB call_isi (by rfl) T.isinst (by decide +kernel) (pa_cons (pv 0) (pa_cons (pe_bltn (v := .ty "tuple") (by rfl) T.tuple (by decide +kernel) rfl) pa_nil)))
      (pe_one (pe_cmpR op_eq (pe_callB call_len_seq (by rfl) T.len PySem.boot_len (pa_cons (pv 0) pa_nil)) pe_int (nomark _))))), ?_⟩
    refine ⟨_, rfl, _, _, _, _, _, rfl, .ty "tuple", hk.ty, kit_tup k, _, rfl, ?_⟩
    rcases hk.tupV with ⟨n, e⟩ | ⟨n, a, xs, rfl, ha, e⟩
    · rw [decide_eq_false n]
      rw [e] at q
      exact iteF q
    · rw [e] at q
      rw [decide_eq_true n]
      refine iteT ⟨_, rfl, a, xs, rfl, .inr (tof ha), rfl, ?_⟩
      have e : decide (V.int (xs.length : Int) = V.int 2) = decide (xs.length = 2) := by
        by_cases h : xs.length = 2
        · rw [h]; rfl
        · rw [decide_eq_false h]; exact decide_eq_false fun z => h (by injection z with z; omega)
      rw [e]
      exact q
def belowV (x : V) (n : Int) : Bool := match x with | .int i => decide (0 ≤ i ∧ i < n) | _ => false
def spBelow (K : PySem.W.Frag) : Sp := fun vs H Q _ => ∃ x k n, vs = [x, .int n] ∧ Val H x k ∧ Q (.bl (belowV x n)) H
theorem sc_below : FnScope ["thing", "bound"] ["thing", "bound"] (defScope s_is_below) := ⟨rfl, rfl, rfl, by decide +kernel, rfl, by decide +kernel, by decide +kernel⟩
theorem ok_below {f fu : Addr} {fd du : FuncData} (D : Df K mg "is_below" s_is_below ["thing", "bound"] f fd) (T : Bi mg) (Du : Df K mg "is_number" s_is_number ["thing"] fu du) (Gu : FnOk P w K mg base CX0 1 fu du ["thing"] (spNumber K)) : FnOk P w K mg base CX0 2 f fd ["thing", "bound"] (spBelow K) := by
  refine D.F.ok sc_below (fun vs H Q E h => ?_) (fun cdv A outer s H vs Q E hr h => ?_)
  · obtain ⟨x, k, n, rfl, _⟩ := h; rfl
  · obtain ⟨x, k, n, rfl, hk, q⟩ := h
    refine ⟨_, pss_one (ps_ret (pe_and (pcall Du Gu hr (pa_cons (pv 0) pa_nil)) (pe_one (pe_chain op_le op_lt pe_int (pv 0) (pv 1))))), ?_⟩
    refine ⟨_, rfl, x, .type k.name, _, _, rfl, hk.ty, kit_int k, kit_bool k, _, rfl, ?_⟩
    by_cases e : k = .int
    · subst e
      cases hk with
      | int i =>
        refine iteT ⟨_, rfl, 0, i, rfl, rfl, _, rfl, ?_⟩
        have e : belowV (.int i) n = (decide (0 ≤ i) && decide (i < n)) := by show decide (0 ≤ i ∧ i < n) = _; rw [Bool.decide_and]
        rw [e] at q
        by_cases h0 : 0 ≤ i
        · rw [decide_eq_true h0] at q ⊢
          exact iteT ⟨_, rfl, i, n, rfl, rfl, q⟩
        · rw [decide_eq_false h0] at q ⊢
          exact iteF q
    · have e1 : (decide (k = .int ∨ k = .bl) && !decide (k = .bl)) = false := by cases k <;> first | rfl | exact absurd rfl e
      rw [e1]
      have e2 : belowV x n = false := by cases hk <;> first | rfl | exact absurd rfl e
      rw [e2] at q
      exact iteF q
def spanI (cs : List CRow) (r : TRow) : List Int := r.2.2.2.map (sizeI cs)
def isFactV (H : Hp) (cs : List CRow) (ts : List TRow) (x : V) : Bool := match tupV H x with
  | some [y, z] => (match y with
    | .str t => (match tabOf ts t with
      | some r => (match tupV H z with
        | some vs => decide (vs.length = r.2.2.2.length) && (vs.zip (spanI cs r)).all fun p => belowV p.1 p.2
        | none => false)
      | none => false)
    | _ => false)
  | _ => false
def Deep (H : Hp) (x : V) : Prop := (∃ k, Val H x k) ∧ ∀ xs, tupV H x = some xs → ∀ y ∈ xs, (∃ k, Val H y k) ∧ ∀ ys, tupV H y = some ys → ∀ z ∈ ys, ∃ k, Val H z k
def spIsFact (C : Addr) : Sp := fun vs H Q _ => ∃ (p : Addr) (x : V) (cs : List CRow) (ts : List TRow), vs = [.ref p, x] ∧ PlanAt H C p cs ts ∧ ColsOk H cs ∧ TabsOk H (cs.map (·.2.1)) ts ∧ Deep H x ∧ ∀ H', Same H H' → Q (.bl (isFactV H cs ts x)) H'
theorem spanVs_ints {H : Hp} {cs : List CRow} {ts : List TRow} (okc : ColsOk H cs) (okt : TabsOk H (cs.map (·.2.1)) ts) {r : TRow} (hr : r ∈ ts) : spanVs cs r = (spanI cs r).map V.int := by
  unfold spanVs spanI
  rw [List.map_map]
  apply List.map_congr_left
  intro c hc
  have h := (valV_sz okc (okt.own r hr c hc)).1
  show sizeV cs c = _
  unfold sizeV; rw [h]; rfl
abbrev nIsFact : List Str := ["plan", "thing", "table", "row", "spans", "value", "size"]
theorem sc_is_fact : FnScope nIsFact ["plan", "thing"] (defScope s_is_fact) := ⟨rfl, rfl, rfl, by decide +kernel, rfl, by decide +kernel, by decide +kernel⟩
theorem ok_is_fact {f fp fb fs C : Addr} {fd dp db ds : FuncData} (D : Df K mg "is_fact" s_is_fact ["plan", "thing"] f fd) (T : Bi mg) (zi : mg "zip" = none) (L : PlF K C) (Fs : Fun K "spans" "Plan.spans" s_spans fs ds) (bs : Binds K ds ["self", "table"] []) (ms : Meth K C "spans" fs)
    (Dp : Df K mg "is_pair" s_is_pair ["thing"] fp dp) (Gp : FnOk P w K mg base CX0 1 fp dp ["thing"] spPairA) (Db : Df K mg "is_below" s_is_below ["thing", "bound"] fb db) (Gb : FnOk P w K mg base CX0 2 fb db ["thing", "bound"] (spBelow K)) :
    FnOk P w K mg base CX0 3 f fd ["plan", "thing"] (spIsFact C) := by
  have Gs : FnOk P w K mg base CX0 1 fs ds ["self", "table"] (spSpans K C) := ok_spans Fs T L
  refine D.F.ok sc_is_fact (fun vs H Q E h => ?_) (fun cdv A outer s H vs Q E hr h => ?_)
  · obtain ⟨p, x, cs, ts, rfl, _⟩ := h; rfl
  · obtain ⟨p, x, cs, ts, rfl, pl, okc, okt, ⟨⟨k, hk⟩, deep⟩, q⟩ := h
    obtain ⟨dx, ct, tt, sz, sp, sh, ks, h1, _⟩ := id pl
    have hr1 : Room 1 _ := hr.mono (by decide)
    refine ⟨_, pss_cons (ps_if (pt_not (pt_val (pcall Dp Gp hr1 (pa_cons (pv 1) pa_nil)))) (pss_one (ps_ret pe_bl)) pss_nil)
      (pss_cons (ps_asg (pv 1) (pg_tup rfl (pgs_cons (pg_name (i := 2) sc_is_fact.nd rfl (Or.inl rfl)) (pgs_cons (pg_name (i := 3) sc_is_fact.nd rfl (Or.inl rfl)) pgs_nil))))
      (pss_cons (ps_set (i := 4) sc_is_fact.nd rfl (Or.inl rfl) (pe_meth (pv 0) L.cl ms Gs hr1 bs .nil pass0 (pa_cons (pv 2) pa_nil)))
      (pss_cons (ps_if (PW.pt (pw_or (pt_cmp (pc_isN (pv 4))) (pw_or (pt_not (pt_val (pe_callB call_isi (by rfl) T.isinst (by decide +kernel) (pa_cons (pv 3) (pa_cons (pe_bltn (v := .ty "tuple") (by rfl) T.tuple (by decide +kernel) rfl) pa_nil)))))
          (pw_or1 (pt_cmpR op_ne (pe_callB call_len_seq (by rfl) T.len PySem.boot_len (pa_cons (pv 3) pa_nil)) (pe_callB call_len_seq (by rfl) T.len PySem.boot_len (pa_cons (pv 4) pa_nil)) (nomark _)))))) (pss_one (ps_ret pe_bl)) pss_nil)
      (pss_one (ps_ret (pe_callB (cr_all rfl) (by rfl) T.all (by decide +kernel) (pa_cons (pe_lc (own := [("value", 5), ("size", 6)]) (g := gTup K 2 (gCons (gName 5) (gCons (gName 6) gNil))) (tt := tYes) rfl sc_is_fact.nd (pi_zipA (by rfl) zi (pa_cons (pv 3) (pa_cons (pv 4) pa_nil)))
        (blkOk_by (N := nIsFact) (sc := defScope s_is_fact) (by decide +kernel)) (fun _ _ _ _ _ => pgT K (pg_tup rfl (pgs_cons (pg_name (i := 5) sc_is_fact.nd rfl (Or.inl rfl)) (pgs_cons (pg_name (i := 6) sc_is_fact.nd rfl (Or.inl rfl)) pgs_nil)))) (fun _ _ _ _ _ => pts_nil)
        (fun _ _ _ _ _ => pcall Db Gb hr (pa_cons (pv 5) (pa_cons (pv 6) pa_nil)))) pa_nil))))))), ?_⟩
    have no : (pf ct tt sz sp sh).lookup (Str.ofString "spans") = none := pf_no (by decide +kernel) (by decide +kernel) (by decide +kernel) (by decide +kernel) (by decide +kernel)
    have q0 := q H (Same.refl H)
    rcases hk.tupV with ⟨_, e⟩ | ⟨_, a, xs, rfl, ha, e⟩
    · have e0 : isFactV H cs ts x = false := by unfold isFactV; rw [e]
      rw [e0] at q0
      exact ⟨_, rfl, x, k, false, rfl, hk, by unfold pairB; rw [e], false, rfl, iteT q0⟩
    by_cases l2 : xs.length = 2
    case neg =>
      have e0 : isFactV H cs ts (.ref a) = false := by
        unfold isFactV; rw [e]
        rcases xs with _ | ⟨y, _ | ⟨z, _ | ⟨u, r⟩⟩⟩
        · rfl
        · rfl
        · exact absurd rfl l2
        · rfl
      rw [e0] at q0
      exact ⟨_, rfl, _, k, false, rfl, hk, by unfold pairB; rw [e]; exact decide_eq_false l2, false, rfl, iteT q0⟩
    refine ⟨_, rfl, _, k, true, rfl, hk, by unfold pairB; rw [e]; exact decide_eq_true l2, true, rfl, ?_⟩
    obtain ⟨y, z, rfl⟩ : ∃ y z, xs = [y, z] := by
      rcases xs with _ | ⟨y, _ | ⟨z, _ | ⟨u, r⟩⟩⟩
      · cases l2
      · cases l2
      · exact ⟨y, z, rfl⟩
      · simp at l2
    have dp := deep _ e
    obtain ⟨⟨ky, hy⟩, _⟩ := dp y (by simp)
    obtain ⟨⟨kz, hz⟩, dz⟩ := dp z (by simp)
    refine iteF ⟨_, rfl, a, _, rfl, tof ha, rfl, _, _, rfl, _, _, rfl, rfl, ?_⟩
    refine ⟨_, rfl, p, dx, _, rfl, h1, no, _, rfl, p, y, cs, ts, rfl, pl, ?_⟩
    by_cases sy : ky = .str
    case neg =>
      have e0 : isFactV H cs ts (.ref a) = false := by
        unfold isFactV; rw [e]
        cases hy <;> first | rfl | exact absurd rfl sy
      rw [e0] at q0
      refine .inr ⟨⟨.type ky.name, hy.ty, by rw [kit_str, decide_eq_false sy]⟩, ?_⟩
      exact ⟨_, rfl, true, rfl, iteT q0⟩
    subst sy
    cases hy with
    | str t =>
      refine .inl ⟨t, rfl, fun e1 => ?_, fun r qs e1 hqs => ?_⟩
      · have e0 : isFactV H cs ts (.ref a) = false := by unfold isFactV; rw [e]; dsimp only; rw [e1]
        rw [e0] at q0
        exact ⟨_, rfl, true, rfl, iteT q0⟩
      · have hrm : r ∈ ts := List.mem_of_find?_eq_some e1
        refine ⟨_, rfl, false, rfl, iteF ?_⟩
        rcases hz.tupV with ⟨nz, ez⟩ | ⟨nz, b, vs, rfl, hb, ez⟩
        · have e0 : isFactV H cs ts (.ref a) = false := by unfold isFactV; rw [e]; dsimp only; rw [e1]; dsimp only; rw [ez]
          rw [e0] at q0
          exact ⟨_, rfl, _, _, _, _, false, rfl, .ty "tuple", hz.ty, by rw [kit_tup, decide_eq_false nz], false, rfl, iteT q0⟩
        refine ⟨_, rfl, _, _, _, _, true, rfl, .ty "tuple", hz.ty, by rw [kit_tup, decide_eq_true nz], true, rfl, ?_⟩
        have ev : isFactV H cs ts (.ref a) = (decide (vs.length = r.2.2.2.length) && (vs.zip (spanI cs r)).all fun p => belowV p.1 p.2) := by unfold isFactV; rw [e]; dsimp only; rw [e1]; dsimp only; rw [ez]
        rw [ev] at q
        have sl : (spanVs cs r).length = r.2.2.2.length := by unfold spanVs; rw [List.length_map]
        refine iteF ⟨_, rfl, b, vs, rfl, .inr (tof hb), _, rfl, qs, _, rfl, .inr (tof hqs), rfl, _, rfl, ?_⟩
        rw [sl]
        by_cases el : vs.length = r.2.2.2.length
        case neg =>
          have e2 : decide (V.int (vs.length : Int) = V.int (r.2.2.2.length : Int)) = false := decide_eq_false fun z => el (by injection z with z; omega)
          rw [e2]
          have := q H (Same.refl H)
          rw [decide_eq_false el] at this
          exact iteT this
        rw [el, decide_eq_true rfl]
        rw [decide_eq_true el, Bool.true_and] at q
        refine iteF ?_
        refine ⟨_, rfl, _, rfl, b, qs, vs, _, rfl, .inr ⟨tof hb, tof hqs, fun D nD => ?_⟩⟩
        refine lc_pair (H1 := H) (walk_zipT (xs := vs) (ys := spanVs cs r) (n := vs.length) (by rw [sl, el]; omega)) nD (fun H2 s2 => ⟨tof (s2 _ _ hb), tof (s2 _ _ hqs)⟩) ?_
          (fun i acc _ => acc = ((vs.zip (spanI cs r)).take i).map fun p => V.bl (belowV p.1 p.2)) rfl (fun _ _ _ _ _ h => h) (fun i u v T H2 acc Q1 Q2 hi eu ev s2 hT p k1 k2 => ?_) (fun H2 acc s2 hD2 p => ?_)
        · rw [el]; exact Nat.lt_of_le_of_lt (okt.two r hrm).2 (by decide)
        · obtain ⟨ku, hu⟩ := dz vs ez u (List.mem_of_getElem? eu)
          rw [spanVs_ints okc okt hrm] at ev
          rw [List.getElem?_map] at ev
          obtain ⟨n, en, rfl⟩ := Option.map_eq_some_iff.mp ev
          have ezip : (vs.zip (spanI cs r))[i]? = some (u, n) := by
            rw [List.getElem?_zip_eq_some]; exact ⟨eu, en⟩
          refine ⟨T, _, rfl, tof hT, rfl, _, _, rfl, _, _, rfl, rfl, rfl, ?_⟩
          refine iteT (B := Q2 H2) ?_
          refine ⟨_, rfl, _, rfl, u, ku, n, rfl, hu.same s2, k1 _ _ (Same.refl _) ?_⟩
          rw [p, List.take_succ, ezip, List.map_append]; rfl
        · have ezl : (vs.zip (spanI cs r)).length = vs.length := by
            rw [List.length_zip]; unfold spanI; rw [List.length_map, el]; omega
          rw [← ezl, List.take_length] at p
          subst p
          refine ⟨D, (vs.zip (spanI cs r)).map fun p => belowV p.1 p.2, rfl, lof (by rw [List.map_map]; exact hD2), ?_⟩
          rw [all_map]; exact q _ s2
end
end As

/-! ## C4p -/
namespace As
open PySem PySem.Spec PyProof.Rows L2
/-- an own error class without its own __init__ -/
structure ErC (K : PySem.W.Frag) (mg : Str → Option Value) (x : Str) (C : Addr) : Prop where
  q : PySem.W.excIn K C [.type "ValueError", .type "Exception", .type "BaseException", .type "object"] "ValueError.__new__" = true
  g : mg x = some (.ref C)
  k : PySem.W.keepIn K (.ref C) = true
  b : PySem.W.subIn K (.ref C) (.type "BaseException") = some true
  t : PySem.W.typeIn K (.ref C) = some (.type "type")
section
variable {P : Program} {w : World} {K : PySem.W.Frag} {mg : Str → Option Value} {base : Heap}
def spCheck (C CB : Addr) : Sp := fun vs H Q E => ∃ (p : Addr) (x : V) (cs : List CRow) (ts : List TRow), vs = [.ref p, x] ∧ PlanAt H C p cs ts ∧ ColsOk H cs ∧ TabsOk H (cs.map (·.2.1)) ts ∧ Deep H x ∧
  (isFactV H cs ts x = true → ∀ H', Same H H' → Q .non H') ∧ (isFactV H cs ts x = false → ∀ H', Same H H' → E (.ref CB) none H')
def sidesUp (k : FK) (i : Nat) : List LK := ((k.2.take i).zipIdx).map fun p => (k.1, (p.2 : Int), p.1)
def sidesOf (k : FK) : List LK := sidesUp k k.2.length
theorem sidesUp_succ {k : FK} {i : Nat} {v : Int} (h : k.2[i]? = some v) : sidesUp k (i + 1) = sidesUp k i ++ [(k.1, (i : Int), v)] := by
  unfold sidesUp
  rw [List.take_succ, h, List.zipIdx_append, List.map_append]
  have hl : (k.2.take i).length = i := by
    rw [List.length_take]
    have := (List.getElem?_eq_some_iff.mp h).1
    omega
  rw [hl]
  simp
def spSeers (C CB : Addr) : Sp := fun vs H Q E => ∃ (p : Addr) (x : V) (cs : List CRow) (ts : List TRow), vs = [.ref p, x] ∧ PlanAt H C p cs ts ∧ ColsOk H cs ∧ TabsOk H (cs.map (·.2.1)) ts ∧ Deep H x ∧
  ((∃ r : FRow, x = fv r ∧ FAt H r ∧ r.2.2.2.length ≤ 2 ∧ isFactV H cs ts x = true ∧ ∀ p' (ls : List LRow) H', Same H H' → H' p' = some (.tup (ls.map lv)) → (∀ l ∈ ls, LAt H' l) → ls.map (·.2) = sidesOf r.2.2 → Q (.ref p') H') ∨
   (isFactV H cs ts x = false ∧ ∀ H', Same H H' → E (.ref CB) none H'))
theorem atI_map {α : Type} {f : α → V} {xs : List α} {i : Int} {v : α} (h : atI xs i = some v) : atI (xs.map f) i = some (f v) := by
  unfold atI at h ⊢
  rw [List.length_map]
  cases e : ixN xs.length i with
  | none => rw [e] at h; cases h
  | some j =>
    rw [e] at h
    have h' : xs[j]? = some v := h
    show (xs.map f)[j]? = some (f v)
    rw [List.getElem?_map, h']; rfl
def spSees : Sp := fun vs H Q _ => ∃ (l : LRow) (r : FRow), vs = [lv l, fv r] ∧ LAt H l ∧ FAt H r ∧ (l.2.1 = r.2.2.1 → ∃ v, atI r.2.2.2 l.2.2.1 = some v) ∧ Q (.bl (decide (l.2.1 = r.2.2.1) && decide (atI r.2.2.2 l.2.2.1 = some l.2.2.2))) H
end
end As

/-! ## C4a -/
namespace As
open PySem PySem.Spec PyProof.Rows L2
section
variable {P : Program} {w : World} {K : PySem.W.Frag} {mg : Str → Option Value} {base : Heap}
theorem sc_check : FnScope ["plan", "thing"] ["plan", "thing"] (defScope s_check_fact) := ⟨rfl, rfl, rfl, by decide +kernel, rfl, by decide +kernel, by decide +kernel⟩
theorem ok_check {f fi C CB : Addr} {fd di : FuncData} (D : Df K mg "check_fact" s_check_fact ["plan", "thing"] f fd) (T : Bi mg) (Di : Df K mg "is_fact" s_is_fact ["plan", "thing"] fi di) (Gi : FnOk P w K mg base CX0 3 fi di ["plan", "thing"] (spIsFact C)) (B : ErC K mg "BadFact" CB) :
    FnOk P w K mg base (L2.CX P w) 4 f fd ["plan", "thing"] (spCheck C CB) := by
  refine D.F.okX sc_check (fun vs H Q E h => ?_) (fun cdv A outer s H vs Q E hr h => ?_)
  · obtain ⟨p, x, cs, ts, rfl, _⟩ := h; rfl
  · obtain ⟨p, x, cs, ts, rfl, pl, okc, okt, dp, q1, q2⟩ := h
    refine ⟨_, pss_one (ps_if (pt_not (pt_val (pcall Di Gi hr (pa_cons (pv 0) (pa_cons (pv 1) pa_nil))))) (pss_one (ps_raise rfl (takes_of rfl rfl rfl rfl) (pmk_own PySem.F.excBase_ValueError B.q B.g B.k (raises_own B.b B.t) rfl))) pss_nil), ?_⟩
    refine ⟨_, rfl, _, rfl, p, x, cs, ts, rfl, pl, okc, okt, dp, fun H' s' => ?_⟩
    refine ⟨_, rfl, ?_⟩
    cases e : isFactV H cs ts x with
    | true => exact iteF (q1 e H' s')
    | false => exact iteT (q2 e H' s')
end
end As

/-! ## C4c -/
namespace As
open PySem PySem.Spec PyProof.Rows L2
section
variable {P : Program} {w : World} {K : PySem.W.Frag} {mg : Str → Option Value} {base : Heap}
/-- looks_that_see: of a fact, a new list of the looks -/
def spLts : Sp := fun vs H Q _ => ∃ r : FRow, vs = [fv r] ∧ FAt H r ∧ r.2.2.2.length ≤ 2 ∧ ∀ p (ls : List LRow) H', Same H H' → H p = none → H' p = some (.lst (ls.map lv)) → (∀ l ∈ ls, LAt H' l) → ls.map (·.2) = sidesOf r.2.2 → Q (.ref p) H'
abbrev nLts : List Str := ["fact", "table", "row", "side", "value"]
theorem sc_lts : FnScope nLts ["fact"] (defScope s_looks_that_see) := ⟨rfl, rfl, rfl, by decide +kernel, rfl, by decide +kernel, by decide +kernel⟩
theorem ok_lts {f : Addr} {fd : FuncData} (D : Df K mg "looks_that_see" s_looks_that_see ["fact"] f fd) (en : mg "enumerate" = none) : FnOk P w K mg base CX0 1 f fd ["fact"] spLts := by
  refine D.F.ok sc_lts (fun vs H Q E h => ?_) (fun cdv A outer s H vs Q E hr h => ?_)
  · obtain ⟨r, rfl, _⟩ := h; rfl
  · obtain ⟨r, rfl, ⟨f1, f2⟩, l2, q⟩ := h
    refine ⟨_, pss_cons (ps_asg (pv 0) (pg_tup rfl (pgs_cons (pg_name (i := 1) sc_lts.nd rfl (Or.inr rfl)) (pgs_cons (pg_name (i := 2) sc_lts.nd rfl (Or.inl rfl)) pgs_nil))))
      (pss_one (ps_ret (pe_lc (own := [("side", 3), ("value", 4)]) (g := gTup K 2 (gCons (gName 3) (gCons (gName 4) gNil))) (tt := tYes) rfl sc_lts.nd (pi_enumT (by rfl) en (pa_cons (pv 2) pa_nil))
        (blkOk_by (N := nLts) (sc := defScope s_looks_that_see) (by decide +kernel)) (fun _ _ _ _ _ => pgT K (pg_tup rfl (pgs_cons (pg_name (i := 3) sc_lts.nd rfl (Or.inl rfl)) (pgs_cons (pg_name (i := 4) sc_lts.nd rfl (Or.inl rfl)) pgs_nil)))) (fun _ _ _ _ _ => pts_nil)
        (fun _ _ _ _ _ => pe_tup (pa_cons (pv 1) (pa_cons (pv 3) (pa_cons (pv 4) pa_nil))))))), ?_⟩
    have vl : (r.2.2.2.map V.int).length = r.2.2.2.length := List.length_map _
    refine ⟨_, rfl, r.1, _, rfl, tof f1, rfl, _, _, rfl, _, _, rfl, rfl, ?_⟩
    refine ⟨_, rfl, r.2.1, _, rfl, tof f2, fun D nD => ?_⟩
    refine lc_pair (H1 := H) walk_enumT nD (fun H2 s2 => tof (s2 _ _ f2)) (by rw [vl]; exact Nat.lt_of_le_of_lt l2 (by decide)) (fun i acc H' => ∃ ls : List LRow, acc = ls.map lv ∧ (∀ l ∈ ls, LAt H' l) ∧ ls.map (·.2) = sidesUp r.2.2 i)
      ⟨[], rfl, (fun _ z => nomatch z), rfl⟩ (fun i acc H H' im ⟨ls, e, fa, k⟩ => ⟨ls, e, fun l hl => (fa l hl).imm im, k⟩) (fun i u v T H2 acc Q1 Q2 hi eu ev s2 hT ⟨ls, ea, fa, k⟩ k1 k2 => ?_) (fun H2 acc s2 hD2 ⟨ls, ea, fa, k⟩ => ?_)
    · have eu' : u = .int (i : Nat) := (Option.some.inj eu).symm
      subst eu' ea
      have ev' : (r.2.2.2.map V.int)[i]? = some v := ev
      rw [List.getElem?_map] at ev'
      obtain ⟨n, en', rfl⟩ := Option.map_eq_some_iff.mp ev'
      refine ⟨T, _, rfl, tof hT, rfl, _, _, rfl, _, _, rfl, rfl, rfl, ?_⟩
      refine iteT (B := Q2 H2) ?_
      refine ⟨_, rfl, _, rfl, _, rfl, by show 3 ≤ sizeLine; decide, fun t nt => ?_⟩
      refine k1 _ _ (same_new nt) ⟨ls ++ [(t, r.2.2.1, (i : Int), n)], ?_, fun l hl => ?_, ?_⟩
      · rw [List.map_append]; rfl
      · rcases List.mem_append.mp hl with hl | hl
        · exact (fa l hl).imm (imm_new nt)
        · rw [List.mem_singleton] at hl; subst hl; exact upd_same
      · rw [List.map_append, k, sidesUp_succ en']; rfl
    · subst ea
      rw [vl] at k
      exact q D ls H2 s2 nD hD2 fa k
end
end As

/-! ## C2p -/
namespace As
open PySem PySem.Spec PyProof.Rows L2 TL
open PySem.W (dataLe AllAlike Sortable dataLt alike)
section
variable {P : Program} {w : World} {K : PySem.W.Frag} {mg : Str → Option Value} {base : Heap}
def spLLooks : Sp := fun vs H Q _ => ∃ (cl tl : Addr) (cs : List CRow) (ts : List TRow), vs = [.ref cl, .ref tl] ∧ H cl = some (.lst (cs.map cv)) ∧ H tl = some (.lst (ts.map tv)) ∧ ColsOk H cs ∧ TabsOk H (cs.map (·.2.1)) ts ∧
  ∀ p (fs : List LRow) H', Same H H' → H p = none → H' p = some (.lst (fs.map lv)) → (∀ r ∈ fs, LAt H' r) → fs.map (·.2) = sortL (ts.flatMap (looksT cs)) → Q (.ref p) H'
end
end As

/-! ## C5 -/
namespace As
open PySem PySem.Spec PyProof.Rows L2
open PySem.W (dataLe AllAlike Sortable dataLt alike keyToks keyToksAll)
theorem lk_inj {a b : LK} (h : keyToks (lkD a) = keyToks (lkD b)) : a = b := by
  obtain ⟨n, s, v⟩ := a
  obtain ⟨n', s', v'⟩ := b
  simp only [lkD, keyToks, keyToksAll, List.cons_append, List.nil_append, List.cons.injEq, Sum.inr.injEq, Sum.inl.injEq, true_and, and_true] at h
  obtain ⟨h1, h2, h3⟩ := h
  rw [PySem.W.str_of_cps h1, h2, h3]
theorem sorted_eq {β : Type} {k : β → PyData} (inj : ∀ a b, keyToks (k a) = keyToks (k b) → a = b) {l m : List β} (p : l.Perm m) (hl : l.Pairwise fun a b => dataLe false k a b = true) (hm : m.Pairwise fun a b => dataLe false k a b = true) : l = m := by
  refine List.Perm.eq_of_pairwise (le := fun a b => dataLe false k a b = true) (fun a b _ _ h1 h2 => inj a b ?_) hl hm p
  have e1 : (PyProof.Rows.listOrd PyProof.Rows.itemOrd).blt (keyToks (k b)) (keyToks (k a)) = false := by
    have h : (!(PyProof.Rows.listOrd PyProof.Rows.itemOrd).blt (keyToks (k b)) (keyToks (k a))) = true := h1
    rwa [Bool.not_eq_true'] at h
  have e2 : (PyProof.Rows.listOrd PyProof.Rows.itemOrd).blt (keyToks (k a)) (keyToks (k b)) = false := by
    have h : (!(PyProof.Rows.listOrd PyProof.Rows.itemOrd).blt (keyToks (k a)) (keyToks (k b))) = true := h2
    rwa [Bool.not_eq_true'] at h
  exact (PyProof.Rows.listOrd PyProof.Rows.itemOrd).total _ _ e2 e1
theorem sortL_sorted (l : List LK) : (sortL l).Pairwise fun a b => dataLe false lkD a b = true := PySem.W.sort_pairwise (PySem.W.sortLe_total _ _ _) l
theorem sortF_sorted (l : List FK) : (sortF l).Pairwise fun a b => dataLe false fkD a b = true := PySem.W.sort_pairwise (PySem.W.sortLe_total _ _ _) l
theorem sortL_perm (l : List LK) : (sortL l).Perm l := List.mergeSort_perm _ _
theorem sortF_perm (l : List FK) : (sortF l).Perm l := List.mergeSort_perm _ _
theorem lk_le {n : Str} {s s' v v' : Int} (h : s < s') : dataLe false lkD (n, s, v) (n, s', v') = true := by
  show (!dataLt (lkD (n, s', v')) (lkD (n, s, v))) = true
  unfold lkD
  rw [PySem.W.dataLt_tuple, PySem.W.dataLt_all_yes (by simp [alike]) (by simp [PyData.eqv]), PySem.W.dataLt_all_no (by simp [alike]) (by simp [PyData.eqv]; omega), PySem.W.dataLt_int]
  simp; omega
/-! one table alone -/
theorem flat_one {β : Type} {g : TRow → List β} : ∀ {ts : List TRow}, (ts.map (·.2.1)).Nodup → ∀ {r : TRow}, r ∈ ts → (∀ r' ∈ ts, r'.2.1 ≠ r.2.1 → g r' = []) → ts.flatMap g = g r
  | [], _, _, hr, _ => nomatch hr
  | a :: t, nd, r, hr, h => by
    rw [List.map_cons, List.nodup_cons] at nd
    rw [List.flatMap_cons]
    rcases List.mem_cons.mp hr with e | hr
    · subst e
      have : t.flatMap g = [] := List.flatMap_eq_nil_iff.mpr fun r' hr' => h r' (List.mem_cons_of_mem _ hr') fun z => nd.1 (List.mem_map.mpr ⟨r', hr', z⟩)
      rw [this, List.append_nil]
    · have e : g a = [] := h a List.mem_cons_self fun z => nd.1 (List.mem_map.mpr ⟨r, hr, z.symm⟩)
      rw [e, List.nil_append, flat_one nd.2 hr fun r' hr' => h r' (List.mem_cons_of_mem _ hr')]
theorem ir_filter {n : Nat} {v : Int} (h0 : 0 ≤ v) (h1 : v < n) (p : Int → Bool) (hp : ∀ u ∈ ir n, p u = decide (u = v)) : (ir n).filter p = [v] := by
  have e : (ir n).filter p = (ir n).filter fun u => decide (u = v) := List.filter_congr hp
  rw [e]
  clear e hp
  induction n with
  | zero => omega
  | succ n ih =>
    rw [ir_succ, List.filter_append]
    by_cases hv : v = n
    · subst hv
      have e : (ir n).filter (fun u => decide (u = (n : Int))) = [] := List.filter_eq_nil_iff.mpr fun u hu => by
        obtain ⟨k, hk, rfl⟩ := List.mem_map.mp hu
        have := List.mem_range.mp hk
        simp; omega
      rw [e]; simp
    · rw [ih (by omega)]
      have : ¬ ((n : Int) = v) := fun z => hv z.symm
      simp [this]
def seesB (l : LK) (k : FK) : Bool := decide (l.1 = k.1) && decide (atI k.2 l.2.1 = some l.2.2)
/-- k is a fact of the table r -/
def OfT (cs : List CRow) (r : TRow) (k : FK) : Prop := k.1 = r.2.1 ∧ ((∃ c v, r.2.2.2 = [c] ∧ k.2 = [v] ∧ 0 ≤ v ∧ v < sizeI cs c) ∨ ∃ c d v o, r.2.2.2 = [c, d] ∧ k.2 = [v, o] ∧ (0 ≤ v ∧ v < sizeI cs c) ∧ 0 ≤ o ∧ o < sizeI cs d)
def LofT (cs : List CRow) (r : TRow) (l : LK) : Prop := l.1 = r.2.1 ∧ ∃ (s : Nat) (c : Str), r.2.2.2[s]? = some c ∧ l.2.1 = s ∧ 0 ≤ l.2.2 ∧ l.2.2 < sizeI cs c
theorem ir_mem {n : Nat} {v : Int} : v ∈ ir n ↔ 0 ≤ v ∧ v < n := by
  unfold ir
  rw [List.mem_map]
  constructor
  · rintro ⟨k, hk, rfl⟩; have := List.mem_range.mp hk; omega
  · rintro ⟨h0, h1⟩; exact ⟨v.toNat, List.mem_range.mpr (by omega), by omega⟩
theorem factsT_of {cs : List CRow} {r : TRow} {k : FK} (h : k ∈ factsT cs r) : OfT cs r k := by
  obtain ⟨ra, n, qa, ps⟩ := r
  unfold factsT firstN factsUp at h
  dsimp only at h
  split at h
  · rename_i c
    obtain ⟨v, hv, rfl⟩ := List.mem_map.mp h
    rw [ir_mem] at hv
    exact ⟨rfl, .inl ⟨c, v, rfl, rfl, hv.1, by have h2 : v < ((sizeI cs c).toNat : Int) := hv.2; omega⟩⟩
  · rename_i c d
    obtain ⟨v, hv, h⟩ := List.mem_flatMap.mp h
    obtain ⟨o, ho, rfl⟩ := List.mem_map.mp h
    rw [ir_mem] at hv ho
    exact ⟨rfl, .inr ⟨c, d, v, o, rfl, rfl, ⟨hv.1, by have h2 : v < ((sizeI cs c).toNat : Int) := hv.2; omega⟩, ho.1, by have h2 : o < ((sizeI cs d).toNat : Int) := ho.2; omega⟩⟩
  · cases h
theorem looksT_of {cs : List CRow} {r : TRow} {l : LK} (h : l ∈ looksT cs r) : LofT cs r l := by
  obtain ⟨ra, n, qa, ps⟩ := r
  unfold looksT looksUp at h
  obtain ⟨s, hs, h⟩ := List.mem_flatMap.mp h
  obtain ⟨v, hv, rfl⟩ := List.mem_map.mp h
  rw [ir_mem] at hv
  have hs' := List.mem_range.mp hs
  dsimp only at hs' hv
  rw [List.getD_eq_getElem?_getD, List.getElem?_eq_getElem hs'] at hv
  refine ⟨rfl, s, ps[s], List.getElem?_eq_getElem hs', rfl, hv.1, ?_⟩
  have h2 : v < ((sizeI cs ps[s]).toNat : Int) := hv.2
  show v < sizeI cs ps[s]
  omega
theorem ir_flat {β : Type} {n : Nat} {v : Int} {x : β} (h0 : 0 ≤ v) (h1 : v < n) {g : Int → List β} (hg : ∀ u ∈ ir n, g u = if u = v then [x] else []) : (ir n).flatMap g = [x] := by
  induction n with
  | zero => omega
  | succ n ih =>
    rw [ir_succ, List.flatMap_append, List.flatMap_cons, List.flatMap_nil, List.append_nil]
    by_cases hv : v = n
    · have e : (ir n).flatMap g = [] := List.flatMap_eq_nil_iff.mpr fun u hu => by
        rw [hg u (by rw [ir_succ]; exact List.mem_append_left _ hu), if_neg]
        have := (ir_mem.mp hu).2
        omega
      rw [e, hg n (by rw [ir_succ]; simp), if_pos hv.symm]; rfl
    · rw [ih (by omega) (fun u hu => hg u (by rw [ir_succ]; exact List.mem_append_left _ hu)), hg n (by rw [ir_succ]; simp), if_neg (fun z => hv z.symm)]; rfl
theorem name_one {ts : List TRow} (nd : (ts.map (·.2.1)).Nodup) : ∀ {r r' : TRow}, r ∈ ts → r' ∈ ts → r.2.1 = r'.2.1 → r = r' := by
  induction ts with
  | nil => intro r r' h; cases h
  | cons a t ih =>
    intro r r' h h' e
    rw [List.map_cons, List.nodup_cons] at nd
    rcases List.mem_cons.mp h with g | g <;> rcases List.mem_cons.mp h' with g' | g'
    · rw [g, g']
    · rw [g] at e; exact (nd.1 (List.mem_map.mpr ⟨r', g', e.symm⟩)).elim
    · rw [g'] at e; exact (nd.1 (List.mem_map.mpr ⟨r, g, e⟩)).elim
    · exact ih nd.2 g g' e
theorem tabOf_of {ts : List TRow} (nd : (ts.map (·.2.1)).Nodup) {r : TRow} (h : r ∈ ts) : tabOf ts r.2.1 = some r := by
  unfold tabOf
  cases e : ts.find? (fun x => decide (x.2.1 = r.2.1)) with
  | none => exact absurd (List.find?_eq_none.mp e r h) (by simp)
  | some r' =>
    have h1 := List.find?_some e
    rw [name_one nd (List.mem_of_find?_eq_some e) h (by simpa using h1)]
theorem atI_zero {α : Type} {x : α} {xs : List α} : atI (x :: xs) 0 = some x := atI_lt (i := 0) (by decide) (by simp) rfl
theorem atI_one {α : Type} {x y : α} {xs : List α} : atI (x :: y :: xs) 1 = some y := atI_lt (i := 1) (by decide) (by simp; omega) rfl
theorem looks_filter {cs : List CRow} {ts : List TRow} (nd : (ts.map (·.2.1)).Nodup) {r : TRow} (hr : r ∈ ts) {k : FK} (hk : OfT cs r k) : (ts.flatMap (looksT cs)).filter (fun l => seesB l k) = sidesOf k := by
  rw [List.filter_flatMap, flat_one nd hr]
  · obtain ⟨ra, n, qa, ps⟩ := r
    obtain ⟨kn, kr⟩ := k
    obtain ⟨rfl, ⟨c, v, hp, hv, h0, h1⟩ | ⟨c, d, v, o, hp, hv, ⟨h0, h1⟩, h2, h3⟩⟩ := hk
    · dsimp only at hp hv
      subst hp hv
      show ((ir (sizeI cs c).toNat).map (fun u => ((kn, (0 : Nat), u) : LK)) ++ []).filter _ = [(kn, 0, v)]
      rw [List.append_nil, List.filter_map, ir_filter h0 (by omega) _ (fun u _ => ?_)]
      · rfl
      · show (decide (kn = kn) && decide (atI [v] (0 : Int) = some u)) = _
        rw [atI_zero]
        by_cases e : u = v
        · simp [e]
        · simp [e]; exact fun z => e z.symm
    · dsimp only at hp hv
      subst hp hv
      show ((ir (sizeI cs c).toNat).map (fun u => ((kn, (0 : Nat), u) : LK)) ++ ((ir (sizeI cs d).toNat).map (fun u => ((kn, (1 : Nat), u) : LK)) ++ [])).filter _ = [(kn, 0, v), (kn, 1, o)]
      rw [List.append_nil, List.filter_append, List.filter_map, List.filter_map, ir_filter h0 (by omega) _ (fun u _ => ?_), ir_filter h2 (by omega) _ (fun u _ => ?_)]
      · rfl
      · show (decide (kn = kn) && decide (atI [v, o] (1 : Int) = some u)) = _
        rw [atI_one]
        by_cases e : u = o
        · simp [e]
        · simp [e]; exact fun z => e z.symm
      · show (decide (kn = kn) && decide (atI [v, o] (0 : Int) = some u)) = _
        rw [atI_zero]
        by_cases e : u = v
        · simp [e]
        · simp [e]; exact fun z => e z.symm
  · intro r' hr' hn
    refine List.filter_eq_nil_iff.mpr fun l hl => ?_
    have := (looksT_of hl).1
    unfold seesB
    rw [decide_eq_false (fun z => hn (by rw [← this, z, hk.1]))]
    simp
theorem due_eq {cs : List CRow} {ts : List TRow} (nd : (ts.map (·.2.1)).Nodup) {r : TRow} (hr : r ∈ ts) {k : FK} (hk : OfT cs r k) : (sortL (ts.flatMap (looksT cs))).filter (fun l => seesB l k) = sidesOf k := by
  have p : ((sortL (ts.flatMap (looksT cs))).filter (fun l => seesB l k)).Perm (sidesOf k) := by
    rw [← looks_filter nd hr hk]
    exact (sortL_perm _).filter _
  refine sorted_eq (fun a b => lk_inj) p ((sortL_sorted _).filter _) ?_
  obtain ⟨kn, kr⟩ := k
  obtain ⟨rfl, ⟨c, v, hp, hv, _⟩ | ⟨c, d, v, o, hp, hv, _⟩⟩ := hk
  · dsimp only at hv
    subst hv
    exact List.pairwise_singleton _ _
  · dsimp only at hv
    subst hv
    show List.Pairwise _ [(_, 0, v), (_, 1, o)]
    refine List.pairwise_cons.mpr ⟨fun x hx => ?_, List.pairwise_singleton _ _⟩
    rw [List.mem_singleton] at hx; subst hx
    exact lk_le (by decide)
theorem sides_len {cs : List CRow} {r : TRow} {k : FK} (hk : OfT cs r k) : (sidesOf k).length = k.2.length := by
  unfold sidesOf sidesUp
  rw [List.length_map, List.length_zipIdx, List.take_length]
theorem own_at {cs : List CRow} {ts : List TRow} (nd : (ts.map (·.2.1)).Nodup) {r r' : TRow} (hr : r ∈ ts) (hr' : r' ∈ ts) {l : LK} {k : FK} (hl : LofT cs r' l) (hk : OfT cs r k) (e : l.1 = k.1) : ∃ v, atI k.2 l.2.1 = some v := by
  have er : r = r' := name_one nd hr hr' (by rw [← hk.1, ← hl.1, e])
  subst er
  obtain ⟨_, s, c, hs, h1, _⟩ := hl
  have hlen : r.2.2.2.length = k.2.length := by
    obtain ⟨_, ⟨c, v, hp, hv, _⟩ | ⟨c, d, v, o, hp, hv, _⟩⟩ := hk <;> rw [hp, hv] <;> rfl
  have hlt := (List.getElem?_eq_some_iff.mp hs).1
  refine ⟨k.2[s], ?_⟩
  rw [h1]
  exact atI_lt (by omega) (by omega) (by rw [show ((s : Int)).toNat = s by omega]; exact List.getElem?_eq_getElem (by omega))
theorem isFact_of {cs : List CRow} {ts : List TRow} (nd : (ts.map (·.2.1)).Nodup) {r : TRow} (hr : r ∈ ts) {H : Hp} {x : FRow} (hx : FAt H x) (hk : OfT cs r x.2.2) : isFactV H cs ts (fv x) = true := by
  unfold isFactV fv
  rw [tupV_at hx.1]
  dsimp only
  rw [hk.1, tabOf_of nd hr]
  dsimp only
  rw [tupV_at hx.2]
  dsimp only
  unfold spanI
  obtain ⟨_, ⟨c, v, hp, hv, h0, h1⟩ | ⟨c, d, v, o, hp, hv, ⟨h0, h1⟩, h2, h3⟩⟩ := hk
  · rw [hp, hv]; simp [belowV, h0, h1]
  · rw [hp, hv]; simp [belowV, h0, h1, h2, h3]
theorem deep_f {H : Hp} {x : FRow} (hx : FAt H x) : Deep H (fv x) := by
  refine ⟨⟨_, .tup hx.1⟩, fun xs e y hy => ?_⟩
  rw [show tupV H (fv x) = _ from tupV_at hx.1] at e
  cases e
  simp only [List.mem_cons, List.not_mem_nil, or_false] at hy
  rcases hy with rfl | rfl
  · exact ⟨⟨_, .str _⟩, fun ys e => nomatch e⟩
  · refine ⟨⟨_, .tup hx.2⟩, fun ys e z hz => ?_⟩
    rw [tupV_at hx.2] at e; cases e
    obtain ⟨i, _, rfl⟩ := List.mem_map.mp hz
    exact ⟨_, .int i⟩
theorem crossed {cs : List CRow} {ts : List TRow} (nd : (ts.map (·.2.1)).Nodup) {l1 l2 : LK} {r1 r2 : TRow} (two : ∀ r ∈ ts, r.2.2.2.length ≤ 2) (h1 : r1 ∈ ts) (h2 : r2 ∈ ts) (k1 : LofT cs r1 l1) (k2 : LofT cs r2 l2) (e : l2.1 = l1.1) (lt : l1.2.1 < l2.2.1) :
    (((sortF (ts.flatMap (factsT cs))).filter fun k => seesB l1 k).filter fun k => seesB l2 k).length = 1 := by
  have er : r2 = r1 := name_one nd h2 h1 (by rw [← k1.1, ← k2.1, e])
  subst er
  obtain ⟨n1, s1, c1, p1, a1, b1, d1⟩ := k1
  obtain ⟨n2, s2, c2, p2, a2, b2, d2⟩ := k2
  obtain ⟨la, lb, lc⟩ := l1
  obtain ⟨ma, mb, mc⟩ := l2
  dsimp only at n1 n2 a1 a2 b1 b2 d1 d2 e lt
  have t2 := two _ h2
  have q2 := (List.getElem?_eq_some_iff.mp p2).1
  have es1 : s1 = 0 := by omega
  have es2 : s2 = 1 := by omega
  subst es1 es2 a1 a2
  obtain ⟨ra, n, qa, ps⟩ := r2
  dsimp only at p1 p2 t2 n1 n2
  obtain rfl : ps = [c1, c2] := by
    rcases ps with _ | ⟨x, _ | ⟨y, _ | ⟨z, w⟩⟩⟩
    · cases p1
    · cases p2
    · cases p1; cases p2; rfl
    · simp at t2
  subst n1 n2
  have p : (((sortF (ts.flatMap (factsT cs))).filter fun k => seesB (ma, (0 : Nat), lc) k).filter fun k => seesB (ma, (1 : Nat), mc) k).Perm (((ts.flatMap (factsT cs)).filter fun k => seesB (ma, (0 : Nat), lc) k).filter fun k => seesB (ma, (1 : Nat), mc) k) := ((sortF_perm _).filter _).filter _
  rw [p.length_eq, List.filter_filter, List.filter_flatMap, flat_one nd h2]
  · show (((ir (sizeI cs c1).toNat).flatMap fun v => (ir (sizeI cs c2).toNat).map fun o => ((ma, [v, o]) : FK)).filter _).length = 1
    rw [List.filter_flatMap, ir_flat (v := lc) (x := (ma, [lc, mc])) b1 (by omega) (fun u hu => ?_)]
    · rfl
    · rw [List.filter_map]
      by_cases hu' : u = lc
      · subst hu'
        rw [if_pos rfl, ir_filter b2 (by omega) _ (fun o _ => ?_)]
        · rfl
        · show ((decide (ma = ma) && decide (atI [u, o] (1 : Int) = some mc)) && (decide (ma = ma) && decide (atI [u, o] (0 : Int) = some u))) = _
          rw [atI_one, atI_zero]
          simp
      · rw [if_neg hu']
        have : (ir (sizeI cs c2).toNat).filter ((fun a => seesB (ma, ((1 : Nat) : Int), mc) a && seesB (ma, ((0 : Nat) : Int), lc) a) ∘ fun o => (ma, [u, o])) = [] := List.filter_eq_nil_iff.mpr fun o _ => by
          show ¬ ((decide (ma = ma) && decide (atI [u, o] (1 : Int) = some mc)) && (decide (ma = ma) && decide (atI [u, o] (0 : Int) = some lc))) = true
          rw [atI_one, atI_zero]
          simp [hu']
        rw [this]; rfl
  · intro r' hr' hn
    refine List.filter_eq_nil_iff.mpr fun k hk => ?_
    have := (factsT_of hk).1
    unfold seesB
    rw [decide_eq_false (fun z => hn (by rw [← this, ← z]))]
    simp
end As

/-! ## F0 -/
namespace As
open PySem PySem.Spec PyProof.Rows L2
open PySem.W (dataLe AllAlike Sortable dataLt alike)
/-! facts as keys of a dict -/
def fkN (k : FK) : NestedKey := .tup [.text k.1, .tup (k.2.map .num)]
theorem num_inj : ∀ {xs ys : List Int}, xs.map NestedKey.num = ys.map NestedKey.num → xs = ys
  | [], [], _ => rfl
  | [], _ :: _, h => nomatch h
  | _ :: _, [], h => nomatch h
  | x :: xs, y :: ys, h => by
    injection h with h1 h2
    injection h1 with h1
    rw [h1, num_inj h2]
theorem fkN_inj {a b : FK} (h : fkN a = fkN b) : a = b := by
  obtain ⟨x, xs⟩ := a
  obtain ⟨y, ys⟩ := b
  unfold fkN at h
  injection h with h
  injection h with h1 h2
  injection h2 with h2 _
  injection h1 with h1
  injection h2 with h2
  dsimp only at h1 h2
  rw [h1, num_inj h2]
theorem nk_ints {H : Hp} : ∀ {xs : List Int}, NkAll H (xs.map .num) (xs.map V.int)
  | [] => .nil
  | x :: _ => .cons (.int x) nk_ints
theorem nk_f {H : Hp} {f : FRow} (h : FAt H f) : NkV H (fkN f.2.2) (fv f) := .tup h.1 (.cons (.str _) (.cons (.tup h.2 nk_ints) .nil))
theorem ints_depthN : ∀ {xs : List Int}, NestedKey.depthAll (xs.map .num) = 0
  | [] => by simp [NestedKey.depthAll]
  | x :: xs => by simp [NestedKey.depthAll, NestedKey.depth, ints_depthN (xs := xs)]
theorem fkN_depth (k : FK) : (fkN k).depth ≤ 8 := by
  simp [fkN, NestedKey.depth, NestedKey.depthAll, ints_depthN]
theorem key_f {H : Hp} {f : FRow} (h : FAt H f) : KeyAt H (fkN f.2.2) f.1 := ⟨nk_f h, fkN_depth _⟩
def fEnt (f : FRow) : NEnt := (fkN f.2.2, f.1, .bl true)
def fNew (fs : List FRow) (f : FRow) : List FRow := if f.2.2 ∈ fs.map (·.2.2) then fs else fs ++ [f]
theorem ndVal_f {fs : List FRow} {k : FK} : (ndVal (fs.map fEnt) (fkN k)).isSome = decide (k ∈ fs.map (·.2.2)) := by
  induction fs with
  | nil => simp [ndVal]
  | cons f fs ih =>
    unfold ndVal at ih ⊢
    rw [List.map_cons, List.find?_cons]
    by_cases h : f.2.2 = k
    · subst h; simp [fEnt]
    · have h2 : ¬ (fkN f.2.2 = fkN k) := fun z => h (fkN_inj z)
      have h3 : decide ((fEnt f).1 = fkN k) = false := decide_eq_false h2
      rw [h3]
      have h4 : ¬ k = f.2.2 := fun z => h z.symm
      simp only [ih, List.map_cons, List.mem_cons, h4, false_or]
theorem ndPut_f {fs : List FRow} {f : FRow} : ndPut (fs.map fEnt) (fkN f.2.2) f.1 (.bl true) = (fNew fs f).map fEnt := by
  unfold ndPut fNew
  rw [ndVal_f]
  by_cases h : f.2.2 ∈ fs.map (·.2.2)
  · rw [if_pos (decide_eq_true h), if_pos h, List.map_map]
    apply List.map_congr_left
    intro g _
    show (if fkN g.2.2 = fkN f.2.2 then (fkN g.2.2, g.1, V.bl true) else fEnt g) = fEnt g
    split <;> rfl
  · rw [if_neg (by simp [h]), if_neg h, List.map_append]; rfl
/-- the facts told of so far, each once -/
def uniq (gs : List FRow) (i : Nat) : List FRow := (gs.take i).foldl fNew []
theorem uniq_succ {gs : List FRow} {i : Nat} {f : FRow} (h : gs[i]? = some f) : uniq gs (i + 1) = fNew (uniq gs i) f := by
  unfold uniq
  rw [List.take_succ, h, List.foldl_append]; rfl
theorem fNew_mem {fs : List FRow} {f g : FRow} (h : g ∈ fNew fs f) : g ∈ fs ∨ g = f := by
  unfold fNew at h
  split at h
  · exact .inl h
  · rcases List.mem_append.mp h with h | h
    · exact .inl h
    · exact .inr (List.mem_singleton.mp h)
theorem fNew_keys {fs : List FRow} {f : FRow} {k : FK} : k ∈ (fNew fs f).map (·.2.2) ↔ k ∈ fs.map (·.2.2) ∨ k = f.2.2 := by
  unfold fNew
  split
  · rename_i h
    constructor
    · exact .inl
    · rintro (h2 | rfl)
      · exact h2
      · exact h
  · rw [List.map_append, List.mem_append]; simp
theorem fNew_nd {fs : List FRow} {f : FRow} (h : (fs.map (·.2.2)).Nodup) : ((fNew fs f).map (·.2.2)).Nodup := by
  unfold fNew
  split
  · exact h
  · rename_i n
    rw [List.map_append, List.nodup_append]
    exact ⟨h, by simp, fun a ha b hb => by
      simp at hb; subst hb; rintro rfl; exact n ha⟩
theorem uniq_prop {gs : List FRow} : ∀ i, i ≤ gs.length → (∀ f ∈ uniq gs i, f ∈ gs) ∧ ((uniq gs i).map (·.2.2)).Nodup ∧ (∀ k, k ∈ (uniq gs i).map (·.2.2) ↔ k ∈ (gs.take i).map (·.2.2)) ∧ (uniq gs i).length ≤ i
  | 0, _ => ⟨fun _ h => (by cases h), List.nodup_nil, fun k => by simp [uniq], Nat.le_refl _⟩
  | i + 1, h => by
    obtain ⟨h1, h2, h3, h4⟩ := uniq_prop i (Nat.le_of_succ_le h)
    have hi : gs[i]? = some gs[i] := List.getElem?_eq_getElem h
    rw [uniq_succ hi]
    refine ⟨fun f hf => ?_, fNew_nd h2, fun k => ?_, ?_⟩
    · rcases fNew_mem hf with hf | rfl
      · exact h1 f hf
      · exact List.getElem_mem h
    · rw [fNew_keys, h3, List.take_succ, hi, List.map_append, List.mem_append]; simp
    · unfold fNew; split
      · omega
      · rw [List.length_append, List.length_singleton]; omega
/-! a store as an object -/
theorem mPP : ¬ (Str.ofString "_plan") = (Str.ofString "_present") := by decide +kernel
theorem mPF : ¬ (Str.ofString "_plan") = (Str.ofString "_facts") := by decide +kernel
theorem mEF : ¬ (Str.ofString "_present") = (Str.ofString "_facts") := by decide +kernel
def sf2 (p pr : Addr) : List (Str × V) := putF (Str.ofString "_present") (.ref pr) (putF (Str.ofString "_plan") (.ref p) [])
def sf (p pr fa : Addr) : List (Str × V) := putF (Str.ofString "_facts") (.ref fa) (sf2 p pr)
theorem sf2_E {p pr : Addr} : (sf2 p pr).lookup (Str.ofString "_present") = some (.ref pr) := by unfold sf2; rw [lookup_putF, if_pos rfl]
theorem sf_P {p pr fa : Addr} : (sf p pr fa).lookup (Str.ofString "_plan") = some (.ref p) := by
  unfold sf sf2; rw [lookup_putF, if_neg mPF, lookup_putF, if_neg mPP, lookup_putF, if_pos rfl]
theorem sf_E {p pr fa : Addr} : (sf p pr fa).lookup (Str.ofString "_present") = some (.ref pr) := by
  unfold sf; rw [lookup_putF, if_neg mEF]; exact sf2_E
theorem sf_F {p pr fa : Addr} : (sf p pr fa).lookup (Str.ofString "_facts") = some (.ref fa) := by unfold sf; rw [lookup_putF, if_pos rfl]
theorem sf_no {p pr fa : Addr} {m : Str} (h1 : ¬ m = (Str.ofString "_plan")) (h2 : ¬ m = (Str.ofString "_present")) (h3 : ¬ m = (Str.ofString "_facts")) : (sf p pr fa).lookup m = none := by
  unfold sf sf2; rw [lookup_putF, if_neg h3, lookup_putF, if_neg h2, lookup_putF, if_neg h1]; rfl
def keysF (fs : List FRow) : List FK := fs.map (·.2.2)
/-- ascending, each once -/
def Asc (ks : List FK) : Prop := ks.Nodup ∧ ks.Pairwise fun a b => dataLe false fkD a b = true
def StoreAt (P : Program) (w : World) (H : Hp) (S s p : Addr) (fs : List FRow) : Prop := ∃ (dx pr fa : Addr) (us : List FRow), H s = some (.ins S dx (sf p pr fa)) ∧ H pr = some (NDict P w pr (us.map fEnt)) ∧ (∀ f ∈ us, FAt H f) ∧ us.length ≤ 100000 ∧ H fa = some (.tup (fs.map fv)) ∧ us.Perm fs ∧ Asc (keysF fs)
theorem StoreAt.same {P : Program} {w : World} {H H' : Hp} {S s p : Addr} {fs : List FRow} (h : StoreAt P w H S s p fs) (e : Same H H') : StoreAt P w H' S s p fs := by
  obtain ⟨dx, pr, fa, us, h1, h2, h3, h3', h4, h5, h6⟩ := h
  exact ⟨dx, pr, fa, us, e _ _ h1, e _ _ h2, fun f hf => (h3 f hf).imm (same_imm e), h3', e _ _ h4, h5, h6⟩
theorem StoreAt.fat {P : Program} {w : World} {H : Hp} {S s p : Addr} {fs : List FRow} (h : StoreAt P w H S s p fs) : ∀ f ∈ fs, FAt H f := by
  obtain ⟨dx, pr, fa, us, h1, h2, h3, h3', h4, h5, h6⟩ := h
  exact fun f hf => h3 f (h5.mem_iff.mpr hf)
/-- all are facts of the plan -/
def OwnF (cs : List CRow) (ts : List TRow) (fs : List FRow) : Prop := ∀ f ∈ fs, ∃ r ∈ ts, OfT cs r f.2.2
theorem toksJ : ∀ {a b : List Int}, PySem.W.keyToksAll (a.map .int) = PySem.W.keyToksAll (b.map .int) → a = b
  | [], [], _ => rfl
  | [], y :: b, h => by simp [PySem.W.keyToksAll] at h
  | x :: a, [], h => by simp [PySem.W.keyToksAll] at h
  | x :: a, y :: b, h => by
    simp only [List.map_cons, PySem.W.keyToksAll, PySem.W.keyToks, List.cons_append, List.nil_append, List.cons.injEq, Sum.inl.injEq, true_and] at h
    rw [h.1, toksJ h.2]
theorem fkJ {a b : FK} (h : PySem.W.keyToks (fkD a) = PySem.W.keyToks (fkD b)) : a = b := by
  obtain ⟨n, r⟩ := a
  obtain ⟨m, q⟩ := b
  simp only [fkD, PySem.W.keyToks, PySem.W.keyToksAll, List.cons_append, List.nil_append, List.cons.injEq, Sum.inr.injEq, true_and] at h
  obtain ⟨h1, h2⟩ := h
  rw [PySem.W.str_of_cps h1, toksJ (List.append_cancel_right h2)]
theorem asc_eq {xs ys : List FK} (hx : Asc xs) (hy : Asc ys) (h : ∀ k, k ∈ xs ↔ k ∈ ys) : xs = ys :=
  sorted_eq (fun a b => fkJ) ((List.perm_ext_iff_of_nodup hx.1 hy.1).mpr h) hx.2 hy.2
theorem asc_filter {xs : List FK} (p : FK → Bool) (h : Asc xs) : Asc (xs.filter p) := ⟨h.1.filter _, h.2.filter _⟩
end As

/-! ## A31 -/
namespace As
open PySem PySem.Spec PyProof.Rows L2
/-! more of dicts whose keys are tuples -/
theorem ndVal_key {es : List NEnt} {k : NestedKey} : (ndVal es k).isSome = decide (k ∈ es.map (·.1)) := by
  induction es with
  | nil => simp [ndVal]
  | cons e es ih =>
    unfold ndVal at ih ⊢
    rw [List.find?_cons]
    by_cases h : e.1 = k
    · subst h; simp
    · rw [decide_eq_false h]
      have h4 : ¬ k = e.1 := fun z => h z.symm
      simp only [ih, List.map_cons, List.mem_cons, h4, false_or]
theorem ndPut_key {es : List NEnt} {k : NestedKey} {a : Addr} {v : V} : ∀ k', k' ∈ (ndPut es k a v).map (·.1) ↔ k' ∈ es.map (·.1) ∨ k' = k := fun k' => by
  unfold ndPut
  rw [ndVal_key]
  by_cases h : k ∈ es.map (·.1)
  · rw [if_pos (decide_eq_true h)]
    have e : (es.map fun p => if p.1 = k then (p.1, p.2.1, v) else p).map (·.1) = es.map (·.1) := by
      rw [List.map_map]
      apply List.map_congr_left
      intro p _
      show (if p.1 = k then ((p.1, p.2.1, v) : NEnt) else p).1 = p.1
      split <;> rfl
    rw [e]
    exact ⟨.inl, fun z => z.elim id fun e => e ▸ h⟩
  · rw [if_neg (by rw [decide_eq_true_eq]; exact h), List.map_append, List.mem_append]
    simp
theorem ndPut_at {H : Hp} {es : List NEnt} {k : NestedKey} {a : Addr} {v : V} (h : KeysAt H es) (ka : KeyAt H k a) : KeysAt H (ndPut es k a v) := fun p hp => by
  unfold ndPut at hp
  split at hp
  · obtain ⟨q, hq, rfl⟩ := List.mem_map.mp hp
    split
    · exact h q hq
    · exact h q hq
  · rcases List.mem_append.mp hp with hp | hp
    · exact h p hp
    · rw [List.mem_singleton] at hp; subst hp; exact ka
/-- the key of a look -/
def lkN (k : LK) : NestedKey := .tup [.text k.1, .num k.2.1, .num k.2.2]
theorem lkN_inj {a b : LK} (h : lkN a = lkN b) : a = b := by
  obtain ⟨x, i, j⟩ := a
  obtain ⟨y, m, n⟩ := b
  unfold lkN at h
  injection h with h
  injection h with h1 h2
  injection h2 with h2 h3
  injection h3 with h3 _
  injection h1 with h1
  injection h2 with h2
  injection h3 with h3
  dsimp only at h1 h2 h3
  rw [h1, h2, h3]
theorem key_l {H : Hp} {l : LRow} (h : LAt H l) : KeyAt H (lkN l.2) l.1 := ⟨.tup h (.cons (.str _) (.cons (.int _) (.cons (.int _) .nil))), by simp [lkN, NestedKey.depth, NestedKey.depthAll]⟩
theorem mem_inj {α β : Type} {f : α → β} (inj : ∀ a b, f a = f b → a = b) {a : α} {l : List α} : f a ∈ l.map f ↔ a ∈ l :=
  ⟨fun h => by obtain ⟨b, hb, e⟩ := List.mem_map.mp h; rw [inj _ _ e] at hb; exact hb, fun h => List.mem_map_of_mem h⟩
/-- d[k] = v -/
def rSetN (P : Program) (w : World) : TSet := fun o i v H Q => ∃ D a es k, o = .ref D ∧ i = .ref a ∧ KeyAt H k a ∧ H D = some (NDict P w D es) ∧ KeysAt H es ∧ es.length < sizeLine ∧ Q (upd H D (NDict P w D (ndPut es k a v)))
def tDNewN (P : Program) (w : World) : TE := fun σ H Q => ∀ p, H p = none → Q (.ref p) (upd H p (NDict P w p []))
section
variable {X : Cx}
theorem set_nd (P : Program) (w : World) (hu : X.A.units + 64 < cLine) (hP : X.prog = P := by rfl) (hw : X.w = w := by rfl) : PSet X (rSetN P w) := by
  subst hP hw
  intro pins s σ H o i v ov iv u Q I ro ri rv h
  obtain ⟨D, a, es, k, rfl, rfl, hk, hD, ks, len, q⟩ := h
  cases (show ov = Value.ref D from ro)
  cases (show iv = Value.ref a from ri)
  obtain ⟨z1, z2, xs, t, hx⟩ := nd_get I.hok hD ks
  have lx : xs.length ≤ sizeLine := by rw [← paired_len t]; exact z1
  refine wpAny_setItem_heap (knd := nestedKind X.prog X.w) (hsz := lx) (show X.A.units + 1 + 8 < cLine by omega) (hk.is I.hok) hx fun h' hx' sb => ⟨_, ?_, q⟩
  have there : ∃ o, h'.get? D = some o := let ⟨o, _, _, ho, _⟩ := hx'; ⟨o, ho⟩
  exact d_write I (by rw [hD]; trivial) sb there (nd_ok (nd_new (Nat.le_trans ndPut_len len) z2 (nd_stored t rv) hx'))
/-- {} -/
theorem pe_dnewN (P : Program) (w : World) {pos : Pos} (hP : X.prog = P := by rfl) (hw : X.w = w := by rfl) : PE X (.Dict [] [] pos) (tDNewN P w) := hP ▸ hw ▸ ⟨fun pins s σ H Q I h =>
  wpAny_Dict_empty ⟨.ref s.heap.objs.size, _, I.laid (a := s.heap.objs.size) (o := NDict X.prog X.w s.heap.objs.size []) (t' := s.toks) (fun _ _ q => Heap.get?_push_of_some _ q) (Nat.le_refl _) (nd_ok (nd_fresh I.big)), rfl, h _ (I.hok.fresh (Nat.le_refl _))⟩⟩
theorem inNK (P : Program) (w : World) {i o : Expr} {ty td : TE} (room : X.A.units + 64 < cLine) (hi : PE X i ty) (ho : PE X o td) (hP : X.prog = P := by rfl) (hw : X.w = w := by rfl) : PC X .In i o (tInN P w true ty td) :=
  hP ▸ hw ▸ pc_inN (show X.A.units + 1 + 8 < cLine by omega) hi ho
end
/-- {x: True for x in xs} of tuples -/
theorem dcn_n {α : Type} {kf : α → NestedKey} {ad : α → Addr} {P : Program} {w : World} {J : It} {G : Hp → Prop} {gs : List α} {g : TG} {tt : TT} {tk tv : TE} {vs : List Nat} {σ : L2.St} {H1 : Hp} {D : Addr} {Qd : Hp → Prop}
    (wk : Walk J (gs.map fun x => V.ref (ad x)).length G (YAt (gs.map fun x => V.ref (ad x)))) (hG : ∀ H, Same H1 H → G H) (hD : H1 D = none) (fa : ∀ f ∈ gs, KeyAt H1 (kf f) (ad f)) (len : gs.length ≤ 10000)
    (hs : ∀ f H (Q1 : V → V → Hp → Prop) (Q2 : Hp → Prop), f ∈ gs → Same H1 H → (∀ H5, Same H H5 → Q1 (.ref (ad f)) (.bl true) H5) → g (.ref (ad f)) (wipe σ vs) H fun σ2 H2 => wipe σ2 vs = wipe σ vs ∧ tt σ2 H2 fun b H3 => if b = true then tk σ2 H3 (fun y H4 => tv σ2 H4 fun z H5 => Q1 y z H5) else Q2 H3)
    (hd : ∀ H (es : List NEnt), Same H1 H → H D = some (NDict P w D es) → KeysAt H es → (∀ k, k ∈ es.map (·.1) ↔ k ∈ gs.map kf) → es.length ≤ gs.length → Qd H) :
    ∃ W : Nat → Nat → Hp → Prop, (∃ m, W 0 m (upd H1 D (NDict P w D []))) ∧ ∀ i m H, W i m H → (J.stop i H ∧ Qd H) ∨ (J.go i H ∧ ∃ Nx : Hp → Prop, (∀ H', Nx H' → ∃ m', m' < m ∧ W (i + 1) m' H') ∧
      ∀ x H', J.yld i H x H' → g x (wipe σ vs) H' fun σ2 H2 => wipe σ2 vs = wipe σ vs ∧ tt σ2 H2 fun b H3 => if b = true then tk σ2 H3 fun y H4 => tv σ2 H4 fun z H5 => NdTurn P w D Nx y z H5 else Nx H3) := by
  have lenV : (gs.map fun x => V.ref (ad x)).length = gs.length := List.length_map _
  refine lc_gen (BODY := fun x H' Nx => g x (wipe σ vs) H' fun σ2 H2 => wipe σ2 vs = wipe σ vs ∧ tt σ2 H2 fun b H3 => if b = true then tk σ2 H3 fun y H4 => tv σ2 H4 fun z H5 => NdTurn P w D Nx y z H5 else Nx H3)
    wk (fun i H => ∃ es, Same H1 H ∧ H D = some (NDict P w D es) ∧ KeysAt H1 es ∧ (∀ k, k ∈ es.map (·.1) ↔ k ∈ (gs.take i).map kf) ∧ es.length ≤ i) ⟨[], same_new hD, upd_same, (fun _ z => nomatch z), (fun k => by simp), Nat.le_refl _⟩ (fun i H _ ⟨_, z, _⟩ => hG H z) (fun i x H H' hi z y => ?_) (fun H z => ?_)
  · obtain ⟨rfl, hx⟩ := y
    rw [List.getElem?_map] at hx
    obtain ⟨f, hf, rfl⟩ := Option.map_eq_some_iff.mp hx
    have fm := List.mem_of_getElem? hf
    obtain ⟨es, s, hd', ka, ke, el⟩ := z
    refine hs f H' (fun y z H5 => NdTurn P w D _ y z H5) _ fm s fun H5 s5 => ?_
    refine ⟨es, kf f, ad f, rfl, (fa f fm).imm (same_imm (s.trans s5)), s5 _ _ hd', ka.imm (same_imm (s.trans s5)), ?_, ndPut es (kf f) (ad f) (.bl true), same_mut (s.trans s5) hD, upd_same, ndPut_at ka (fa f fm), fun k => ?_, ?_⟩
    · exact Nat.lt_of_le_of_lt (show es.length ≤ 10000 by omega) (by decide)
    · rw [ndPut_key, ke k, List.take_succ, hf, List.map_append, List.mem_append]
      simp
    · have := ndPut_len (es := es) (k := kf f) (a := ad f) (v := .bl true); omega
  · obtain ⟨es, s, hd', ka, ke, el⟩ := z
    rw [lenV] at ke el
    rw [List.take_length] at ke
    exact hd H es s hd' (ka.imm (same_imm s)) ke el
end As

/-! ## A7 -/
namespace As
open PySem PySem.Spec PyProof.Rows L2 TL
theorem tl_len {z : Str} : z.length = (tl z).length := by show z.cps.size = z.cps.toList.length; rw [Array.length_toList]
theorem nameB_tl {z : Str} : nameB z = (decide (1 ≤ (tl z).length ∧ (tl z).length ≤ 8) && (tl z).all letter) := by
  unfold nameB; rw [tl_len]
theorem nameB_iff {z : Str} : nameB z = true ↔ (1 ≤ (tl z).length ∧ (tl z).length ≤ 8) ∧ ∀ c ∈ tl z, letter c = true := by
  rw [nameB_tl, Bool.and_eq_true, decide_eq_true_iff, List.all_eq_true]
def sg (c : Nat) : Str := ⟨#[c]⟩
theorem join_signs : ∀ cs : List Nat, tl (Txt.join (Str.ofString "") (cs.map sg)) = cs := fun cs => by
  rw [join_eq, tl_join]
  have e : tl (Str.ofString "") = [] := by decide +kernel
  rw [e]
  induction cs with
  | nil => rfl
  | cons c r ih =>
    cases r with
    | nil => rfl
    | cons d r =>
      show [c] ++ ([] ++ joinL [] ((List.map sg (d :: r)).map tl)) = c :: d :: r
      rw [ih]; rfl
theorem cut7 {z : Str} : tl (cutS z none (some 7)) = (tl z).take 7 := by
  unfold cutS
  show (((z.cps.toList.drop (HT.sIx z.length 0 none)).take (HT.sIx z.length z.length (some 7) - HT.sIx z.length 0 none)).toArray).toList = _
  rw [List.toList_toArray, HT.sIx_none, show (7 : Int) = ((7 : Nat) : Int) from rfl, HT.sIx_nat, List.drop_zero, Nat.sub_zero]
  by_cases h : 7 ≤ z.length
  · rw [Nat.min_eq_left h]
  · rw [Nat.min_eq_right (by omega), tl_len, List.take_length, List.take_of_length_le (by have := @tl_len z; omega)]
/-- z[:7] and one more sign -/
def longer (z : Str) (c : Nat) : Str := cutS z none (some 7) ++ sg c
theorem tl_longer {z : Str} {c : Nat} : tl (longer z c) = (tl z).take 7 ++ [c] := by
  unfold longer; rw [tl_append, cut7]; rfl
theorem longer_name {z : Str} {c : Nat} (h : nameB z = true) (hc : letter c = true) : nameB (longer z c) = true := by
  rw [nameB_iff] at h ⊢
  rw [tl_longer]
  refine ⟨?_, fun x hx => ?_⟩
  · rw [List.length_append, List.length_take]
    simp
    omega
  · rcases List.mem_append.mp hx with hx | hx
    · exact h.2 x (List.mem_of_mem_take hx)
    · rw [List.mem_singleton] at hx; rw [hx]; exact hc
theorem longer_inj {z : Str} {c d : Nat} (h : longer z c = longer z d) : c = d := by
  have e := congrArg tl h
  rw [tl_longer, tl_longer] at e
  have e2 := List.append_cancel_left e
  injection e2
theorem longer_len {z : Str} {c : Nat} : (longer z c).length ≤ 8 := by
  rw [tl_len, tl_longer, List.length_append, List.length_take]; simp; omega
def abc : Str := Str.ofString "abcdefghijklmnopqrstuvwxyz"
theorem abc_tl : tl abc = (List.range 26).map (· + 97) := by decide +kernel
theorem abc_letter : ∀ c ∈ tl abc, letter c = true := by decide +kernel
theorem abc_nodup : (tl abc).Nodup := by decide +kernel
theorem nodup_sub {α : Type} [DecidableEq α] : ∀ {xs ys : List α}, xs.Nodup → (∀ x ∈ xs, x ∈ ys) → xs.length ≤ ys.length
  | [], _, _, _ => Nat.zero_le _
  | x :: xs, ys, nd, h => by
    have n2 := List.nodup_cons.mp nd
    have ih := nodup_sub (ys := ys.erase x) n2.2 fun y hy => by
      have hne : y ≠ x := fun e => n2.1 (e ▸ hy)
      exact (List.mem_erase_of_ne hne).mpr (h y (List.mem_cons_of_mem _ hy))
    have hx := h x List.mem_cons_self
    rw [List.length_erase_of_mem hx] at ih
    have := List.length_pos_of_mem hx
    rw [List.length_cons]; omega
/-- of 27 words one is new -/
theorem some_new {z : Str} {fs : List Str} (h : fs.length < 26) : ∃ x r, (z :: (tl abc).map (longer z)).filter (fun y => !decide (y ∈ fs)) = x :: r ∧ x ∉ fs := by
  cases e : (z :: (tl abc).map (longer z)).filter (fun y => !decide (y ∈ fs)) with
  | cons x r =>
    have hx : x ∈ (z :: (tl abc).map (longer z)).filter (fun y => !decide (y ∈ fs)) := by rw [e]; exact List.mem_cons_self
    exact ⟨x, r, rfl, by have := (List.mem_filter.mp hx).2; simpa using this⟩
  | nil =>
    have all : ∀ x ∈ (tl abc).map (longer z), x ∈ fs := fun x hx => by
      have := List.filter_eq_nil_iff.mp e x (List.mem_cons_of_mem _ hx)
      simpa using this
    have nd : ((tl abc).map (longer z)).Nodup := by
      rw [List.Nodup, List.pairwise_map]
      exact abc_nodup.imp fun ne e => ne (longer_inj e)
    have l := nodup_sub nd all
    rw [List.length_map, abc_tl, List.length_map, List.length_range] at l
    omega
theorem new_name {z x : Str} {r fs : List Str} (hz : nameB z = true) (h : (z :: (tl abc).map (longer z)).filter (fun y => !decide (y ∈ fs)) = x :: r) : nameB x = true := by
  have hx : x ∈ (z :: (tl abc).map (longer z)).filter (fun y => !decide (y ∈ fs)) := by rw [h]; exact List.mem_cons_self
  rcases List.mem_cons.mp (List.mem_filter.mp hx).1 with e | e
  · rw [e]; exact hz
  · obtain ⟨c, hc, rfl⟩ := List.mem_map.mp e
    exact longer_name hz (abc_letter c hc)
end As

/-! ## A23 -/
namespace As
open PySem PySem.Spec PyProof.Rows L2
/-! every second item of a tuple -/
def evens {α : Type} : List α → List α
  | x :: _ :: r => x :: evens r
  | [x] => [x]
  | [] => []
theorem evens_get {α : Type} : ∀ (l : List α) (k : Nat), (evens l)[k]? = l[2 * k]?
  | [], k => by simp [evens]
  | [x], 0 => rfl
  | [x], k + 1 => by simp [evens]
  | x :: y :: r, 0 => rfl
  | x :: y :: r, k + 1 => by
    show (x :: evens r)[k + 1]? = _
    rw [List.getElem?_cons_succ, evens_get r k, show 2 * (k + 1) = 2 * k + 1 + 1 by omega, List.getElem?_cons_succ, List.getElem?_cons_succ]
theorem evens_len {α : Type} : ∀ (l : List α), (evens l).length = (l.length + 1) / 2
  | [] => by simp [evens]
  | [x] => by simp [evens]
  | x :: y :: r => by
    show (evens r).length + 1 = _
    rw [evens_len r]; simp only [List.length_cons]; omega
theorem evens_map {α β : Type} (f : α → β) : ∀ (l : List α), evens (l.map f) = (evens l).map f
  | [] => rfl
  | [x] => rfl
  | x :: y :: r => by
    show f x :: evens (r.map f) = f x :: (evens r).map f
    rw [evens_map f r]
theorem vals_evens : ∀ {xs : List V} {us : List Value}, Vals xs us → Vals (evens xs) (evens us)
  | _, _, .nil => .nil
  | _, _, .cons a .nil => .cons a .nil
  | _, _, .cons a (.cons _ t) => .cons a (vals_evens t)
theorem fm_congr {α β : Type} {f g : α → Option β} : ∀ {l : List α}, (∀ x ∈ l, f x = g x) → l.filterMap f = l.filterMap g
  | [], _ => rfl
  | x :: l, h => by rw [List.filterMap_cons, List.filterMap_cons, h x List.mem_cons_self, fm_congr fun y hy => h y (List.mem_cons_of_mem _ hy)]
theorem pick2 (items : Array Value) (a m : Nat) (hm : m = (items.size - a + 1) / 2) (ha : a ≤ items.size) : List.filterMap (fun (k : Nat) => items[((a : Int) + (k : Int) * 2).toNat]?) (List.range m) = evens (items.toList.drop a) := by
  have e : List.filterMap (fun (k : Nat) => items[((a : Int) + (k : Int) * 2).toNat]?) (List.range m) = (List.range m).map fun k => items.toList.getD (a + 2 * k) .none := by
    rw [← filterMap_some]
    apply fm_congr
    intro k hk
    have hk := List.mem_range.mp hk
    have h2 : a + 2 * k < items.size := by omega
    rw [show ((a : Int) + (k : Int) * 2).toNat = a + 2 * k by omega, ← Array.getElem?_toList, List.getD_eq_getElem?_getD, List.getElem?_eq_getElem (by rw [Array.length_toList]; exact h2)]
    rfl
  rw [e]
  apply List.ext_getElem?
  intro k
  rw [evens_get, List.getElem?_map, List.getElem?_drop]
  by_cases hk : k < m
  · rw [List.getElem?_range hk]
    have h2 : a + 2 * k < items.size := by omega
    show some (items.toList.getD (a + 2 * k) .none) = _
    rw [List.getD_eq_getElem?_getD, List.getElem?_eq_getElem (by rw [Array.length_toList]; exact h2)]; rfl
  · rw [List.getElem?_eq_none (by rw [List.length_range]; omega), List.getElem?_eq_none (by rw [Array.length_toList]; omega)]; rfl
section
variable {prog : Program} {w : World} {A : Around} {E : Value → Shared → Prop} {s : Shared}
theorem sliceApplied_2 {sl : Addr} {vl : Value} {u : Tok} {lo : Option Int} {n : Nat} {Q : Int × Int × Nat → Shared → Prop} (hs : s.heap.IsSliceOf sl vl .none (.int 2 u)) (pl : IsPart vl lo)
    (h : Q ((Builtin.Slice.sliceAdjust lo none 2 n).1, 2, Builtin.Slice.slicePlaces (Builtin.Slice.sliceAdjust lo none 2 n).1 (Builtin.Slice.sliceAdjust lo none 2 n).2 2) s) :
    wpAny (model prog w) A (Builtin.Slice.sliceApplied (.ref sl) (pure (n : Int))) Q E s := by
  obtain ⟨os, hos, hcs, hds⟩ := id hs
  unfold Builtin.Slice.sliceApplied Builtin.Slice.sliceFields
  refine wpAny_bind (wpAny_bind (wpAny_field hos hds rfl (wpAny_bind (wpAny_field hos hds rfl (wpAny_bind (wpAny_field hos hds rfl (wpAny_pure ?_)))))))
  refine wpAny_bind (HT.slicePart_ (.int 2 u) ?_)
  show wpAny _ _ (if ((2 : Int) == 0) = true then _ else _) _ _ _
  rw [if_neg (by decide)]
  refine wpAny_bind (HT.slicePart_ pl (wpAny_bind (HT.slicePart_ .none (wpAny_bind (wpAny_pure ?_)))))
  exact wpAny_pure h
theorem getItem_tuple_2 {t sl : Addr} {items : Array Value} {vl : Value} {u : Tok} {lo : Option Int} {a : Nat} {Q : Value → Shared → Prop} (ht : IsTup s.heap t items) (hs : s.heap.IsSliceOf sl vl .none (.int 2 u)) (pl : IsPart vl lo) (hlo : (lo = none ∧ a = 0) ∨ lo = some (a : Int)) (ha : a ≤ items.size)
    (q : Q (.ref s.heap.objs.size) { s with heap := s.heap.push { cls := .type "tuple", data := .seq (evens (items.toList.drop a)).toArray } }) (hsz : items.size ≤ sizeLine) :
    wpAny (model prog w) A (getItem (.ref t) (.ref sl)) Q E s := by
  obtain ⟨os, hos, hcs, hds⟩ := id hs
  have hTs : s.TypeIs (.ref sl) "slice" := ⟨os, hos, hcs⟩
  refine wpAny_holding (wpAny_bind (wpAny_sequenceKey ht.typeIs (by decide) (wpAny_bind (wpAny_callSpecial?_slot ht.typeIs slot_tuple_getitem (wpAny_call_entry slot_tuple_getitem ht.typeIs entry_tuple_getitem ?_ (args_tuple_getitem _ _))))))
  show wpAny _ _ (Builtin.Tuple.tupleItemsOf (.ref t) >>= _) _ _ _
  refine wpAny_bind (tupleItemsOf_ ht (wpAny_bind (wpAny_typeOf hTs ?_)))
  rw [if_pos (by decide)]
  refine wpAny_bind (sliceApplied_2 hs pl ?_)
  have e1 : Builtin.Slice.sliceAdjust lo none 2 (items.size : Nat) = ((a : Int), (items.size : Int)) := by
    rcases hlo with ⟨rfl, rfl⟩ | rfl
    · rfl
    · unfold Builtin.Slice.sliceAdjust
      simp only [show ¬ ((2 : Int) < 0) by decide, if_false]
      rw [if_neg (by omega), Int.min_eq_left (by omega)]
  rw [e1]
  have e2 : Builtin.Slice.slicePlaces (a : Int) (items.size : Int) 2 = (items.size - a + 1) / 2 := by
    unfold Builtin.Slice.slicePlaces
    rw [if_pos (by decide)]
    split <;> omega
  rw [e2]
  dsimp only
  rw [if_neg (by simp)]
  rw [pick2 items a _ rfl ha]
  have sm : (evens (items.toList.drop a)).toArray.size ≤ sizeLine := by
    rw [List.size_toArray, evens_len, List.length_drop, Array.length_toList]; omega
  refine wpAny_bind (wpAny_newObj_type (hd := sm) ?_)
  exact wpAny_pure ⟨_, rfl, wpAny_pure q⟩
/-- e[::2] and e[1::2] of a tuple -/
def tEvens (K : PySem.W.Frag) (a : Nat) (te : TE) : TE := fun σ H Q => te σ H fun x H1 => ∃ t xs, x = .ref t ∧ SqT K H1 t xs ∧ a ≤ xs.length ∧ ∀ p, H1 p = none → Q (.ref p) (upd H1 p (.tup (evens (xs.drop a))))
theorem pe_step {X : Cx} {e : PySem.Expr} {te : TE} {lo : Option PySem.Expr} {a k2 : Nat} {p2 p3 pos : Pos} (he : PE X e te) (hlo : (lo = none ∧ a = 0) ∨ ∃ k1 p1, lo = some (.Constant (.int (a : Int)) k1 p1)) :
    PE X (.Subscript e (.Slice lo none (some (.Constant (.int 2) k2 p2)) p3) pos) (tEvens X.K a te) := by
  refine ⟨fun pins s σ H Q I h => ?_⟩
  refine Subscript_ (thn (he.run pins s σ H _ I h) fun v s1 ⟨x, H1, I1, r1, t, xs, ex, ht, hl, q⟩ => ?_)
  subst ex
  obtain rfl : v = Value.ref t := r1
  refine wpAny_Slice ?_
  have plo : wpAny (model X.prog X.w) X.A (evalPart lo X.env) (fun u s' => ∃ o, L2.Inv X pins σ H1 s' ∧ IsPart u o ∧ ((o = none ∧ a = 0) ∨ o = some (a : Int))) X.xe s1 := by
    rcases hlo with ⟨rfl, ha⟩ | ⟨k1, p1, rfl⟩
    · exact thn (po_none.run pins s1 σ H1 (fun o H2 => o = none ∧ H2 = H1) I1 ⟨rfl, rfl⟩) fun u s2 ⟨o, H2, I2, pl, e1, e2⟩ => ⟨o, e2 ▸ I2, pl, .inl ⟨e1, ha⟩⟩
    · exact thn ((po_some pe_int).run pins s1 σ H1 (fun o H2 => o = some (a : Int) ∧ H2 = H1) I1 ⟨_, rfl, rfl, rfl⟩) fun u s2 ⟨o, H2, I2, pl, e1, e2⟩ => ⟨o, e2 ▸ I2, pl, .inr e1⟩
  refine thn plo fun vl s2 ⟨lo', I2, pl, hlo'⟩ => ?_
  refine thn (po_none.run pins s2 σ H1 (fun o H2 => o = none ∧ H2 = H1) I2 ⟨rfl, rfl⟩) fun vu s3 ⟨o, H3, I3, pu, eo, e3⟩ => ?_
  subst e3 eo
  cases pu
  refine thn ((po_some (pe_int (i := 2))).run pins s3 σ H3 (fun o H2 => o = some 2 ∧ H2 = H3) I3 ⟨_, rfl, rfl, rfl⟩) fun vs s4 ⟨o, H4, I4, ps, eo, e4⟩ => ?_
  subst e4 eo
  cases ps with
  | int _ u =>
  obtain ⟨h5, eh⟩ : ∃ h5, s4.heap.push { cls := .type "slice", data := .fields #[vl, .none, .int 2 u] } = h5 := ⟨_, rfl⟩
  have sl5 : h5.IsSliceOf s4.heap.objs.size vl .none (.int 2 u) := eh ▸ Heap.IsSliceOf.new s4.heap vl .none (.int 2 u)
  have kp : ∀ (b : Addr) (o : Obj), s4.heap.get? b = some o → h5.get? b = some o := fun b o e => eh ▸ Heap.get?_push_of_some _ e
  have I5 : L2.Inv X pins σ H4 { s4 with heap := h5 } := I4.kept (t' := s4.toks) kp
  rw [eh]
  obtain ⟨its, rv, it, hz⟩ := I5.tuple ht
  have ln : its.length = xs.length := (L2.Vals.length rv).symm
  refine tail_any it.typeIs slot_tuple_getitem.lookup (ops := [.ref t, .ref s4.heap.objs.size]) ?_ rfl
  refine getItem_tuple_2 (lo := lo') it sl5 pl hlo' (by rw [List.size_toArray]; omega) ?_ (by rw [List.size_toArray]; omega)
  refine ⟨.ref h5.objs.size, upd H4 h5.objs.size (.tup (evens (xs.drop a))), I5.laid (t' := s4.toks) (fun b o e => Heap.get?_push_of_some _ e) (Nat.le_refl _) ⟨?_, evens (its.drop a), vals_evens (rv.drop a), IsTup.new h5 _⟩, rfl, q _ (I5.hok.fresh (Nat.le_refl _))⟩
  rw [evens_len, List.length_drop]; omega
end
end As

/-! ## A24 -/
namespace As
open PySem PySem.Spec PyProof.Rows L2
section
variable {prog : Program} {w : World} {A : Around} {E : Value → Shared → Prop} {s : Shared}
theorem getItem_tuple_whole {t sl : Addr} {items : Array Value} {vl vu : Value} {lo hi : Option Int} {Q : Value → Shared → Prop} (ht : IsTup s.heap t items) (hs : s.heap.IsSliceOf sl vl vu .none) (pl : IsPart vl lo) (pu : IsPart vu hi)
    (hw : HT.sIx items.size 0 lo = 0 ∧ HT.sIx items.size items.size hi = items.size) (q : Q (.ref t) s) : wpAny (model prog w) A (getItem (.ref t) (.ref sl)) Q E s := by
  obtain ⟨os, hos, hcs, hds⟩ := id hs
  have hTs : s.TypeIs (.ref sl) "slice" := ⟨os, hos, hcs⟩
  refine wpAny_holding (wpAny_bind (wpAny_sequenceKey ht.typeIs (by decide) (wpAny_bind (wpAny_callSpecial?_slot ht.typeIs slot_tuple_getitem (wpAny_call_entry slot_tuple_getitem ht.typeIs entry_tuple_getitem ?_ (args_tuple_getitem _ _))))))
  show wpAny _ _ (Builtin.Tuple.tupleItemsOf (.ref t) >>= _) _ _ _
  refine wpAny_bind (tupleItemsOf_ ht (wpAny_bind (wpAny_typeOf hTs ?_)))
  rw [if_pos (by decide)]
  refine wpAny_bind (HT.sliceApplied_gen hs pl pu ?_)
  dsimp only
  rw [hw.1, hw.2]
  rw [if_pos (by simp)]
  unfold Builtin.Tuple.tupleIsExact
  refine wpAny_bind (wpAny_bind (wpAny_typeOf ht.typeIs (wpAny_pure ?_)))
  rw [if_pos (by decide)]
  exact wpAny_bind (wpAny_rule (wpAny_pure ⟨_, rfl, wpAny_pure q⟩))
end
/-- t[lo:hi], also where it is the whole of t -/
def rSlTw (K : PySem.W.Frag) : V → Option Int → Option Int → Hp → VK → Prop := fun x lo hi H Q => ∃ a xs, x = .ref a ∧ SqT K H a xs ∧ ((HT.sIx xs.length 0 lo = 0 ∧ HT.sIx xs.length xs.length hi = xs.length ∧ Q (.ref a) H) ∨
  (¬ (HT.sIx xs.length 0 lo = 0 ∧ HT.sIx xs.length xs.length hi = xs.length) ∧ ∀ p, H p = none → Q (.ref p) (upd H p (.tup (cutV xs lo hi)))))
theorem sl_tupW {X : Cx} : SlR X (rSlTw X.K) := by
  rintro pins s σ H x v vl vu lo hi sl Q I rx hs pl pu ⟨a, xs, rfl, hx, h⟩
  obtain rfl : v = Value.ref a := rx
  rcases h with ⟨h1, h2, q⟩ | ⟨h, q⟩
  · obtain ⟨its, r, ht, hz⟩ := I.tuple hx
    have ln : its.toArray.size = xs.length := by rw [List.size_toArray]; exact (L2.Vals.length r).symm
    exact ⟨"tuple", "tuple.__getitem__", slot_tuple_getitem.lookup, ht.typeIs, getItem_tuple_whole ht hs pl pu (by rw [ln]; exact ⟨h1, h2⟩) ⟨.ref a, H, I, rfl, q⟩⟩
  · exact sl_tup pins s σ H (.ref a) (.ref a) vl vu lo hi sl Q I rfl hs pl pu ⟨a, xs, rfl, hx, h, q⟩
theorem slTwK {X : Cx} (K : PySem.W.Frag) (h : X.K = K := by rfl) : SlR X (rSlTw K) := h ▸ sl_tupW
theorem ltDK {X : Cx} (K : PySem.W.Frag) (hu : X.A.units + 64 < cLine) (h : X.K = K := by rfl) : OpR X (compareOp .Lt) (rLtD K) := h ▸ op_ltD hu
end As

/-! ## B6s -/
namespace As
open PySem PySem.Spec PyProof.Rows L2
section
variable {P : Program} {w : World} {K : PySem.W.Frag} {mg : Str → Option Value} {base : Heap}
theorem sc_size_of : FnScope ["self", "column"] ["self", "column"] (defScope s_size_of) := ⟨rfl, rfl, rfl, by decide +kernel, rfl, by decide +kernel, by decide +kernel⟩
theorem ok_size_of {f C : Addr} {fd : FuncData} (F : Fun K "size_of" "Plan.size_of" s_size_of f fd) (T : Bi mg) (L : PlF K C) : FnOk P w K mg base CX0 1 f fd ["self", "column"] (spSizeOf K C) := by
  refine F.ok sc_size_of (fun vs H Q E h => ?_) (fun cdv A outer s H vs Q E hr h => ?_)
  · obtain ⟨p, x, cs, ts, rfl, _⟩ := h; rfl
  · obtain ⟨p, x, cs, ts, rfl, ⟨dx, ct, tt, sz, sp, sh, ks, h1, h2, h3, h4, h5, hs, h6⟩, q⟩ := h
    refine ⟨_, pss_cons (ps_if (pt_not (pt_val (pe_callB call_isi (by rfl) T.isinst (by decide +kernel) (pa_cons (pv 1) (pa_cons (pe_bltn (v := .ty "str") (by rfl) T.str (by decide +kernel) rfl) pa_nil))))) (pss_one (ps_ret pe_non)) pss_nil)
      (pss_one (ps_ret (pe_dget1 (hu_of hr) (pe_fld (pv 0) rfl) (pv 1) ⟨rfl, rfl, rfl, rfl⟩))), ?_⟩
    rcases q with ⟨z, rfl, q⟩ | ⟨⟨t, ty, k⟩, q⟩
    · refine ⟨_, rfl, _, _, _, _, true, rfl, .ty "str", .base (.str z), kstr_str, true, rfl, iteF ?_⟩
      exact ⟨_, rfl, p, C, dx, _, _, rfl, h1, L.cl, L.aS, pf_S, sz, rfl, .inl ⟨_, .inl h4⟩, _, rfl, _, dk_get h4, q⟩
    · exact ⟨_, rfl, _, _, t, _, false, rfl, .ty "str", ty, k, false, rfl, iteT q⟩

end
end As

/-! ## G1 -/
namespace As
open PySem PySem.Spec PyProof.Rows L2 RZ
open PySem.W (dataLe AllAlike Sortable dataLt alike)
theorem shapes_val {z : Str} {r : TRow} : ∀ {ts : List TRow}, tabOf ts z = some r → valV (shapesD ts) (.inr z) = some (.ref r.2.2.1)
  | [], h => by unfold tabOf at h; simp at h
  | t :: ts, h => by
    unfold tabOf at h
    rw [List.find?_cons] at h
    unfold valV shapesD
    rw [List.map_cons, List.find?_cons]
    by_cases e : t.2.1 = z
    · rw [decide_eq_true e] at h
      cases h
      simp [e]
    · rw [decide_eq_false e] at h
      have : ¬ ((.inr t.2.1 : Key) = .inr z) := fun q => e (by injection q)
      simp only [this, decide_false]
      exact shapes_val h
theorem cut_drop1 {xs : List V} : cutV xs (some 1) none = xs.drop 1 := by
  unfold cutV
  rw [HT.sIx_none, show (1 : Int) = ((1 : Nat) : Int) from rfl, HT.sIx_nat]
  cases xs with
  | nil => rfl
  | cons x xs =>
    rw [Nat.min_eq_left (by rw [List.length_cons]; omega)]
    rw [List.take_of_length_le (by rw [List.length_drop]; omega)]
section
variable {P : Program} {w : World} {K : PySem.W.Frag} {mg : Str → Option Value} {base : Heap}
def spColsOf (C : Addr) : Sp := fun vs H Q _ => ∃ (p : Addr) (z : Str) (cs : List CRow) (ts : List TRow) (r : TRow), vs = [.ref p, .str z] ∧ PlanAt H C p cs ts ∧ tabOf ts z = some r ∧ Q (.ref r.2.2.1) H
theorem sc_cols_of : FnScope ["self", "table"] ["self", "table"] (defScope s_columns_of) := ⟨rfl, rfl, rfl, by decide +kernel, rfl, by decide +kernel, by decide +kernel⟩
theorem ok_cols_of {f C : Addr} {fd : FuncData} (F : Fun K "columns_of" "Plan.columns_of" s_columns_of f fd) (T : Bi mg) (L : PlF K C) : FnOk P w K mg base CX0 1 f fd ["self", "table"] (spColsOf C) := by
  refine F.ok sc_cols_of (fun vs H Q E h => ?_) (fun cdv A outer s H vs Q E hr h => ?_)
  · obtain ⟨p, x, cs, ts, r, rfl, _⟩ := h; rfl
  · obtain ⟨p, z, cs, ts, r, rfl, ⟨dx, ct, tt, sz, sp, sh, ks, h1, h2, h3, h4, h5, hs, h6⟩, et, q⟩ := h
    refine ⟨_, pss_cons (ps_if (pt_not (pt_val (pe_callB call_isi (by rfl) T.isinst (by decide +kernel) (pa_cons (pv 1) (pa_cons (pe_bltn (v := .ty "str") (by rfl) T.str (by decide +kernel) rfl) pa_nil))))) (pss_one (ps_ret pe_non)) pss_nil)
      (pss_one (ps_ret (pe_dget1 (hu_of hr) (pe_fld (pv 0) rfl) (pv 1) ⟨rfl, rfl, rfl, rfl⟩))), ?_⟩
    refine ⟨_, rfl, _, _, _, _, true, rfl, .ty "str", .base (.str z), kstr_str, true, rfl, iteF ?_⟩
    refine ⟨_, rfl, p, C, dx, _, _, rfl, h1, L.cl, L.aH, pf_H, sh, rfl, .inl ⟨_, .inl hs⟩, _, rfl, _, dk_get hs, ?_⟩
    rw [shapes_val et]; exact q
/-- is_rising of data that rises -/
def Rises (ds : List PyData) : Prop := ∀ i d e, ds[i]? = some d → ds[i + 1]? = some e → alike d e = true ∧ dataLt d e = true ∧ d ≠ .none ∧ PyData.depth d ≤ 60
def spRising (K : PySem.W.Frag) : Sp := fun vs H Q _ => ∃ (t : Addr) (xs : List V) (ds : List PyData), vs = [.ref t] ∧ H t = some (.tup xs) ∧ DpAll K H xs ds ∧ Rises ds ∧ xs.length ≤ 1000 ∧ ∀ H', Same H H' → Q (.bl true) H'
theorem dpAll_at {H : Hp} : ∀ {xs : List V} {ds : List PyData}, DpAll K H xs ds → ∀ {i : Nat} {x : V}, xs[i]? = some x → ∃ d, ds[i]? = some d ∧ Dp K H x d
  | _, _, .nil, i, x, h => by simp at h
  | _, _, .cons a t, 0, x, h => by
    rw [List.getElem?_cons_zero] at h ⊢; cases h; exact ⟨_, rfl, a⟩
  | _, _, .cons a t, i + 1, x, h => by
    rw [List.getElem?_cons_succ] at h ⊢; exact dpAll_at t h
abbrev nRise : List Str := ["items", "item", "after"]
theorem sc_rising : FnScope nRise ["items"] (defScope s_is_rising) := ⟨rfl, rfl, rfl, by decide +kernel, rfl, by decide +kernel, by decide +kernel⟩
theorem ok_rising {f : Addr} {fd : FuncData} (D : Df K mg "is_rising" s_is_rising ["items"] f fd) (T : Bi mg) (zi : mg "zip" = none) : FnOk P w K mg base CX0 1 f fd ["items"] (spRising K) := by
  refine D.F.ok sc_rising (fun vs H Q E h => ?_) (fun cdv A outer s H vs Q E hr h => ?_)
  · obtain ⟨t, xs, ds, rfl, _⟩ := h; rfl
  · obtain ⟨t, xs, ds, rfl, ht, dp, ri, len, q⟩ := h
    have hu := hu64 hr
    refine ⟨_, pss_one (ps_ret (pe_callB (cr_all rfl) (by rfl) T.all (by decide +kernel) (pa_cons (pe_lc (own := [("item", 1), ("after", 2)]) (g := gTup K 2 (gCons (gName 1) (gCons (gName 2) gNil))) (tt := tYes) rfl sc_rising.nd (pi_zipA (by rfl) zi (pa_cons (pv 0) (pa_cons (pe_slice sl_tupW (pv 0) (po_some pe_int) po_none) pa_nil)))
      (blkOk_by (N := nRise) (sc := defScope s_is_rising) (by decide +kernel)) (fun _ _ _ _ _ => pgT K (pg_tup rfl (pgs_cons (pg_name (i := 1) sc_rising.nd rfl (Or.inl rfl)) (pgs_cons (pg_name (i := 2) sc_rising.nd rfl (Or.inl rfl)) pgs_nil)))) (fun _ _ _ _ _ => pts_nil)
      (fun _ _ _ _ _ => pe_cmpR (ltDK K hu) (pv 1) (pv 2) (nomark _))) pa_nil))), ?_⟩
    refine ⟨_, rfl, _, rfl, 1, rfl, t, xs, rfl, tof ht, ?_⟩
    by_cases em : xs = []
    · refine .inl ⟨by rw [em]; rfl, by rw [em]; rfl, ?_⟩
      have hU : H t = some (.tup (xs.drop 1)) := by rw [ht, em]; rfl
      have sr := Same.refl H
      refine ⟨t, t, xs, xs.drop 1, rfl, .inr ⟨tof (sr _ _ ht), tof hU, fun D nD => ?_⟩⟩
      refine lc_pair (H1 := H) (walk_zipT (xs := xs) (ys := xs.drop 1) (n := xs.length - 1) (by rw [List.length_drop]; omega)) nD (fun H2 s2 => ⟨tof (s2 _ _ (sr _ _ ht)), tof (s2 _ _ hU)⟩) (Nat.lt_of_le_of_lt (show xs.length - 1 ≤ 1000 by omega) (by decide))
        (fun i acc _ => acc = (List.replicate i true).map V.bl) rfl (fun _ _ _ _ _ p => p) (fun i x y T H2 acc Q1 Q2 hi ex ey s2 hT p k1 k2 => ?_) (fun H2 acc s2 hD2 p => ?_)
      · subst p
        obtain ⟨d, hd, dx⟩ := dpAll_at dp ex
        have ey' : xs[i + 1]? = some y := by
          have e2 : (xs.drop 1)[i]? = some y := ey
          rw [List.getElem?_drop] at e2
          rw [show i + 1 = 1 + i by omega]; exact e2
        obtain ⟨e, he, dy⟩ := dpAll_at dp ey'
        obtain ⟨a1, a2, a3, a4⟩ := ri i d e hd he
        have s12 := sr.trans s2
        refine ⟨T, _, rfl, tof hT, rfl, _, _, rfl, _, _, rfl, rfl, rfl, ?_⟩
        refine iteT (B := Q2 H2) ?_
        refine ⟨_, rfl, _, rfl, d, e, dp_same s12 dx, dp_same s12 dy, a1, a3, a4, ?_⟩
        rw [a2]
        refine k1 _ _ (Same.refl _) ?_
        rw [List.replicate_succ', List.map_append]; rfl
      · subst p
        refine ⟨D, _, rfl, lof hD2, ?_⟩
        rw [show (List.replicate (xs.length - 1) true).all id = true from by simp]
        exact q _ (sr.trans s2)
    · have lp : 0 < xs.length := List.length_pos_iff.mpr em
      refine .inr ⟨by rw [show (1 : Int) = ((1 : Nat) : Int) from rfl, HT.sIx_nat]; omega, fun c nc => ?_⟩
      rw [cut_drop1]
      have sr : Same H (upd H c (.tup (xs.drop 1))) := same_new nc
      have hU : (upd H c (.tup (xs.drop 1))) c = some (.tup (xs.drop 1)) := upd_same
      generalize upd H c (.tup (xs.drop 1)) = H1 at sr hU ⊢
      refine ⟨t, c, xs, xs.drop 1, rfl, .inr ⟨tof (sr _ _ ht), tof hU, fun D nD => ?_⟩⟩
      refine lc_pair (H1 := H1) (walk_zipT (xs := xs) (ys := xs.drop 1) (n := xs.length - 1) (by rw [List.length_drop]; omega)) nD (fun H2 s2 => ⟨tof (s2 _ _ (sr _ _ ht)), tof (s2 _ _ hU)⟩) (Nat.lt_of_le_of_lt (show xs.length - 1 ≤ 1000 by omega) (by decide))
        (fun i acc _ => acc = (List.replicate i true).map V.bl) rfl (fun _ _ _ _ _ p => p) (fun i x y T H2 acc Q1 Q2 hi ex ey s2 hT p k1 k2 => ?_) (fun H2 acc s2 hD2 p => ?_)
      · subst p
        obtain ⟨d, hd, dx⟩ := dpAll_at dp ex
        have ey' : xs[i + 1]? = some y := by
          have e2 : (xs.drop 1)[i]? = some y := ey
          rw [List.getElem?_drop] at e2
          rw [show i + 1 = 1 + i by omega]; exact e2
        obtain ⟨e, he, dy⟩ := dpAll_at dp ey'
        obtain ⟨a1, a2, a3, a4⟩ := ri i d e hd he
        have s12 := sr.trans s2
        refine ⟨T, _, rfl, tof hT, rfl, _, _, rfl, _, _, rfl, rfl, rfl, ?_⟩
        refine iteT (B := Q2 H2) ?_
        refine ⟨_, rfl, _, rfl, d, e, dp_same s12 dx, dp_same s12 dy, a1, a3, a4, ?_⟩
        rw [a2]
        refine k1 _ _ (Same.refl _) ?_
        rw [List.replicate_succ', List.map_append]; rfl
      · subst p
        refine ⟨D, _, rfl, lof hD2, ?_⟩
        rw [show (List.replicate (xs.length - 1) true).all id = true from by simp]
        exact q _ (sr.trans s2)
end
end As

/-! ## G2 -/
namespace As
open PySem PySem.Spec PyProof.Rows L2
open PySem.W (dataLe AllAlike Sortable dataLt alike)
/-! stops -/
abbrev Lot := Option (Addr × List Int)
abbrev SRow := Addr × Str × Lot × Addr × List Str
def lotV : Lot → V | none => .non | some x => .ref x.1
def sv (s : SRow) : V := .ref s.1
def SAt (H : Hp) (s : SRow) : Prop := H s.1 = some (.tup [.str s.2.1, lotV s.2.2.1, .ref s.2.2.2.1]) ∧ (∀ x, s.2.2.1 = some x → H x.1 = some (.tup (x.2.map V.int))) ∧ H s.2.2.2.1 = some (.tup (s.2.2.2.2.map V.str))
theorem SAt.imm {H H' : Hp} {s : SRow} (h : SAt H s) (e : Imm H H') : SAt H' s := ⟨e _ _ h.1, fun x hx => e _ _ (h.2.1 x hx), e _ _ h.2.2⟩
def strLt (a b : Str) : Prop := dataLt (.str a) (.str b) = true
structure LotOk (cs : List CRow) (c : Str) (ns : List Int) : Prop where
  ne : ns ≠ []
  up : ns.Pairwise fun a b => a < b
  own : ∀ n ∈ ns, 0 ≤ n ∧ n < sizeI cs c
  len : ns.length ≤ 100
structure OnesOk (ts : List TRow) (c : Str) (os : List Str) : Prop where
  up : os.Pairwise strLt
  own : ∀ o ∈ os, ∃ r, tabOf ts o = some r ∧ r.2.2.2 = [c]
  len : os.length ≤ 100
structure SOk (cs : List CRow) (ts : List TRow) (s : SRow) : Prop where
  col : s.2.1 ∈ cs.map (·.2.1)
  lot : ∀ x, s.2.2.1 = some x → LotOk cs s.2.1 x.2
  ones : OnesOk ts s.2.1 s.2.2.2.2
theorem rises_ints {ns : List Int} (h : ns.Pairwise fun a b => a < b) : Rises (ns.map .int) := by
  intro i d e hd he
  rw [List.getElem?_map] at hd he
  obtain ⟨a, ha, rfl⟩ := Option.map_eq_some_iff.mp hd
  obtain ⟨b, hb, rfl⟩ := Option.map_eq_some_iff.mp he
  obtain ⟨h1, e1⟩ := List.getElem?_eq_some_iff.mp ha
  obtain ⟨h2, e2⟩ := List.getElem?_eq_some_iff.mp hb
  have := List.pairwise_iff_getElem.mp h i (i + 1) h1 h2 (Nat.lt_succ_self i)
  rw [e1, e2] at this
  exact ⟨by simp [alike], by rw [PySem.W.dataLt_int]; exact decide_eq_true this, (fun z => nomatch z), by simp [PyData.depth]⟩
theorem rises_strs {ns : List Str} (h : ns.Pairwise strLt) : Rises (ns.map .str) := by
  intro i d e hd he
  rw [List.getElem?_map] at hd he
  obtain ⟨a, ha, rfl⟩ := Option.map_eq_some_iff.mp hd
  obtain ⟨b, hb, rfl⟩ := Option.map_eq_some_iff.mp he
  obtain ⟨h1, e1⟩ := List.getElem?_eq_some_iff.mp ha
  obtain ⟨h2, e2⟩ := List.getElem?_eq_some_iff.mp hb
  have := List.pairwise_iff_getElem.mp h i (i + 1) h1 h2 (Nat.lt_succ_self i)
  rw [e1, e2] at this
  exact ⟨by simp [alike], this, (fun z => nomatch z), by simp [PyData.depth]⟩
section
variable {P : Program} {w : World} {K : PySem.W.Frag} {mg : Str → Option Value} {base : Heap}
theorem dpA_ints {H : Hp} {ns : List Int} : DpAll K H (ns.map V.int) (ns.map .int) := dp_ints
/-- is_lot -/
def spIsLot (C : Addr) : Sp := fun vs H Q _ => ∃ (p : Addr) (c : Str) (l : Lot) (cs : List CRow) (ts : List TRow), vs = [.ref p, .str c, lotV l] ∧ PlanAt H C p cs ts ∧ ColsOk H cs ∧ c ∈ cs.map (·.2.1) ∧ (∀ x, l = some x → H x.1 = some (.tup (x.2.map V.int)) ∧ LotOk cs c x.2) ∧ ∀ H', Same H H' → Q (.bl true) H'
abbrev nIsLot : List Str := ["plan", "column", "thing", "size", "value"]
theorem sc_is_lot : FnScope nIsLot ["plan", "column", "thing"] (defScope s_is_lot) := ⟨rfl, rfl, rfl, by decide +kernel, rfl, by decide +kernel, by decide +kernel⟩
theorem ok_is_lot {f fb fr fs C : Addr} {fd db dr ds : FuncData} (D : Df K mg "is_lot" s_is_lot ["plan", "column", "thing"] f fd) (T : Bi mg) (L : PlF K C) (ms : Meth K C "size_of" fs) (Gs : FnOk P w K mg base CX0 1 fs ds ["self", "column"] (spSizeOf K C)) (bs : Binds K ds ["self", "column"] [])
    (Db : Df K mg "is_below" s_is_below ["thing", "bound"] fb db) (Gb : FnOk P w K mg base CX0 2 fb db ["thing", "bound"] (spBelow K)) (Dr : Df K mg "is_rising" s_is_rising ["items"] fr dr) (Gr : FnOk P w K mg base CX0 1 fr dr ["items"] (spRising K)) :
    FnOk P w K mg base CX0 3 f fd ["plan", "column", "thing"] (spIsLot C) := by
  refine D.F.ok sc_is_lot (fun vs H Q E h => ?_) (fun cdv A outer s H vs Q E hr h => ?_)
  · obtain ⟨p, c, l, cs, ts, rfl, _⟩ := h; rfl
  · obtain ⟨p, c, l, cs, ts, rfl, pl, okc, hc, lot, q⟩ := h
    have hr1 : Room 1 _ := hr.mono (by decide)
    refine ⟨_, pss_cons (ps_if (pt_cmp (pc_isN (pv 2))) (pss_one (ps_ret pe_bl)) pss_nil)
      (pss_cons (ps_if (PW.pt (pw_or (pt_not (pt_val (pe_callB call_isi (by rfl) T.isinst (by decide +kernel) (pa_cons (pv 2) (pa_cons (pe_bltn (v := .ty "tuple") (by rfl) T.tuple (by decide +kernel) rfl) pa_nil)))))
          (pw_or1 (pt_cmpR op_eq (pe_callB call_len_seq (by rfl) T.len PySem.boot_len (pa_cons (pv 2) pa_nil)) pe_int (nomark _))))) (pss_one (ps_ret pe_bl)) pss_nil)
      (pss_cons (ps_set (i := 3) sc_is_lot.nd rfl (Or.inr rfl) (pe_meth (pv 0) L.cl ms Gs hr1 bs .nil pass0 (pa_cons (pv 1) pa_nil)))
      (pss_one (ps_ret (pe_and (pe_callB (cr_all rfl) (by rfl) T.all (by decide +kernel) (pa_cons (pe_lc (own := [("value", 4)]) (g := gName 4) (tt := tYes) rfl sc_is_lot.nd (pi_tup (pv 2)) (blkOk_by (N := nIsLot) (sc := defScope s_is_lot) (by decide +kernel)) (fun _ _ _ _ _ => pg_name (i := 4) sc_is_lot.nd rfl (Or.inl rfl)) (fun _ _ _ _ _ => pts_nil)
          (fun _ _ _ _ _ => pcall Db Gb hr (pa_cons (pv 4) (pa_cons (pv 3) pa_nil)))) pa_nil)) (pe_one (pcall Dr Gr hr1 (pa_cons (pv 2) pa_nil)))))))), ?_⟩
    cases l with
    | none => exact ⟨_, rfl, true, rfl, iteT (q _ (Same.refl _))⟩
    | some x =>
      obtain ⟨hx, lo⟩ := lot x rfl
      obtain ⟨dx, ct, tt, sz, sp, sh, ks, h1, _⟩ := id pl
      have no : (pf ct tt sz sp sh).lookup (Str.ofString "size_of") = none := pf_no (by decide +kernel) (by decide +kernel) (by decide +kernel) (by decide +kernel) (by decide +kernel)
      have ln : (x.2.map V.int).length = x.2.length := List.length_map _
      have lp : x.2.length ≠ 0 := fun z => lo.ne (List.length_eq_zero_iff.mp z)
      refine ⟨_, rfl, false, rfl, iteF ?_⟩
      refine ⟨_, rfl, _, _, _, _, true, rfl, .ty "tuple", (Val.tup hx).ty, kit_tup .tup, true, rfl, iteF ?_⟩
      refine ⟨_, rfl, x.1, _, rfl, .inr (tof hx), rfl, _, rfl, ?_⟩
      rw [show decide (V.int ((x.2.map V.int).length : Nat) = V.int 0) = false from decide_eq_false fun z => lp (by injection z with z; rw [ln] at z; omega)]
      refine iteF ?_
      refine ⟨_, rfl, p, dx, _, rfl, h1, no, _, rfl, p, .str c, cs, ts, rfl, pl, .inl ⟨c, rfl, ?_⟩⟩
      have esz : sizeV cs c = .int (sizeI cs c) := by unfold sizeV; rw [(valV_sz okc hc).1]; rfl
      rw [esz]
      refine ⟨_, rfl, x.1, rfl, ⟨_, tof hx⟩, fun D nD => ?_⟩
      refine lc_same (B := H) walk_tup rfl (Same.refl H) nD (fun H e => tof (e _ _ hx)) (by rw [ln]; exact Nat.lt_of_le_of_lt lo.len (by decide)) (fun _ => some (.bl true)) (fun v H2 Q1 Q2 hv s2 k1 k2 => ?_) (fun H2 s2 hD2 => ?_)
      · obtain ⟨n, hn, rfl⟩ := List.mem_map.mp hv
        refine ⟨rfl, ?_⟩
        refine iteT (B := Q2 H2) ?_
        refine ⟨_, rfl, _, rfl, .int n, .int, _, rfl, .int n, ?_⟩
        rw [show belowV (.int n) (sizeI cs c) = true from decide_eq_true (lo.own n hn)]
        exact k1 _ _ rfl (Same.refl _)
      · have e : (x.2.map V.int).filterMap (fun _ => some (V.bl true)) = (x.2.map fun _ => true).map V.bl := by rw [filterMap_some, List.map_map, List.map_map]; rfl
        rw [e] at hD2
        refine ⟨D, _, rfl, lof hD2, ?_⟩
        rw [show (x.2.map fun _ => true).all id = true from by simp]
        refine ⟨true, rfl, iteT ?_⟩
        exact ⟨_, rfl, x.1, _, _, rfl, s2 _ _ hx, dp_ints, rises_ints lo.up, by have := lo.len; omega, fun H3 s3 => q _ (s2.trans s3)⟩
/-- are_ones -/
def spOnes (C : Addr) : Sp := fun vs H Q _ => ∃ (p : Addr) (c : Str) (a : Addr) (os : List Str) (cs : List CRow) (ts : List TRow), vs = [.ref p, .str c, .ref a] ∧ PlanAt H C p cs ts ∧ ColsOk H cs ∧ TabsOk H (cs.map (·.2.1)) ts ∧ c ∈ cs.map (·.2.1) ∧ H a = some (.tup (os.map V.str)) ∧ OnesOk ts c os ∧ ∀ H', Same H H' → Q (.bl true) H'
abbrev nOnes : List Str := ["plan", "column", "thing", "name"]
theorem sc_ones : FnScope nOnes ["plan", "column", "thing"] (defScope s_are_ones) := ⟨rfl, rfl, rfl, by decide +kernel, rfl, by decide +kernel, by decide +kernel⟩
theorem ok_ones {f fr fs C : Addr} {fd dr ds : FuncData} (D : Df K mg "are_ones" s_are_ones ["plan", "column", "thing"] f fd) (T : Bi mg) (L : PlF K C) (ms : Meth K C "columns_of" fs) (Gs : FnOk P w K mg base CX0 1 fs ds ["self", "table"] (spColsOf C)) (bs : Binds K ds ["self", "table"] [])
    (Dr : Df K mg "is_rising" s_is_rising ["items"] fr dr) (Gr : FnOk P w K mg base CX0 1 fr dr ["items"] (spRising K)) :
    FnOk P w K mg base CX0 2 f fd ["plan", "column", "thing"] (spOnes C) := by
  refine D.F.ok sc_ones (fun vs H Q E h => ?_) (fun cdv A outer s H vs Q E hr h => ?_)
  · obtain ⟨p, c, a, os, cs, ts, rfl, _⟩ := h; rfl
  · obtain ⟨p, c, a, os, cs, ts, rfl, pl, okc, okt, hc, ha, oo, q⟩ := h
    have hu := hu64 hr
    refine ⟨_, pss_cons (ps_if (pt_not (pt_val (pe_callB call_isi (by rfl) T.isinst (by decide +kernel) (pa_cons (pv 2) (pa_cons (pe_bltn (v := .ty "tuple") (by rfl) T.tuple (by decide +kernel) rfl) pa_nil))))) (pss_one (ps_ret pe_bl)) pss_nil)
      (pss_one (ps_ret (pe_and (pe_callB (cr_all rfl) (by rfl) T.all (by decide +kernel) (pa_cons (pe_lc (own := [("name", 3)]) (g := gName 3) (tt := tYes) rfl sc_ones.nd (pi_tup (pv 2)) (blkOk_by (N := nOnes) (sc := defScope s_are_ones) (by decide +kernel)) (fun _ _ _ _ _ => pg_name (i := 3) sc_ones.nd rfl (Or.inl rfl)) (fun _ _ _ _ _ => pts_nil)
          (fun _ _ _ _ _ => pe_cmpR (eqDK K hu) (pe_meth (pv 0) L.cl ms Gs hr bs .nil pass0 (pa_cons (pv 3) pa_nil)) (pe_tup (pa_cons (pv 1) pa_nil)) (nomark _))) pa_nil)) (pe_one (pcall Dr Gr hr (pa_cons (pv 2) pa_nil)))))), ?_⟩
    have ln : (os.map V.str).length = os.length := List.length_map _
    have cok : PyData.strOk c = true := by
      obtain ⟨r, hr, rfl⟩ := List.mem_map.mp hc
      exact name_ok (okc.nm r hr)
    refine ⟨_, rfl, _, _, _, _, true, rfl, .ty "tuple", (Val.tup ha).ty, kit_tup .tup, true, rfl, iteF ?_⟩
    refine ⟨_, rfl, a, rfl, ⟨_, tof ha⟩, fun D nD => ?_⟩
    refine lc_same (B := H) walk_tup rfl (Same.refl H) nD (fun H e => tof (e _ _ ha)) (by rw [ln]; exact Nat.lt_of_le_of_lt oo.len (by decide)) (fun _ => some (.bl true)) (fun v H2 Q1 Q2 hv s2 k1 k2 => ?_) (fun H2 s2 hD2 => ?_)
    · obtain ⟨o, ho, rfl⟩ := List.mem_map.mp hv
      obtain ⟨r, er, ep⟩ := oo.own o ho
      have pl2 := pl.same s2
      obtain ⟨dx, ct, tt, sz, sp, sh, ks, h1, _⟩ := id pl2
      have no : (pf ct tt sz sp sh).lookup (Str.ofString "columns_of") = none := pf_no (by decide +kernel) (by decide +kernel) (by decide +kernel) (by decide +kernel) (by decide +kernel)
      have hp := (okt.same s2).prt r (List.mem_of_find?_eq_some er)
      rw [ep] at hp
      refine ⟨rfl, ?_⟩
      refine iteT (B := Q2 H2) ?_
      refine ⟨_, rfl, p, dx, _, rfl, h1, no, _, rfl, p, o, cs, ts, r, rfl, pl2, er, _, rfl, by show 1 ≤ sizeLine; decide, fun t nt => ?_⟩
      have s3 : Same H2 (upd H2 t (.tup [V.str c])) := same_new nt
      have h3 : (upd H2 t (.tup [V.str c])) t = some (.tup ([c].map V.str)) := upd_same
      have hp3 := s3 _ _ hp
      generalize upd H2 t (.tup [V.str c]) = H3 at s3 h3 hp3 ⊢
      have lay1 : PyData.canLayAll0 ([c].map .str) = true := strs_lay fun x hx => by rw [List.mem_singleton] at hx; subst hx; exact cok
      refine ⟨.tuple ([c].map .str), .tuple ([c].map .str), .tup (tof hp3) dp_strs, .tup (tof h3) dp_strs, shaped_tup lay1 (by rw [strs_depth]; decide), shaped_tup lay1 (by rw [strs_depth]; decide), ?_⟩
      rw [eqv_tup eqv_str, decide_eq_true rfl]
      exact k1 _ _ rfl s3
    · have e : (os.map V.str).filterMap (fun _ => some (V.bl true)) = (os.map fun _ => true).map V.bl := by rw [filterMap_some, List.map_map, List.map_map]; rfl
      rw [e] at hD2
      refine ⟨D, _, rfl, lof hD2, ?_⟩
      rw [show (os.map fun _ => true).all id = true from by simp]
      refine ⟨true, rfl, iteT ?_⟩
      exact ⟨_, rfl, a, _, _, rfl, s2 _ _ ha, dp_strs, rises_strs oo.up, by have := oo.len; omega, fun H3 s3 => q _ (s2.trans s3)⟩
/-- is_stop -/
def spIsStop (C : Addr) : Sp := fun vs H Q _ => ∃ (p : Addr) (x : SRow) (cs : List CRow) (ts : List TRow), vs = [.ref p, sv x] ∧ PlanAt H C p cs ts ∧ ColsOk H cs ∧ TabsOk H (cs.map (·.2.1)) ts ∧ SAt H x ∧ SOk cs ts x ∧ ∀ H', Same H H' → Q (.bl true) H'
abbrev nIsStop : List Str := ["plan", "thing", "column", "lot", "ones"]
theorem sc_is_stop : FnScope nIsStop ["plan", "thing"] (defScope s_is_stop) := ⟨rfl, rfl, rfl, by decide +kernel, rfl, by decide +kernel, by decide +kernel⟩
theorem ok_is_stop {f fl fo fs C : Addr} {fd dl do' ds : FuncData} (D : Df K mg "is_stop" s_is_stop ["plan", "thing"] f fd) (T : Bi mg) (L : PlF K C) (ms : Meth K C "size_of" fs) (Gs : FnOk P w K mg base CX0 1 fs ds ["self", "column"] (spSizeOf K C)) (bs : Binds K ds ["self", "column"] [])
    (Dl : Df K mg "is_lot" s_is_lot ["plan", "column", "thing"] fl dl) (Gl' : FnOk P w K mg base CX0 3 fl dl ["plan", "column", "thing"] (spIsLot C)) (Do : Df K mg "are_ones" s_are_ones ["plan", "column", "thing"] fo do') (Go : FnOk P w K mg base CX0 2 fo do' ["plan", "column", "thing"] (spOnes C)) :
    FnOk P w K mg base CX0 4 f fd ["plan", "thing"] (spIsStop C) := by
  refine D.F.ok sc_is_stop (fun vs H Q E h => ?_) (fun cdv A outer s H vs Q E hr h => ?_)
  · obtain ⟨p, x, cs, ts, rfl, _⟩ := h; rfl
  · obtain ⟨p, x, cs, ts, rfl, pl, okc, okt, xa, xo, q⟩ := h
    have hr1 : Room 1 _ := hr.mono (by decide)
    have hr2 : Room 2 _ := hr.mono (by decide)
    refine ⟨_, pss_cons (ps_if (PW.pt (pw_or (pt_not (pt_val (pe_callB call_isi (by rfl) T.isinst (by decide +kernel) (pa_cons (pv 1) (pa_cons (pe_bltn (v := .ty "tuple") (by rfl) T.tuple (by decide +kernel) rfl) pa_nil)))))
          (pw_or1 (pt_cmpR op_ne (pe_callB call_len_seq (by rfl) T.len PySem.boot_len (pa_cons (pv 1) pa_nil)) pe_int (nomark _))))) (pss_one (ps_ret pe_bl)) pss_nil)
      (pss_cons (ps_asg (pv 1) (pg_tup rfl (pgs_cons (pg_name (i := 2) sc_is_stop.nd rfl (Or.inl rfl)) (pgs_cons (pg_name (i := 3) sc_is_stop.nd rfl (Or.inl rfl)) (pgs_cons (pg_name (i := 4) sc_is_stop.nd rfl (Or.inl rfl)) pgs_nil)))))
      (pss_cons (ps_if (pt_cmp (pc_isN (pe_meth (pv 0) L.cl ms Gs hr1 bs .nil pass0 (pa_cons (pv 2) pa_nil)))) (pss_one (ps_ret pe_bl)) pss_nil)
      (pss_one (ps_ret (pe_and (pcall Dl Gl' hr (pa_cons (pv 0) (pa_cons (pv 2) (pa_cons (pv 3) pa_nil)))) (pe_one (pcall Do Go hr2 (pa_cons (pv 0) (pa_cons (pv 2) (pa_cons (pv 4) pa_nil)))))))))), ?_⟩
    obtain ⟨dx, ct, tt, sz, sp, sh, ks, h1, _⟩ := id pl
    have no : (pf ct tt sz sp sh).lookup (Str.ofString "size_of") = none := pf_no (by decide +kernel) (by decide +kernel) (by decide +kernel) (by decide +kernel) (by decide +kernel)
    refine ⟨_, rfl, _, _, _, _, true, rfl, .ty "tuple", (Val.tup xa.1).ty, kit_tup .tup, true, rfl, iteF ?_⟩
    refine ⟨_, rfl, x.1, _, rfl, .inr (tof xa.1), rfl, _, rfl, iteF ?_⟩
    refine ⟨_, rfl, x.1, _, rfl, tof xa.1, rfl, _, _, rfl, _, _, rfl, _, _, rfl, rfl, ?_⟩
    refine ⟨_, rfl, p, dx, _, rfl, h1, no, _, rfl, p, .str x.2.1, cs, ts, rfl, pl, .inl ⟨x.2.1, rfl, ?_⟩⟩
    have esz : sizeV cs x.2.1 = .int (sizeI cs x.2.1) := by unfold sizeV; rw [(valV_sz okc xo.col).1]; rfl
    rw [esz]
    refine ⟨false, rfl, iteF ?_⟩
    refine ⟨_, rfl, _, rfl, _, rfl, p, x.2.1, x.2.2.1, cs, ts, rfl, pl, okc, xo.col, fun z hz => ⟨xa.2.1 z hz, xo.lot z hz⟩, fun H1 s1 => ⟨true, rfl, iteT ?_⟩⟩
    exact ⟨_, rfl, _, rfl, _, rfl, p, x.2.1, x.2.2.2.1, x.2.2.2.2, cs, ts, rfl, pl.same s1, okc.same s1, okt.same s1, xo.col, s1 _ _ xa.2.2, xo.ones, fun H2 s2 => q _ (s1.trans s2)⟩
end
end As

/-! ## G3 -/
namespace As
open PySem PySem.Spec PyProof.Rows L2
open PySem.W (dataLe AllAlike Sortable dataLt alike)
/-! links, and the ask -/
abbrev KRow := Addr × Str × Int
def kw (k : KRow) : V := .ref k.1
def KAt (H : Hp) (k : KRow) : Prop := H k.1 = some (.tup [.str k.2.1, .int k.2.2])
theorem KAt.imm {H H' : Hp} {k : KRow} (h : KAt H k) (e : Imm H H') : KAt H' k := e _ _ h
def order2 {α : Type} (way : Int) (b a : α) : List α := if way = 0 then [b, a] else [a, b]
def LinkOk (ts : List TRow) (k : KRow) (b a : Str) : Prop := (k.2.2 = 0 ∨ k.2.2 = 1) ∧ ∃ r, tabOf ts k.2.1 = some r ∧ r.2.2.2 = order2 k.2.2 b a
def weave {α : Type} : List α → List α → List α
  | x :: xs, y :: ys => x :: y :: weave xs ys
  | xs, [] => xs
  | [], _ => []
theorem weave_evens {α : Type} : ∀ {xs ys : List α}, xs.length = ys.length + 1 → evens (weave xs ys) = xs
  | [x], [], _ => rfl
  | x :: x2 :: xs, y :: ys, h => by
    show x :: evens (weave (x2 :: xs) ys) = _
    rw [weave_evens (by simpa using h)]
  | [], _, h => by simp at h
  | [x], y :: ys, h => by simp at h
  | x :: x2 :: xs, [], h => by simp at h
theorem weave_odds {α : Type} : ∀ {xs ys : List α}, xs.length = ys.length + 1 → evens ((weave xs ys).drop 1) = ys
  | [x], [], _ => rfl
  | [x, x2], [y], _ => rfl
  | x :: x2 :: x3 :: xs, y :: y2 :: ys, h => by
    have ih := weave_odds (xs := x2 :: x3 :: xs) (ys := y2 :: ys) (by simpa using h)
    show evens (y :: x2 :: y2 :: weave (x3 :: xs) ys) = _
    show y :: evens (y2 :: weave (x3 :: xs) ys) = _
    have e : (weave (x2 :: x3 :: xs) (y2 :: ys)).drop 1 = y2 :: weave (x3 :: xs) ys := rfl
    rw [e] at ih
    rw [ih]
  | [], _, h => by simp at h
  | [x], y :: ys, h => by simp at h
  | x :: x2 :: xs, [], h => by simp at h
  | [x, x2], y :: y2 :: ys, h => by simp at h
  | x :: x2 :: x3 :: xs, [y], h => by simp at h
theorem weave_len {α : Type} : ∀ {xs ys : List α}, xs.length = ys.length + 1 → (weave xs ys).length = 2 * ys.length + 1
  | [x], [], _ => rfl
  | x :: x2 :: xs, y :: ys, h => by
    show (weave (x2 :: xs) ys).length + 1 + 1 = _
    rw [weave_len (by simpa using h)]; simp only [List.length_cons]; omega
  | [], _, h => by simp at h
  | [x], y :: ys, h => by simp at h
  | x :: x2 :: xs, [], h => by simp at h
/-- the ask at a -/
structure AskAt (H : Hp) (a : Addr) (ss : List SRow) (ks : List KRow) : Prop where
  h : H a = some (.tup (weave (ss.map sv) (ks.map kw)))
  s : ∀ s ∈ ss, SAt H s
  k : ∀ k ∈ ks, KAt H k
  len : ss.length = ks.length + 1
theorem AskAt.same {H H' : Hp} {a : Addr} {ss : List SRow} {ks : List KRow} (x : AskAt H a ss ks) (e : Same H H') : AskAt H' a ss ks := ⟨e _ _ x.h, fun z hz => (x.s z hz).imm (same_imm e), fun z hz => e _ _ (x.k z hz), x.len⟩
section
variable {P : Program} {w : World} {K : PySem.W.Frag} {mg : Str → Option Value} {base : Heap}
/-- in_columns_order -/
def spOrder : Sp := fun vs H Q _ => ∃ (way : Int) (x y : V), vs = [.int way, x, y] ∧ ∀ t, H t = none → Q (.ref t) (upd H t (.tup (order2 way x y)))
theorem sc_order : FnScope ["way", "before", "after"] ["way", "before", "after"] (defScope s_in_columns_order) := ⟨rfl, rfl, rfl, by decide +kernel, rfl, by decide +kernel, by decide +kernel⟩
theorem ok_order {f : Addr} {fd : FuncData} (D : Df K mg "in_columns_order" s_in_columns_order ["way", "before", "after"] f fd) : FnOk P w K mg base CX0 1 f fd ["way", "before", "after"] spOrder := by
  refine D.F.ok sc_order (fun vs H Q E h => ?_) (fun cdv A outer s H vs Q E hr h => ?_)
  · obtain ⟨way, x, y, rfl, _⟩ := h; rfl
  · obtain ⟨way, x, y, rfl, q⟩ := h
    refine ⟨_, pss_one (ps_ret (pe_ifExp (pt_cmpR op_eq (pv 0) pe_int (nomark _)) (pe_tup (pa_cons (pv 1) (pa_cons (pv 2) pa_nil))) (pe_tup (pa_cons (pv 2) (pa_cons (pv 1) pa_nil))))), ?_⟩
    refine ⟨_, rfl, rfl, _, rfl, ?_⟩
    unfold order2 at q
    by_cases hw : way = 0
    · rw [show decide (V.int way = V.int 0) = true from decide_eq_true (by rw [hw])]
      rw [if_pos hw] at q
      exact iteT ⟨_, rfl, _, rfl, by show 2 ≤ sizeLine; decide, fun t nt => q t nt⟩
    · rw [show decide (V.int way = V.int 0) = false from decide_eq_false fun z => hw (by injection z)]
      rw [if_neg hw] at q
      exact iteF ⟨_, rfl, _, rfl, by show 2 ≤ sizeLine; decide, fun t nt => q t nt⟩
/-- is_link -/
def spIsLink (C : Addr) : Sp := fun vs H Q _ => ∃ (p : Addr) (k : KRow) (b a : Str) (cs : List CRow) (ts : List TRow), vs = [.ref p, kw k, .str b, .str a] ∧ PlanAt H C p cs ts ∧ ColsOk H cs ∧ TabsOk H (cs.map (·.2.1)) ts ∧ KAt H k ∧ LinkOk ts k b a ∧ b ∈ cs.map (·.2.1) ∧ a ∈ cs.map (·.2.1) ∧ ∀ H', Same H H' → Q (.bl true) H'
abbrev nIsLink : List Str := ["plan", "thing", "before", "after", "table", "way"]
theorem sc_is_link : FnScope nIsLink ["plan", "thing", "before", "after"] (defScope s_is_link) := ⟨rfl, rfl, rfl, by decide +kernel, rfl, by decide +kernel, by decide +kernel⟩
theorem ok_is_link {f fp fb fo fs C : Addr} {fd dp db do' ds : FuncData} (D : Df K mg "is_link" s_is_link ["plan", "thing", "before", "after"] f fd) (L : PlF K C) (ms : Meth K C "columns_of" fs) (Gs : FnOk P w K mg base CX0 1 fs ds ["self", "table"] (spColsOf C)) (bs : Binds K ds ["self", "table"] [])
    (Dp : Df K mg "is_pair" s_is_pair ["thing"] fp dp) (Gp : FnOk P w K mg base CX0 1 fp dp ["thing"] spPairA) (Db : Df K mg "is_below" s_is_below ["thing", "bound"] fb db) (Gb : FnOk P w K mg base CX0 2 fb db ["thing", "bound"] (spBelow K))
    (Do : Df K mg "in_columns_order" s_in_columns_order ["way", "before", "after"] fo do') (Go : FnOk P w K mg base CX0 1 fo do' ["way", "before", "after"] spOrder) : FnOk P w K mg base CX0 3 f fd ["plan", "thing", "before", "after"] (spIsLink C) := by
  refine D.F.ok sc_is_link (fun vs H Q E h => ?_) (fun cdv A outer s H vs Q E hr h => ?_)
  · obtain ⟨p, k, b, a, cs, ts, rfl, _⟩ := h; rfl
  · obtain ⟨p, k, b, a, cs, ts, rfl, pl, okc, okt, hk, ⟨hw, r, er, ep⟩, mb, ma, q⟩ := h
    have hr1 : Room 1 _ := hr.mono (by decide)
    have hu := hu64 hr
    refine ⟨_, pss_cons (ps_if (pt_not (pt_val (pcall Dp Gp hr1 (pa_cons (pv 1) pa_nil)))) (pss_one (ps_ret pe_bl)) pss_nil)
      (pss_cons (ps_asg (pv 1) (pg_tup rfl (pgs_cons (pg_name (i := 4) sc_is_link.nd rfl (Or.inl rfl)) (pgs_cons (pg_name (i := 5) sc_is_link.nd rfl (Or.inl rfl)) pgs_nil))))
      (pss_one (ps_ret (pe_and (pcall Db Gb hr (pa_cons (pv 5) (pa_cons pe_int pa_nil))) (pe_one (pe_cmpR (op_eqD hu) (pe_meth (pv 0) L.cl ms Gs hr1 bs .nil pass0 (pa_cons (pv 4) pa_nil)) (pcall Do Go hr1 (pa_cons (pv 5) (pa_cons (pv 2) (pa_cons (pv 3) pa_nil)))) (nomark _))))))), ?_⟩
    obtain ⟨dx, ct, tt, sz, sp, sh, ks, h1, _⟩ := id pl
    have no : (pf ct tt sz sp sh).lookup (Str.ofString "columns_of") = none := pf_no (by decide +kernel) (by decide +kernel) (by decide +kernel) (by decide +kernel) (by decide +kernel)
    have cok : ∀ c ∈ cs.map (·.2.1), PyData.strOk c = true := fun c hc => by
      obtain ⟨r, hr, rfl⟩ := List.mem_map.mp hc
      exact name_ok (okc.nm r hr)
    have pb : pairB H (kw k) = true := by unfold pairB; rw [show tupV H (kw k) = _ from tupV_at hk]; rfl
    refine ⟨_, rfl, _, .tup, true, rfl, .tup hk, pb, true, rfl, iteF ?_⟩
    refine ⟨_, rfl, k.1, _, rfl, tof hk, rfl, _, _, rfl, _, _, rfl, rfl, ?_⟩
    refine ⟨_, rfl, .int k.2.2, .int, 2, rfl, .int _, ?_⟩
    rw [show belowV (.int k.2.2) 2 = true from decide_eq_true (by omega)]
    refine ⟨true, rfl, iteT ?_⟩
    have hp := okt.prt r (List.mem_of_find?_eq_some er)
    rw [ep] at hp
    refine ⟨_, rfl, p, dx, _, rfl, h1, no, _, rfl, p, k.2.1, cs, ts, r, rfl, pl, er, _, rfl, _, rfl, _, rfl, k.2.2, .str b, .str a, rfl, fun t nt => ?_⟩
    have s3 : Same H (upd H t (.tup (order2 k.2.2 (V.str b) (V.str a)))) := same_new nt
    have h3 : (upd H t (.tup (order2 k.2.2 (V.str b) (V.str a)))) t = some (.tup ((order2 k.2.2 b a).map V.str)) := by rw [upd_same]; unfold order2; split <;> rfl
    have hp3 := s3 _ _ hp
    generalize upd H t (.tup (order2 k.2.2 (V.str b) (V.str a))) = H3 at s3 h3 hp3 ⊢
    have lay1 : PyData.canLayAll0 ((order2 k.2.2 b a).map .str) = true := strs_lay fun x hx => by
      have hx2 : x = b ∨ x = a := by
        unfold order2 at hx
        split at hx <;> simp at hx
        · exact hx
        · exact hx.symm
      rcases hx2 with rfl | rfl
      · exact cok _ mb
      · exact cok _ ma
    refine ⟨.tuple ((order2 k.2.2 b a).map .str), .tuple ((order2 k.2.2 b a).map .str), .tup (tof hp3) dp_strs, .tup (tof h3) dp_strs, shaped_tup lay1 (by rw [strs_depth]; decide), shaped_tup lay1 (by rw [strs_depth]; decide), ?_⟩
    rw [eqv_tup eqv_str, decide_eq_true rfl]
    exact q _ s3
/-- stops_of, links_of -/
def spStops : Sp := fun vs H Q _ => ∃ (a : Addr) (ss : List SRow) (ks : List KRow), vs = [.ref a] ∧ AskAt H a ss ks ∧ ∀ t, H t = none → Q (.ref t) (upd H t (.tup (ss.map sv)))
def spLinks : Sp := fun vs H Q _ => ∃ (a : Addr) (ss : List SRow) (ks : List KRow), vs = [.ref a] ∧ AskAt H a ss ks ∧ ∀ t, H t = none → Q (.ref t) (upd H t (.tup (ks.map kw)))
theorem sc_stops : FnScope ["ask"] ["ask"] (defScope s_stops_of) := ⟨rfl, rfl, rfl, by decide +kernel, rfl, by decide +kernel, by decide +kernel⟩
theorem sc_links : FnScope ["ask"] ["ask"] (defScope s_links_of) := ⟨rfl, rfl, rfl, by decide +kernel, rfl, by decide +kernel, by decide +kernel⟩
theorem ok_stops {f : Addr} {fd : FuncData} (D : Df K mg "stops_of" s_stops_of ["ask"] f fd) : FnOk P w K mg base CX0 1 f fd ["ask"] spStops := by
  refine D.F.ok sc_stops (fun vs H Q E h => ?_) (fun cdv A outer s H vs Q E hr h => ?_)
  · obtain ⟨a, ss, ks, rfl, _⟩ := h; rfl
  · obtain ⟨a, ss, ks, rfl, x, q⟩ := h
    refine ⟨_, pss_one (ps_ret (pe_step (a := 0) (pv 0) (.inl ⟨rfl, rfl⟩))), ?_⟩
    have e := weave_evens (xs := ss.map sv) (ys := ks.map kw) (by rw [List.length_map, List.length_map]; exact x.len)
    refine ⟨_, rfl, a, _, rfl, tof x.h, Nat.zero_le _, fun t nt => ?_⟩
    rw [List.drop_zero, e]
    exact q t nt
theorem ok_links {f : Addr} {fd : FuncData} (D : Df K mg "links_of" s_links_of ["ask"] f fd) : FnOk P w K mg base CX0 1 f fd ["ask"] spLinks := by
  refine D.F.ok sc_links (fun vs H Q E h => ?_) (fun cdv A outer s H vs Q E hr h => ?_)
  · obtain ⟨a, ss, ks, rfl, _⟩ := h; rfl
  · obtain ⟨a, ss, ks, rfl, x, q⟩ := h
    have hl : (ss.map sv).length = (ks.map kw).length + 1 := by rw [List.length_map, List.length_map]; exact x.len
    refine ⟨_, pss_one (ps_ret (pe_step (a := 1) (pv 0) (.inr ⟨_, _, rfl⟩))), ?_⟩
    refine ⟨_, rfl, a, _, rfl, tof x.h, by rw [weave_len hl]; omega, fun t nt => ?_⟩
    rw [weave_odds hl]
    exact q t nt
end
end As

/-! ## G4 -/
namespace As
open PySem PySem.Spec PyProof.Rows L2
open PySem.W (dataLe AllAlike Sortable dataLt alike)
def namesOf (ss : List SRow) (ks : List KRow) : List Str := ss.flatMap (·.2.2.2.2) ++ ks.map (·.2.1)
section
variable {P : Program} {w : World} {K : PySem.W.Frag} {mg : Str → Option Value} {base : Heap}
/-- tables_of -/
def spTablesOf : Sp := fun vs H Q _ => ∃ (a : Addr) (ss : List SRow) (ks : List KRow), vs = [.ref a] ∧ AskAt H a ss ks ∧ ss.length ≤ 6 ∧ (∀ s ∈ ss, s.2.2.2.2.length ≤ 100) ∧ ∀ t H', Same H H' → H' t = some (.lst ((namesOf ss ks).map V.str)) → Q (.ref t) H'
abbrev nTables : List Str := ["ask", "names", "column", "lot", "ones", "name", "table", "way"]
theorem sc_tables_of : FnScope nTables ["ask"] (defScope s_tables_of) := ⟨rfl, rfl, rfl, by decide +kernel, rfl, by decide +kernel, by decide +kernel⟩
theorem ok_tables_of {f fs fl : Addr} {fd ds dl : FuncData} (D : Df K mg "tables_of" s_tables_of ["ask"] f fd) (Ds : Df K mg "stops_of" s_stops_of ["ask"] fs ds) (Gs : FnOk P w K mg base CX0 1 fs ds ["ask"] spStops)
    (Dl : Df K mg "links_of" s_links_of ["ask"] fl dl) (Gl' : FnOk P w K mg base CX0 1 fl dl ["ask"] spLinks) : FnOk P w K mg base CX0 2 f fd ["ask"] spTablesOf := by
  refine D.F.ok sc_tables_of (fun vs H Q E h => ?_) (fun cdv A outer s H vs Q E hr h => ?_)
  · obtain ⟨a, ss, ks, rfl, _⟩ := h; rfl
  · obtain ⟨a, ss, ks, rfl, x, l6, l100, q⟩ := h
    refine ⟨_, pss_cons (ps_setLc2 (i := 1) (own := [("column", 2), ("lot", 3), ("ones", 4), ("name", 5)]) (vs1 := [5]) (g := gTup K 3 (gCons (gName 2) (gCons (gName 3) (gCons (gName 4) gNil)))) (tt := tYes) (g1 := gName 5) (tt1 := tYes) rfl sc_tables_of.nd rfl rfl (sw_true rfl rfl rfl (by decide +kernel)) (pi_tup (pcall Ds Gs hr (pa_cons (pv 0) pa_nil)))
        (blkOk_by (N := nTables) (sc := defScope s_tables_of) (by decide +kernel)) (by decide) (fun _ _ _ _ _ => pgT K (pg_tup rfl (pgs_cons (pg_name (i := 2) sc_tables_of.nd rfl (Or.inl rfl)) (pgs_cons (pg_name (i := 3) sc_tables_of.nd rfl (Or.inl rfl)) (pgs_cons (pg_name (i := 4) sc_tables_of.nd rfl (Or.inl rfl)) pgs_nil))))) (fun _ _ _ _ _ => pts_nil)
        (fun _ _ _ _ _ => piT K (pv 4)) (fun _ _ _ _ _ => pg_name (i := 5) sc_tables_of.nd rfl (Or.inl rfl)) (fun _ _ _ _ _ => pts_nil) (fun _ _ _ _ _ => pv 5))
      (pss_one (ps_ret (pe_op op_cat (pv 1) (pe_lc (own := [("table", 6), ("way", 7)]) (g := gTup K 2 (gCons (gName 6) (gCons (gName 7) gNil))) (tt := tYes) rfl sc_tables_of.nd (pi_tup (pcall Dl Gl' hr (pa_cons (pv 0) pa_nil))) (blkOk_by (N := nTables) (sc := defScope s_tables_of) (by decide +kernel))
        (fun _ _ _ _ _ => pgT K (pg_tup rfl (pgs_cons (pg_name (i := 6) sc_tables_of.nd rfl (Or.inl rfl)) (pgs_cons (pg_name (i := 7) sc_tables_of.nd rfl (Or.inl rfl)) pgs_nil)))) (fun _ _ _ _ _ => pts_nil) (fun _ _ _ _ _ => pv 6))))), ?_⟩
    refine ⟨_, rfl, a, ss, ks, rfl, x, fun t nt => ?_⟩
    have s1 : Same H (upd H t (.tup (ss.map sv))) := same_new nt
    have h1 : (upd H t (.tup (ss.map sv))) t = some (.tup (ss.map sv)) := upd_same
    generalize upd H t (.tup (ss.map sv)) = H1 at s1 h1 ⊢
    refine ⟨t, rfl, ⟨_, tof h1⟩, fun D nD => ?_⟩
    have fln : ∀ i, ((ss.take i).flatMap (·.2.2.2.2)).length ≤ 600 := fun i => by
      have h := flat_len (m := 100) (l := ss.take i) (f := fun s : SRow => s.2.2.2.2) fun z hz => l100 z (List.mem_of_mem_take hz)
      rw [List.length_take] at h
      have : 100 * min i ss.length ≤ 100 * 6 := Nat.mul_le_mul_left _ (by omega)
      omega
    refine lc2_out (H1 := H1) (walk_tup (K := K) (a := t) (xs := ss.map sv)) nD (fun H4 s4 => tof (s4 _ _ h1)) (fun i acc _ => acc = ((ss.take i).flatMap (·.2.2.2.2)).map V.str) rfl (fun _ _ _ _ _ p => p)
      (fun i x2 Ha Hb acc Nx hi sa hDa p y2 hN => ?_) (fun H4 acc s4 hD4 p => ?_)
    · obtain ⟨rfl, hx2⟩ := y2
      subst p
      rw [List.getElem?_map] at hx2
      obtain ⟨z, hz, rfl⟩ := Option.map_eq_some_iff.mp hx2
      have zm := List.mem_of_getElem? hz
      have za := (x.s z zm).imm (same_imm (s1.trans sa))
      have tk : (ss.take (i + 1)).flatMap (·.2.2.2.2) = (ss.take i).flatMap (·.2.2.2.2) ++ z.2.2.2.2 := by
        rw [List.take_succ, hz, List.flatMap_append]
        show _ ++ List.flatMap _ [z] = _
        rw [List.flatMap_cons, List.flatMap_nil, List.append_nil]
      have zD : z.2.2.2.1 ≠ D := fun e => by
        have h := za.2.2; rw [e, hDa] at h; cases h
      refine ⟨z.1, _, rfl, tof za.1, rfl, _, _, rfl, _, _, rfl, _, _, rfl, rfl, rfl, ?_⟩
      refine iteT (B := Nx Hb) ?_
      refine ⟨_, rfl, z.2.2.2.1, rfl, ⟨_, tof za.2.2⟩, ?_⟩
      refine lc_in (walk_tup (K := K) (a := z.2.2.2.1) (xs := z.2.2.2.2.map V.str)) hDa (fun H' s' => tof (s' _ _ (by rw [rem_ne zD]; exact za.2.2))) (fun j acc _ => acc = ((ss.take i).flatMap (·.2.2.2.2) ++ z.2.2.2.2.take j).map V.str)
        (by rw [List.take_zero, List.append_nil]) (fun _ _ _ _ _ p => p) (fun j acc H' hj p => ?_) (fun j o Hd He acc Q1 Q2 hj sd hDd p y3 q1 q2 => ?_) (fun H' acc s' hD' p => ?_)
      · have h1 := fln i
        have h2 := l100 z zm
        rw [p, List.length_map, List.length_append, List.length_take]
        exact Nat.lt_of_le_of_lt (show _ ≤ 700 by omega) (by decide)
      · obtain ⟨rfl, hx3⟩ := y3
        subst p
        rw [List.getElem?_map] at hx3
        obtain ⟨o', ho, rfl⟩ := Option.map_eq_some_iff.mp hx3
        refine ⟨rfl, ?_⟩
        refine iteT (B := Q2 He) ?_
        refine ⟨_, rfl, q1 _ _ (Same.refl _) ?_⟩
        rw [List.take_succ, ho, ← List.append_assoc, List.map_append (l₁ := (ss.take i).flatMap (·.2.2.2.2) ++ z.2.2.2.2.take j)]; rfl
      · subst p
        rw [List.length_map, List.take_length] at hD'
        refine hN H' _ ?_ hD' (by rw [tk])
        exact (same_into_rem sa nD).trans s'
    · subst p
      rw [List.length_map, List.take_length] at hD4
      have s14 := s1.trans s4
      refine ⟨_, rfl, _, rfl, a, ss, ks, rfl, x.same s14, fun t2 nt2 => ?_⟩
      have s5 := s14.trans (same_new (o := .tup (ks.map kw)) nt2)
      have h5 : (upd H4 t2 (.tup (ks.map kw))) t2 = some (.tup (ks.map kw)) := upd_same
      have hD5 := (same_new (o := .tup (ks.map kw)) nt2) _ _ hD4
      generalize upd H4 t2 (.tup (ks.map kw)) = H5 at s5 h5 hD5 ⊢
      have kl : ks.length ≤ 6 := by have := x.len; omega
      refine ⟨t2, rfl, ⟨_, tof h5⟩, fun D2 nD2 => ?_⟩
      refine lc_fm (v := kw) (u := fun k => V.str k.2.1) (xs := ks) (fun _ => true) (walk_tup (K := K) (a := t2) (xs := ks.map kw)) nD2 (fun H' s' => tof (s' _ _ h5)) (by omega) (fun k H6 Q1 Q2 hk s6 k1 k2 => ?_) (fun H6 s6 hD6 => ?_)
      · refine ⟨k.1, _, rfl, tof ((s5.trans s6) _ _ (x.k k hk)), rfl, _, _, rfl, _, _, rfl, rfl, rfl, ?_⟩
        refine iteT (B := Q2 H6) ?_
        exact ⟨_, rfl, k1 rfl _ (Same.refl _)⟩
      · rw [List.filter_eq_self.mpr (fun _ _ => rfl)] at hD6
        have f6 := fln ss.length
        rw [List.take_length] at f6
        refine ⟨D, D2, _, _, rfl, rfl, s6 _ _ hD5, hD6, ?_, fun S nS => q S _ ((s5.trans s6).trans (same_new nS)) ?_⟩
        · rw [List.length_map, List.length_map]
          exact Nat.le_trans (show _ ≤ 700 by omega) (by decide)
        · rw [upd_same]; unfold namesOf
          rw [List.map_append, List.map_map]; rfl
end
end As

/-! ## G5 -/
namespace As
open PySem PySem.Spec PyProof.Rows L2
open PySem.W (dataLe AllAlike Sortable dataLt alike)
/-! the values of stops -/
abbrev LList := Addr × List Int
def lw (l : LList) : V := .ref l.1
def LlAt (H : Hp) (l : LList) : Prop := H l.1 = some (.lst (l.2.map V.int))
def lotOf (cs : List CRow) (s : SRow) : List Int := match s.2.2.1 with | none => ir (sizeI cs s.2.1).toNat | some x => x.2
theorem lotOf_len {cs : List CRow} {ts : List TRow} {s : SRow} {H : Hp} (okc : ColsOk H cs) (ok : SOk cs ts s) : 1 ≤ (lotOf cs s).length ∧ (lotOf cs s).length ≤ 100 := by
  unfold lotOf
  cases e : s.2.2.1 with
  | none =>
    have := valV_sz okc ok.col
    show 1 ≤ (ir _).length ∧ (ir _).length ≤ 100
    rw [ir_len]; omega
  | some x =>
    have := ok.lot x e
    exact ⟨List.length_pos_iff.mpr this.ne, this.len⟩
theorem rngV_ir (n : Nat) : (List.range n).map (fun (k : Nat) => V.int (0 + (k : Int))) = (ir n).map V.int := by
  unfold ir; rw [List.map_map]
  apply List.map_congr_left
  intro k _
  show V.int (0 + (k : Int)) = V.int (k : Int)
  rw [Int.zero_add]
section
variable {P : Program} {w : World} {K : PySem.W.Frag} {mg : Str → Option Value} {base : Heap}
/-- lots_of -/
def spLotsOf (C : Addr) : Sp := fun vs H Q _ => ∃ (p a : Addr) (ss : List SRow) (ks : List KRow) (cs : List CRow) (ts : List TRow), vs = [.ref p, .ref a] ∧ PlanAt H C p cs ts ∧ ColsOk H cs ∧ AskAt H a ss ks ∧ ss.length ≤ 6 ∧ (∀ s ∈ ss, SOk cs ts s) ∧
  ∀ t (ls : List LList) H', Same H H' → H t = none → H' t = some (.lst (ls.map lw)) → (∀ l ∈ ls, LlAt H' l) → ls.map (·.2) = ss.map (lotOf cs) → Q (.ref t) H'
abbrev nLotsOf : List Str := ["plan", "ask", "lots", "column", "lot", "ones"]
theorem sc_lots_of : FnScope nLotsOf ["plan", "ask"] (defScope s_lots_of) := ⟨rfl, rfl, rfl, by decide +kernel, rfl, by decide +kernel, by decide +kernel⟩
theorem ok_lots_of {f fs fz C : Addr} {fd ds dz : FuncData} (D : Df K mg "lots_of" s_lots_of ["plan", "ask"] f fd) (T : Bi mg) (L : PlF K C) (mz : Meth K C "size_of" fz) (Gz : FnOk P w K mg base CX0 1 fz dz ["self", "column"] (spSizeOf K C)) (bz : Binds K dz ["self", "column"] [])
    (Ds : Df K mg "stops_of" s_stops_of ["ask"] fs ds) (Gs : FnOk P w K mg base CX0 1 fs ds ["ask"] spStops) : FnOk P w K mg base CX0 2 f fd ["plan", "ask"] (spLotsOf C) := by
  refine D.F.ok sc_lots_of (fun vs H Q E h => ?_) (fun cdv A outer s H vs Q E hr h => ?_)
  · obtain ⟨p, a, ss, ks, cs, ts, rfl, _⟩ := h; rfl
  · obtain ⟨p, a, ss, ks, cs, ts, rfl, pl, okc, x, l6, so, q⟩ := h
    refine ⟨_, pss_cons (ps_set (i := 2) sc_lots_of.nd rfl (Or.inl rfl) (pe_lst pa_nil))
      (pss_cons (ps_for PassesOwn.never rfl (pi_tup (pcall Ds Gs hr (pa_cons (pv 1) pa_nil))) (pg_tup rfl (pgs_cons (pg_name (i := 3) sc_lots_of.nd rfl (Or.inl rfl)) (pgs_cons (pg_name (i := 4) sc_lots_of.nd rfl (Or.inl rfl)) (pgs_cons (pg_name (i := 5) sc_lots_of.nd rfl (Or.inl rfl)) pgs_nil))))
        (pss_one (ps_expr (pe_bm PySem.F.plainAttrs_list PySem.F.slot_list_append PySem.F.type_list_append mt_append (pv 2) (pa_cons (pe_ifExp (pt_cmp (pc_isN (pv 4))) (pe_listRg rfl (by rfl) T.list (prg_1 (by rfl) T.range (pe_meth (pv 0) L.cl mz Gz hr bz .nil pass0 (pa_cons (pv 3) pa_nil)))) (pe_callTy call_list_of (by rfl) T.list boot_list (pa_cons (pv 4) pa_nil))) pa_nil)))))
      (pss_one (ps_ret (pv 2)))), ?_⟩
    refine ⟨Nat.zero_le _, fun t nt => ?_⟩
    have s1 : Same H (upd H t (.lst [])) := same_new nt
    have h1 : (upd H t (.lst [])) t = some (.lst []) := upd_same
    generalize upd H t (.lst []) = H1 at s1 h1 ⊢
    refine ⟨_, rfl, a, ss, ks, rfl, x.same s1, fun t2 nt2 => ?_⟩
    have s2 : Same H1 (upd H1 t2 (.tup (ss.map sv))) := same_new nt2
    have h2 : (upd H1 t2 (.tup (ss.map sv))) t2 = some (.tup (ss.map sv)) := upd_same
    have k1 := s2 _ _ h1
    generalize upd H1 t2 (.tup (ss.map sv)) = H2 at s2 h2 k1 ⊢
    have n2 : t2 ≠ t := fun e => by rw [e, h1] at nt2; cases nt2
    have sB : Same H (rem H2 t) := same_into_rem (s1.trans s2) nt
    have b2 : (rem H2 t) t2 = some (.tup (ss.map sv)) := by rw [rem_ne n2]; exact h2
    have bn : (rem H2 t) t = none := rem_self
    have sr : Same (rem H2 t) H2 := same_rem
    generalize rem H2 t = B at sB b2 bn sr
    refine ⟨t2, rfl, ⟨_, tof h2⟩, for_it (walk_tup (K := K) (a := t2) (xs := ss.map sv)) (fun i σ H' => ∃ x3 x4 x5 ls, σ = [some (.ref p), some (.ref a), some (.ref t), x3, x4, x5] ∧ Same B H' ∧ H' t = some (.lst (ls.map lw)) ∧ (∀ l ∈ ls, l.1 ≠ t ∧ LlAt H' l) ∧ ls.map (·.2) = (ss.take i).map (lotOf cs))
      ⟨_, _, _, [], rfl, sr, k1, (fun _ z => nomatch z), rfl⟩ (fun i σ H' _ ⟨_, _, _, _, _, s', _⟩ => tof (s' _ _ b2)) ?_ ?_⟩
    · rintro i y σ Hx H4 hi ⟨x3, x4, x5, ls, rfl, s3, h3, la, key⟩ ⟨rfl, hy⟩
      rw [List.getElem?_map] at hy
      obtain ⟨z, hz, rfl⟩ := Option.map_eq_some_iff.mp hy
      have zm := List.mem_of_getElem? hz
      have sH4 := sB.trans s3
      have za := (x.s z zm).imm (same_imm sH4)
      have zo := so z zm
      have tk : (ss.take (i + 1)).map (lotOf cs) = (ss.take i).map (lotOf cs) ++ [lotOf cs z] := by rw [List.take_succ, hz, List.map_append]; rfl
      have lln : ls.length ≤ 6 := by
        have h := congrArg List.length key
        rw [List.length_map, List.length_map, List.length_take] at h
        omega
      have fin : ∀ (c : Addr) (ns : List Int) (H5 : Hp), ns = lotOf cs z → Same H4 H5 → H4 c = none → H5 c = some (.lst (ns.map V.int)) →
          ∃ x3 x4 x5, ∃ ls' : List LList, [some (.ref p), some (.ref a), some (.ref t), some (.str z.2.1), some (lotV z.2.2.1), some (.ref z.2.2.2.1)] = [some (.ref p), some (.ref a), some (.ref t), x3, x4, x5] ∧ Same B (upd H5 t (.lst (ls.map lw ++ [.ref c]))) ∧ (upd H5 t (.lst (ls.map lw ++ [.ref c]))) t = some (.lst (ls'.map lw)) ∧ (∀ l ∈ ls', l.1 ≠ t ∧ LlAt (upd H5 t (.lst (ls.map lw ++ [.ref c]))) l) ∧ ls'.map (·.2) = (ss.take (i + 1)).map (lotOf cs) := by
        intro c ns H5 en s5 nc hc
        have ct : c ≠ t := fun e => by rw [e, h3] at nc; cases nc
        refine ⟨_, _, _, ls ++ [(c, ns)], rfl, same_mut (s3.trans s5) bn, by rw [upd_same, List.map_append]; rfl, fun l hl => ?_, by rw [List.map_append, key, tk, en]; rfl⟩
        rcases List.mem_append.mp hl with hl | hl
        · refine ⟨(la l hl).1, ?_⟩
          show upd H5 t _ l.1 = _
          rw [upd_ne (la l hl).1]; exact s5 _ _ (la l hl).2
        · rw [List.mem_singleton] at hl; subst hl
          refine ⟨ct, ?_⟩
          show upd H5 t _ c = _
          rw [upd_ne ct]; exact hc
      refine ⟨z.1, _, rfl, tof za.1, rfl, _, _, rfl, _, _, rfl, _, _, rfl, rfl, ?_⟩
      cases el : z.2.2.1 with
      | none =>
        rw [el] at fin
        have pl3 := pl.same sH4
        obtain ⟨dx, ct, tt, sz, sp, sh, kk, g1, _⟩ := id pl3
        have no : (pf ct tt sz sp sh).lookup (Str.ofString "size_of") = none := pf_no (by decide +kernel) (by decide +kernel) (by decide +kernel) (by decide +kernel) (by decide +kernel)
        have vz := valV_sz okc zo.col
        have esz : sizeV cs z.2.1 = .int (sizeI cs z.2.1) := by unfold sizeV; rw [vz.1]; rfl
        refine ⟨_, rfl, .inl ⟨rfl, _, lof h3⟩, _, rfl, true, rfl, iteT ?_⟩
        refine ⟨_, rfl, p, dx, _, rfl, g1, no, _, rfl, p, .str z.2.1, cs, ts, rfl, pl3, .inl ⟨z.2.1, rfl, ?_⟩⟩
        rw [esz]
        refine ⟨_, rfl, ⟨by decide, by decide, by omega, by omega, Nat.le_trans (show (sizeI cs z.2.1 - 0).toNat ≤ 6 by omega) (by decide)⟩, fun c nc => ?_⟩
        have er : rgV 0 (sizeI cs z.2.1) = (ir (sizeI cs z.2.1).toNat).map V.int := by
          unfold rgV; rw [Int.sub_zero]; exact rngV_ir _
        rw [er]
        have s5 : Same H4 (upd H4 c (.lst ((ir (sizeI cs z.2.1).toNat).map V.int))) := same_new nc
        refine ⟨t, ls.map lw, .ref c, rfl, rfl, s5 _ _ h3, by rw [List.length_map]; exact Nat.lt_of_le_of_lt lln (by decide), ?_⟩
        exact fin c _ _ (by unfold lotOf; rw [el]) s5 nc upd_same
      | some lt =>
        rw [el] at fin
        have hl := za.2.1 lt el
        refine ⟨_, rfl, .inl ⟨rfl, _, lof h3⟩, _, rfl, false, rfl, iteF ?_⟩
        refine ⟨_, rfl, lt.1, _, rfl, .inr (tof hl), fun c nc => ?_⟩
        have s5 : Same H4 (upd H4 c (.lst (lt.2.map V.int))) := same_new nc
        refine ⟨t, ls.map lw, .ref c, rfl, rfl, s5 _ _ h3, by rw [List.length_map]; exact Nat.lt_of_le_of_lt lln (by decide), ?_⟩
        exact fin c lt.2 _ (by unfold lotOf; rw [el]) s5 nc upd_same
    · rintro σ H3 ⟨x3, x4, x5, ls, rfl, s3, h3, la, key⟩
      rw [List.length_map, List.take_length] at key
      exact ⟨_, rfl, q t ls H3 (sB.trans s3) nt h3 (fun l hl => (la l hl).2) key⟩
end
end As

/-! ## G6 -/
namespace As
open PySem PySem.Spec PyProof.Rows L2
open PySem.W (dataLe AllAlike Sortable dataLt alike)
theorem weave_even {α : Type} : ∀ {xs ys : List α}, xs.length = ys.length + 1 → ∀ i, (weave xs ys)[2 * i]? = xs[i]?
  | xs, ys, h, i => by rw [← evens_get, weave_evens h]
theorem weave_odd {α : Type} {xs ys : List α} (h : xs.length = ys.length + 1) (i : Nat) : (weave xs ys)[2 * i + 1]? = ys[i]? := by
  have e := weave_odds h
  have h2 : (evens ((weave xs ys).drop 1))[i]? = ys[i]? := by rw [e]
  rw [evens_get, List.getElem?_drop] at h2
  rw [← h2, show 1 + 2 * i = 2 * i + 1 by omega]
theorem walk_atT {K : PySem.W.Frag} {a : Addr} {xs : List V} (d : V) : Walk (Itt K a) xs.length (fun H => SqT K H a xs) (YFn fun i => xs.getD i d) :=
  walk_tup.mono (fun _ h => h) fun i H x H' hi _ y => ⟨y.1, by show x = xs.getD i d; rw [List.getD_eq_getElem?_getD, y.2]; rfl⟩
theorem order2_map {α β : Type} (f : α → β) (w : Int) (a b : α) : order2 w (f a) (f b) = (order2 w a b).map f := by unfold order2; split <;> rfl
def onesK (s : SRow) (v : Int) : List FK := s.2.2.2.2.map fun n => (n, [v])
def linkK (ks : List KRow) (rs : List Int) (i : Nat) (v : Int) : List FK := match i with
  | 0 => []
  | j + 1 => (match ks[j]?, rs[j]? with | some k, some u => [(k.2.1, order2 k.2.2 u v)] | _, _ => [])
def addedK (ss : List SRow) (ks : List KRow) (rs : List Int) (i : Nat) (v : Int) : List FK := linkK ks rs i v ++ (match ss[i]? with | some s => onesK s v | none => [])
section
variable {P : Program} {w : World} {K : PySem.W.Frag} {mg : Str → Option Value} {base : Heap}
/-- facts_added -/
def spAdded : Sp := fun vs H Q _ => ∃ (a r : Addr) (i : Nat) (v : Int) (ss : List SRow) (ks : List KRow) (rs : List Int), vs = [.ref a, .int (i : Int), .ref r, .int v] ∧ AskAt H a ss ks ∧ H r = some (.tup (rs.map V.int)) ∧ i < ss.length ∧ i ≤ rs.length ∧ ss.length ≤ 6 ∧ (∀ s ∈ ss, s.2.2.2.2.length ≤ 100) ∧
  ∀ t (fs : List FRow) H', Same H H' → H t = none → H' t = some (.lst (fs.map fv)) → (∀ f ∈ fs, FAt H' f) → fs.map (·.2.2) = addedK ss ks rs i v → Q (.ref t) H'
abbrev nAdded : List Str := ["ask", "at", "row", "value", "ones", "table", "way", "name"]
theorem sc_added : FnScope nAdded ["ask", "at", "row", "value"] (defScope s_facts_added) := ⟨rfl, rfl, rfl, by decide +kernel, rfl, by decide +kernel, by decide +kernel⟩
theorem ok_added {f fo : Addr} {fd do' : FuncData} (D : Df K mg "facts_added" s_facts_added ["ask", "at", "row", "value"] f fd) (Do : Df K mg "in_columns_order" s_in_columns_order ["way", "before", "after"] fo do') (Go : FnOk P w K mg base CX0 1 fo do' ["way", "before", "after"] spOrder) :
    FnOk P w K mg base CX0 2 f fd ["ask", "at", "row", "value"] spAdded := by
  refine D.F.ok sc_added (fun vs H Q E h => ?_) (fun cdv A outer s H vs Q E hr h => ?_)
  · obtain ⟨a, r, i, v, ss, ks, rs, rfl, _⟩ := h; rfl
  · obtain ⟨a, r, i, v, ss, ks, rs, rfl, x, hr', hi, lrs, l6, l100, q⟩ := h
    refine ⟨_, pss_cons (ps_setLc (i := 4) (own := [("name", 7)]) (g := gName 7) (tt := tYes) rfl sc_added.nd rfl rfl (sw_true rfl rfl rfl (by decide +kernel)) (pi_tup (pe_ix ix_tup (pe_ix ix_tup (pv 0) (pe_op op_mul pe_int (pv 1)) (fun _ _ => rfl)) pe_int (fun _ _ => rfl))) (blkOk_by (N := nAdded) (sc := defScope s_facts_added) (by decide +kernel))
        (fun _ _ _ _ _ => pg_name (i := 7) sc_added.nd rfl (Or.inl rfl)) (fun _ _ _ _ _ => pts_nil) (fun _ _ _ _ _ => pe_tup (pa_cons (pv 7) (pa_cons (pe_tup (pa_cons (pv 3) pa_nil)) pa_nil))))
      (pss_cons (ps_if (pt_cmpR op_eq (pv 1) pe_int (nomark _)) (pss_one (ps_ret (pv 4))) pss_nil)
      (pss_cons (ps_asg (pe_ix ix_tup (pv 0) (pe_op op_sub (pe_op op_mul pe_int (pv 1)) pe_int) (fun _ _ => rfl)) (pg_tup rfl (pgs_cons (pg_name (i := 5) sc_added.nd rfl (Or.inl rfl)) (pgs_cons (pg_name (i := 6) sc_added.nd rfl (Or.inl rfl)) pgs_nil))))
      (pss_one (ps_ret (pe_lst (pa_cons (pe_tup (pa_cons (pv 5) (pa_cons (pcall Do Go hr (pa_cons (pv 6) (pa_cons (pe_ix ix_tup (pv 2) (pe_op op_sub (pv 1) pe_int) (fun _ _ => rfl)) (pa_cons (pv 3) pa_nil)))) pa_nil))) (StX.pa_star (pv 4) pa_nil))))))), ?_⟩
    obtain ⟨z, hz⟩ : ∃ z, ss[i]? = some z := ⟨ss[i], List.getElem?_eq_getElem hi⟩
    have zm := List.mem_of_getElem? hz
    have za := x.s z zm
    have wl : (ss.map sv).length = (ks.map kw).length + 1 := by rw [List.length_map, List.length_map]; exact x.len
    have wn := weave_len wl
    have kl : (ks.map kw).length = ks.length := List.length_map _
    have xl := x.len
    have g0 : (weave (ss.map sv) (ks.map kw))[2 * i]? = some (sv z) := by rw [weave_even wl, List.getElem?_map, hz]; rfl
    have ol : (z.2.2.2.2.map V.str).length = z.2.2.2.2.length := List.length_map _
    refine ⟨_, rfl, _, rfl, 2, (i : Int), rfl, rfl, .inl ⟨by decide, by decide⟩, a, _, 2 * (i : Int), sv z, rfl, rfl, tof x.h, atI_lt (by omega) (by omega) (by rw [show (2 * (i : Int)).toNat = 2 * i by omega]; exact g0), ?_⟩
    refine ⟨z.1, _, 2, .ref z.2.2.2.1, rfl, rfl, tof za.1, rfl, z.2.2.2.1, rfl, ⟨_, tof za.2.2⟩, fun D nD => ?_⟩
    refine lc_new (H1 := H) (walk_atT (K := K) (a := z.2.2.2.1) (xs := z.2.2.2.2.map V.str) .non) nD (fun H2 s2 => tof (s2 _ _ za.2.2)) (by rw [ol]; exact Nat.lt_of_le_of_lt (l100 z zm) (by decide)) (fun n acc H' => ∃ gs : List FRow, acc = gs.map fv ∧ (∀ g ∈ gs, FAt H' g) ∧ gs.map (·.2.2) = (z.2.2.2.2.take n).map fun o => ((o, [v]) : FK))
      ⟨[], rfl, (fun _ z => nomatch z), rfl⟩ (fun n acc H H' im ⟨gs, e, fa, k⟩ => ⟨gs, e, fun g hg => (fa g hg).imm im, k⟩) (fun n H2 acc Q1 Q2 hn s2 ⟨gs, e, fa, k⟩ k1 k2 => ?_) (fun H2 acc s2 hD2 ⟨gs, e, fa, k⟩ => ?_)
    · rw [ol] at hn
      have hx : z.2.2.2.2[n]? = some z.2.2.2.2[n] := List.getElem?_eq_getElem hn
      rw [getD_map' hx]
      subst e
      refine ⟨rfl, ?_⟩
      refine iteT (B := Q2 H2) ?_
      refine ⟨_, rfl, _, rfl, by show 1 ≤ sizeLine; decide, fun t1 n1 => ⟨by show 2 ≤ sizeLine; decide, fun t2 n2 => ?_⟩⟩
      refine k1 _ _ ((same_new n1).trans (same_new n2)) ⟨gs ++ [(t2, t1, z.2.2.2.2[n], [v])], by rw [List.map_append]; rfl, fun g hg => ?_, by rw [List.map_append, k, List.take_succ, hx, List.map_append]; rfl⟩
      rcases List.mem_append.mp hg with hg | hg
      · exact ((fa g hg).imm (imm_new n1)).imm (imm_new n2)
      · rw [List.mem_singleton] at hg; subst hg
        exact ⟨upd_same, same_new n2 _ _ upd_same⟩
    subst e
    rw [ol, List.take_length] at k
    have gl : gs.length ≤ 100 := by
      have h := congrArg List.length k
      rw [List.length_map, List.length_map] at h
      have := l100 z zm
      omega
    have ko : (match ss[i]? with | some s => onesK s v | none => []) = gs.map (·.2.2) := by rw [hz, k]; rfl
    cases i with
    | zero =>
      refine ⟨_, rfl, rfl, _, rfl, iteT ⟨_, rfl, ?_⟩⟩
      exact q D gs H2 s2 nD hD2 fa (by unfold addedK linkK; rw [ko]; rfl)
    | succ j =>
      have hj : j < ks.length := by omega
      obtain ⟨y, hy⟩ : ∃ y, ks[j]? = some y := ⟨ks[j], List.getElem?_eq_getElem hj⟩
      obtain ⟨u, hu⟩ : ∃ u, rs[j]? = some u := ⟨rs[j]'(by omega), List.getElem?_eq_getElem (by omega)⟩
      have ya := x.k y (List.mem_of_getElem? hy)
      have g1 : (weave (ss.map sv) (ks.map kw))[2 * j + 1]? = some (kw y) := by rw [weave_odd wl, List.getElem?_map, hy]; rfl
      refine ⟨_, rfl, rfl, _, rfl, ?_⟩
      rw [show decide (V.int ((j + 1 : Nat) : Int) = V.int 0) = false from decide_eq_false fun e => by injection e with e; omega]
      refine iteF ?_
      refine ⟨_, rfl, _, rfl, 2, ((j + 1 : Nat) : Int), rfl, rfl, .inl ⟨by decide, by decide⟩, 2 * ((j + 1 : Nat) : Int), 1, rfl, rfl, a, _, 2 * ((j + 1 : Nat) : Int) - 1, kw y, rfl, rfl, tof (s2 _ _ x.h), atI_lt (by omega) (by omega) (by rw [show (2 * ((j + 1 : Nat) : Int) - 1).toNat = 2 * j + 1 by omega]; exact g1), ?_⟩
      refine ⟨y.1, _, rfl, tof (s2 _ _ ya), rfl, _, _, rfl, _, _, rfl, rfl, ?_⟩
      refine ⟨_, rfl, _, rfl, _, rfl, _, rfl, ((j + 1 : Nat) : Int), 1, rfl, rfl, r, _, ((j + 1 : Nat) : Int) - 1, .int u, rfl, rfl, tof (s2 _ _ hr'), atI_lt (by omega) (by rw [List.length_map]; omega) (by rw [show (((j + 1 : Nat) : Int) - 1).toNat = j by omega, List.getElem?_map, hu]; rfl), _, rfl, y.2.2, .int u, .int v, rfl, fun t1 n1 => ?_⟩
      rw [order2_map V.int]
      refine ⟨by show 2 ≤ sizeLine; decide, fun t2 n2 => ?_⟩
      have s3 : Same H2 (upd (upd H2 t1 (.tup ((order2 y.2.2 u v).map V.int))) t2 (.tup [.str y.2.1, .ref t1])) := (same_new n1).trans (same_new n2)
      have f3 : FAt (upd (upd H2 t1 (.tup ((order2 y.2.2 u v).map V.int))) t2 (.tup [.str y.2.1, .ref t1])) (t2, t1, y.2.1, order2 y.2.2 u v) := ⟨upd_same, same_new n2 _ _ upd_same⟩
      generalize upd (upd H2 t1 (.tup ((order2 y.2.2 u v).map V.int))) t2 (.tup [.str y.2.1, .ref t1]) = H3 at s3 f3 ⊢
      refine ⟨_, rfl, D, gs.map fv, rfl, .inr (lof (s3 _ _ hD2)), ?_, fun S nS => ?_⟩
      · show (V.ref t2 :: (gs.map fv ++ [])).length ≤ sizeLine
        rw [List.append_nil, List.length_cons, List.length_map]
        exact Nat.le_trans (show gs.length + 1 ≤ 101 by omega) (by decide)
      have e : V.ref t2 :: (gs.map fv ++ []) = (((t2, t1, y.2.1, order2 y.2.2 u v) : FRow) :: gs).map fv := by rw [List.append_nil]; rfl
      have s23 := s2.trans s3
      refine q S ((t2, t1, y.2.1, order2 y.2.2 u v) :: gs) _ (s23.trans (same_new nS)) (s23.free nS) (by rw [upd_same]; exact congrArg (fun l => some (HO.lst l)) e) (fun g hg => ?_) ?_
      · rcases List.mem_cons.mp hg with rfl | hg
        · exact f3.imm (imm_new nS)
        · exact ((fa g hg).imm (same_imm s3)).imm (imm_new nS)
      · have el : linkK ks rs (j + 1) v = [(y.2.1, order2 y.2.2 u v)] := by simp [linkK, hy, hu]
        unfold addedK
        rw [ko, el]; rfl
end
end As

/-! ## G7 -/
namespace As
open PySem PySem.Spec PyProof.Rows L2
open PySem.W (dataLe AllAlike Sortable dataLt alike)
def rowK (ss : List SRow) (ks : List KRow) (rs : List Int) (i : Nat) : List FK := (List.range i).flatMap fun j => match rs[j]? with | some v => addedK ss ks rs j v | none => []
theorem addedK_len {ss : List SRow} {ks : List KRow} {rs : List Int} {i : Nat} {v : Int} (h : ∀ s ∈ ss, s.2.2.2.2.length ≤ 100) : (addedK ss ks rs i v).length ≤ 101 := by
  have h1 : (linkK ks rs i v).length ≤ 1 := by
    unfold linkK
    split
    · simp
    · split <;> simp
  unfold addedK
  rw [List.length_append]
  cases e : ss[i]? with
  | none => simp only [List.length_nil]; omega
  | some s =>
    have h2 : (onesK s v).length ≤ 100 := by unfold onesK; rw [List.length_map]; exact h s (List.mem_of_getElem? e)
    show _ + (onesK s v).length ≤ 101
    omega
theorem rowK_len {ss : List SRow} {ks : List KRow} {rs : List Int} (h : ∀ s ∈ ss, s.2.2.2.2.length ≤ 100) (i : Nat) : (rowK ss ks rs i).length ≤ 101 * i := by
  unfold rowK
  have e := flat_len (m := 101) (l := List.range i) (f := fun j => match rs[j]? with | some v => addedK ss ks rs j v | none => []) fun x _ => by
    cases e : rs[x]? with
    | none => simp
    | some v => exact addedK_len h
  rw [List.length_range] at e; exact e
theorem rowK_succ {ss : List SRow} {ks : List KRow} {rs : List Int} {i : Nat} {v : Int} (h : rs[i]? = some v) : rowK ss ks rs (i + 1) = rowK ss ks rs i ++ addedK ss ks rs i v := by
  unfold rowK
  rw [List.range_succ, List.flatMap_append, List.flatMap_cons, List.flatMap_nil, List.append_nil, h]
section
variable {P : Program} {w : World} {K : PySem.W.Frag} {mg : Str → Option Value} {base : Heap}
/-- facts_of_row -/
def spRowFacts : Sp := fun vs H Q _ => ∃ (a r : Addr) (ss : List SRow) (ks : List KRow) (rs : List Int), vs = [.ref a, .ref r] ∧ AskAt H a ss ks ∧ H r = some (.tup (rs.map V.int)) ∧ rs.length = ss.length ∧ ss.length ≤ 6 ∧ (∀ s ∈ ss, s.2.2.2.2.length ≤ 100) ∧
  ∀ t (fs : List FRow) H', Same H H' → H' t = some (.tup (fs.map fv)) → (∀ f ∈ fs, FAt H' f) → fs.map (·.2.2) = rowK ss ks rs rs.length → Q (.ref t) H'
abbrev nRowF : List Str := ["ask", "row", "at", "value", "fact"]
/-- product_of_sizes -/
def prodI (ls : List (List Int)) : Int := ls.foldl (fun m l => m * (l.length : Int)) 1
def spProd : Sp := fun vs H Q _ => ∃ (t : Addr) (ls : List LList), vs = [.ref t] ∧ H t = some (.lst (ls.map lw)) ∧ (∀ l ∈ ls, LlAt H l ∧ l.2.length ≤ 1000) ∧ Q (.int (prodI (ls.map (·.2)))) H
abbrev nProd : List Str := ["lots", "many", "lot"]
theorem sc_prod : FnScope nProd ["lots"] (defScope s_product_of_sizes) := ⟨rfl, rfl, rfl, by decide +kernel, rfl, by decide +kernel, by decide +kernel⟩
theorem ok_prod {f : Addr} {fd : FuncData} (D : Df K mg "product_of_sizes" s_product_of_sizes ["lots"] f fd) (T : Bi mg) : FnOk P w K mg base CX0 1 f fd ["lots"] spProd := by
  refine D.F.ok sc_prod (fun vs H Q E h => ?_) (fun cdv A outer s H vs Q E hr h => ?_)
  · obtain ⟨t, ls, rfl, _⟩ := h; rfl
  · obtain ⟨t, ls, rfl, ht, la, q⟩ := h
    refine ⟨_, pss_cons (ps_set (i := 1) sc_prod.nd rfl (Or.inl rfl) pe_int)
      (pss_cons (ps_for PassesOwn.never rfl (pi_list (pv 0)) (pg_name (i := 2) sc_prod.nd rfl (Or.inl rfl)) (pss_one (ps_set (i := 1) sc_prod.nd rfl (Or.inl rfl) (pe_op op_mul (pv 1) (pe_callB call_len_seq (by rfl) T.len PySem.boot_len (pa_cons (pv 2) pa_nil))))))
      (pss_one (ps_ret (pv 1)))), ?_⟩
    refine ⟨_, rfl, t, rfl, ⟨_, lof ht⟩, for_it (walk_list (K := K) (a := t) (xs := ls.map lw)) (fun i σ H' => ∃ x2, σ = [some (.ref t), some (.int (prodI ((ls.take i).map (·.2)))), x2] ∧ H' = H) ⟨_, rfl, rfl⟩ (fun i σ H' _ ⟨_, _, e⟩ => by subst e; exact lof ht) ?_ ?_⟩
    · rintro i y σ Hx H2 hi ⟨x2, rfl, rfl⟩ ⟨rfl, hy⟩
      rw [List.getElem?_map] at hy
      obtain ⟨l, hl, rfl⟩ := Option.map_eq_some_iff.mp hy
      obtain ⟨hla, hll⟩ := la l (List.mem_of_getElem? hl)
      have ep : prodI ((ls.take (i + 1)).map (·.2)) = prodI ((ls.take i).map (·.2)) * ((l.2.map V.int).length : Nat) := by
        rw [List.take_succ, hl, List.map_append]
        unfold prodI
        rw [List.foldl_append, List.length_map]; rfl
      refine ⟨_, rfl, _, rfl, l.1, _, rfl, .inl (lof hla), _, _, rfl, rfl, .inr ⟨?_, ?_⟩, ?_⟩
      · rw [List.length_map]; omega
      · rw [List.length_map]; omega
      · rw [ep]; exact ⟨_, rfl, rfl⟩
    · rintro σ H2 ⟨x2, rfl, rfl⟩
      rw [List.length_map, List.take_length]
      exact ⟨_, rfl, q⟩
end
end As

/-! ## A25 -/
set_option maxHeartbeats 3200000
namespace As
open PySem PySem.Spec PyProof.Rows L2
/-- how many different texts stand among the first i -/
def cntS (xs : List Str) : Nat → Nat
  | 0 => 0
  | i + 1 => if (xs.take i).any (· == xs.getD i Str.empty) = true then cntS xs i else cntS xs i + 1
theorem cntS_le {xs : List Str} : ∀ i, cntS xs i ≤ i
  | 0 => Nat.le_refl _
  | i + 1 => by
    unfold cntS
    have := cntS_le (xs := xs) i
    split <;> omega
theorem take_more {xs : List Str} {i : Nat} (h : i < xs.length) (k : Str) : (xs.take (i + 1)).any (· == k) = ((xs.take i).any (· == k) || decide (k = xs.getD i Str.empty)) := by
  have e : xs.getD i Str.empty = xs[i] := by rw [List.getD_eq_getElem?_getD, List.getElem?_eq_getElem h]; rfl
  rw [List.take_succ, List.getElem?_eq_getElem h, List.any_append, e]
  congr 1
  show (xs[i] == k || false) = decide (k = xs[i])
  rw [Bool.or_false]
  by_cases q : k = xs[i]
  · rw [decide_eq_true q, q]; exact beq_self_eq_true _
  · rw [decide_eq_false q]; exact beq_eq_false_iff_ne.mpr fun z => q z.symm
theorem cntS_full {xs : List Str} : ∀ i, i ≤ xs.length → (cntS xs i = i ↔ (xs.take i).Nodup)
  | 0, _ => by simp [cntS]
  | i + 1, h => by
    have hl : i < xs.length := h
    have ih := cntS_full (xs := xs) i (Nat.le_of_lt hl)
    have le := cntS_le (xs := xs) i
    have e : xs.getD i Str.empty = xs[i] := by rw [List.getD_eq_getElem?_getD, List.getElem?_eq_getElem hl]; rfl
    have hm : (xs.take i).any (· == xs[i]) = true ↔ xs[i] ∈ xs.take i := by
      rw [List.any_eq_true]
      exact ⟨fun ⟨x, hx, hq⟩ => by rw [← eq_of_beq hq]; exact hx, fun hx => ⟨_, hx, beq_self_eq_true _⟩⟩
    unfold cntS
    rw [e, List.take_succ, List.getElem?_eq_getElem hl, Option.toList_some, List.nodup_append]
    by_cases q : xs[i] ∈ xs.take i
    · rw [if_pos (hm.mpr q)]
      exact ⟨fun z => by omega, fun z => absurd rfl (z.2.2 _ q _ (by simp))⟩
    · rw [if_neg fun z => q (hm.mp z)]
      constructor
      · intro z
        refine ⟨ih.mp (by omega), by simp, fun a ha b hb => ?_⟩
        rw [List.mem_singleton] at hb
        exact fun c => q (by rw [← hb, ← c]; exact ha)
      · intro z
        rw [ih.mpr z.1]
theorem cntS_nodup {xs : List Str} : cntS xs xs.length = xs.length ↔ xs.Nodup := by
  have := cntS_full (xs := xs) xs.length (Nat.le_refl _)
  rwa [List.take_length] at this

section
variable {prog : Program} {w : World} {A : Around} {R : Result → Shared → Prop} {I : Addr} {fp wr : List Addr} {G : Array GenState → Array GenState → Prop} {n : Nat} {P : Nat → Value → Prop} {St : Nat → Shared → Prop}
theorem setS_at {knd : KeyKind prog w Str} {h h' : Heap} {a : Addr} {f : Str → Bool} {m : Nat} (hS : h.SetOf knd a f m) (k : ∀ o, h.get? a = some o → h'.get? a = some o) : h'.SetOf knd a f m := by
  obtain ⟨o, es, ep, t, ho, r⟩ := hS
  exact ⟨o, es, ep, t, k o ho, r⟩
theorem texts_loop (W : WalksS prog w A.in1 I fp wr G n P St) {D : Addr} (out : D ∉ fp) {xs : List Str} (len : xs.length = n) (room : n + 1 < scanBound)
    (are : ∀ i v, P i v → ∃ t, v = .str (xs.getD i Str.empty) t) :
    ∀ (m i : Nat) (s : Shared), i + m = n → St i s → s.heap.SetOf (PySem.strKind prog w) D (fun k => (xs.take i).any (· == k)) (cntS xs i) →
      (∀ s', Moved (D :: wr) G s s' → s'.heap.SetOf (PySem.strKind prog w) D (fun k => (xs.take n).any (· == k)) (cntS xs n) → R (.ok (.ret .none)) s') →
      codeAny (model prog w) A (.builtin "set.update.loop" ⟨[.ref D, .ref I], []⟩) R s := by
  have outw : D ∉ wr := fun h => out (W.sub _ h)
  have more : ∀ b ∈ wr, b ∈ D :: wr := fun b hb => List.mem_cons_of_mem _ hb
  intro m
  induction m with
  | zero =>
    intro i s e st hS fin
    obtain rfl : i = n := e
    refine codeAny_builtin PyProof.Rows.F.entry_set_update_loop ?_
    rw [Around.under_plainId PyProof.Rows.F.plain_set_update_loop _]
    show wpAny _ A.in1 (pyNext (.ref I) >>= _) _ _ s
    exact wpAny_bind (W.done s _ _ st fun s' mv => wpAny_pure (fin s' (mv.mono more) (setS_at hS (mv.heap D · outw))))
  | succ m ih =>
    intro i s e st hS fin
    have lt : i < n := by omega
    refine codeAny_builtin PyProof.Rows.F.entry_set_update_loop ?_
    rw [Around.under_plainId PyProof.Rows.F.plain_set_update_loop _]
    show wpAny _ A.in1 (pyNext (.ref I) >>= _) _ _ s
    refine wpAny_bind (W.item i s _ _ lt st fun v s' hP st' mv => ?_)
    obtain ⟨t, rfl⟩ := are i v hP
    show wpAny _ A.in1 (holding [Value.str (xs.getD i Str.empty) t] (setAdd D (.str (xs.getD i Str.empty) t)) >>= _) _ _ s'
    refine wpAny_bind (wpAny_holding ?_)
    unfold setAdd
    refine wpAny_holding (wpAny_bind ((PySem.strKind prog w).pyHash (k := xs.getD i Str.empty) (strKind_is _ _ _ _) ?_))
    have le := cntS_le (xs := xs) i
    refine wpAny_setAddHashed_of (knd := PySem.strKind prog w) (s := { s' with toks := s'.toks + 1 }) (strKind_is _ _ _ _) rfl (setS_at hS (mv.heap D · outw)) (by omega) fun h' sb new => ?_
    have hS1 : h'.SetOf (PySem.strKind prog w) D (fun k => (xs.take (i + 1)).any (· == k)) (cntS xs (i + 1)) :=
      SetOf_congr new (fun k => (take_more (by omega) k).symm) (by rw [cntS])
    refine wpAny_pure ⟨plainId_quiet PyProof.Rows.F.plain_set_update_loop _, ih (i + 1) _ (by omega) (W.frame _ s' _ _ st' (Nat.le_succ _) fun b hb o ho => ?_) hS1 fun s2 mv2 hS2 => fin s2 (Moved.trans W.gtrans ((mv.mono more).then_heap (Nat.le_succ _) fun b o hb ho => ?_) mv2) hS2⟩
    · rw [sb.2 b fun q => out (q ▸ hb)]; exact ho
    · rw [sb.2 b fun q => hb (q ▸ List.mem_cons_self)]; exact ho
end

section
variable {prog : Program} {w : World} {A : Around} {E : Value → Shared → Prop} {s : Shared}
/-- a type is called: its __new__, then its __init__, each told as a code -/
theorem type_call_by {T newId initId : String} {args : List Value} {Q Q₁ : Value → Shared → Prop} (ft : TypeCalled T newId initId) (hct : checkTypeCall T ⟨args, []⟩ = pure ())
    (hnew : codeAny (model prog w) A.in1 (.call (.builtin newId) ⟨.type T :: args, []⟩) (wants Q₁ E) s)
    (hinit : ∀ obj s₁, Q₁ obj s₁ → s₁.TypeIs obj T ∧ codeAny (model prog w) A.in1 (.call (.builtin initId) ⟨obj :: args, []⟩) (wants (fun r s₂ => r = .none ∧ Q obj s₂) E) s₁) :
    wpAny (model prog w) A (call (.type T) args) Q E s := by
  have ⟨c, tl, hmro⟩ := ft.mro
  have hmade := ft.made
  have hsub := ft.sub
  have h1 := ft.notType
  have h2 := ft.canCreate
  refine wpAny_call (codeAny_of_tree (wpAny_pure ⟨Code.quiet_builtin _ (by decide +kernel), codeAny_builtin PySem.F.entry_type_call ?_⟩))
  rw [Around.under_plain (weight_type_call_type T args []) rfl]
  repeat (any_goals (first | assumption | wp_step))
  refine codeAny_mono hnew fun r s₁ hr => ?_
  rcases r with e | fl
  · exact hr
  · cases fl with
    | ret obj =>
      obtain ⟨hT, hi⟩ := hinit _ _ hr
      have hli := ft.init.lookup
      have hbi := ft.init.bind obj
      repeat (any_goals (first | assumption | wp_step))
      refine codeAny_mono hi fun r₂ s₂ hr₂ => ?_
      rcases r₂ with e | fl₂
      · exact hr₂
      · cases fl₂ with
        | ret r =>
          obtain ⟨rfl, hq⟩ := hr₂
          repeat (any_goals (first | assumption | wp_step))
        | _ => exact hr₂.elim
    | _ => exact hr.elim
theorem call_set_texts {l : Addr} {items : Array Value} {xs : List Str} {Q : Value → Shared → Prop}
    (hh : A.handled = none) (hl : s.heap.IsList l items) (hi : PyProof.Rows.StrsAre items.toList xs) (room : xs.length + 1 < scanBound)
    (h : ∀ (h' : Heap) (tk : Nat), h'.SetOf (PySem.strKind prog w) s.heap.objs.size (fun k => (xs.take xs.length).any (· == k)) (cntS xs xs.length) →
      (∀ b o, b < s.heap.objs.size → s.heap.get? b = some o → h'.get? b = some o) → Q (.ref s.heap.objs.size) { s with heap := h', toks := tk }) :
    wpAny (model prog w) A (call (.type "set") [.ref l]) Q E s := by
  have len : xs.length = items.size := by rw [← StrsAre.len_eq hi, Array.length_toList]
  refine type_call_by (Q₁ := fun obj s₁ => ∃ led : Bool, obj = .ref s.heap.objs.size ∧ s₁ = { s with heap := s.heap.push { cls := .type "set", dict := none, data := .set #[] 0 (.fresh 0 0 led) } }) PySem.F.called_set (PySem.F.typeCall_set_1 _)
    (code_set_new_1 _ fun led => ⟨led, rfl, rfl⟩) fun obj s₁ h₁ => ?_
  obtain ⟨led, rfl, rfl⟩ := h₁
  obtain ⟨D, eD⟩ : ∃ D, s.heap.objs.size = D := ⟨_, rfl⟩
  obtain ⟨h1, e1⟩ : ∃ h1, s.heap.push { cls := .type "set", dict := none, data := .set #[] 0 (.fresh 0 0 led) } = h1 := ⟨_, rfl⟩
  have hS : h1.get? D = some { cls := .type "set", dict := none, data := .set #[] 0 (.fresh 0 0 led) } := by subst e1 eD; exact Heap.get?_push_size _ rfl
  have sz1 : h1.objs.size = D + 1 := by subst e1 eD; exact Heap.size_push ..
  have grow : ∀ b o, s.heap.get? b = some o → h1.get? b = some o := fun b o e => by subst e1; exact Heap.get?_push_of_some _ e
  have hl1 : h1.IsList l items := by subst e1; exact hl.push _
  have llt : l < D := by obtain ⟨o, ho, _⟩ := hl; rw [← eD]; exact Heap.lt_size ho
  rw [e1, eD]
  have hT : Shared.TypeIs { s with heap := h1 } (.ref D) "set" := ⟨_, hS, rfl⟩
  refine ⟨hT, codeAny_call_builtin PySem.F.called_set.init.plain PySem.F.entry_set_init (check_set_init_1 hT ?_)⟩
  obtain ⟨ol, hol, hcl, nl, hdl⟩ := id hl1
  obtain ⟨ocls, odict, odata, oslots⟩ := ol
  simp only at hcl hdl
  subst hcl; subst hdl
  have hsls := PySem.F.sub_list_set
  have hslf := PySem.F.sub_list_frozenset
  have hne : (Value.type "list" == Value.type "dict") = false := by decide
  unfold Builtin.«set.__init__» noKeywords Builtin.Frozenset.updateFrom
  generalize hPI : pyIter = PI
  wp_walk
  subst hPI
  refine wpAny_pyIter_list hl1 ?_
  refine wpAny_bind (wpAny_runValue ?_)
  have hh3 : A.in1.in1.in1.handled = none := by simp [hh]
  refine texts_loop ((Walks.list hh3 _ l (Nat.ne_of_lt (by rw [sz1]; exact Nat.lt_succ_of_lt llt)) items).toS) (D := D) (by
      simp only [List.mem_cons, List.mem_singleton, List.not_mem_nil, or_false, not_or]
      exact ⟨Nat.ne_of_lt (by show D < h1.objs.size; rw [sz1]; exact Nat.lt_succ_self _), Nat.ne_of_gt llt⟩) len (by omega)
    (fun i v hv => SS.strs_at hi i v (by rw [Array.getElem?_toList]; exact hv)) items.size 0 _ (Nat.zero_add _) ⟨⟨_, Heap.get?_push_size _ rfl, rfl, rfl⟩, hl1.push _⟩ ?_ ?_
  · exact SetOf_congr ((setObjOf_fresh (knd := PySem.strKind prog w) led).setOf (Heap.get?_push_of_some _ hS) (by unfold scanBound; omega)) (fun _ => rfl) rfl
  · intro s' mv hS'
    obtain ⟨h', g', d', tk', os'⟩ := s'
    obtain rfl : g' = s.gens := mv.gens
    obtain rfl : d' = s.drawn := mv.drawn
    obtain rfl : os' = s.os := mv.os
    rw [← len] at hS'
    refine wpAny_pure (wpAny_pure ⟨rfl, ?_⟩)
    rw [← eD] at hS' ⊢
    refine h h' tk' hS' fun b o hb e => mv.heap b o ?_ (Heap.get?_push_of_some _ (grow b o e))
    simp only [List.mem_cons, List.mem_singleton, List.not_mem_nil, or_false, not_or]
    have hb1 : b < D := eD ▸ hb
    exact ⟨Nat.ne_of_lt hb1, Nat.ne_of_lt (by show b < h1.objs.size; rw [sz1]; exact Nat.lt_succ_of_lt hb1)⟩
end

/-- len(set(xs)), xs a list of texts -/
def tLenTexts (K : PySem.W.Frag) (ta : TE) : TE := fun σ H Q => ta σ H fun x H1 => ∃ l, ∃ xs : List Str, x = .ref l ∧ SqL K H1 l (xs.map V.str) ∧ xs.length + 1 < scanBound ∧ Q (.int (cntS xs xs.length : Nat)) H1
section
variable {X : Cx}
theorem pe_lenTexts {a : Expr} {ta : TE} {p p2 q pos : Pos} (hc : X.calm = true) (hg : Gl X "len") (hm : X.mg "len" = none) (hg2 : Gl X "set") (hm2 : X.mg "set" = none) (ha : PE X a ta)
    (na : starEach [a] X.env = (false, eval a X.env) :: starEach [] X.env := by rfl) : PE X (.Call (.Name "len" p) [.Call (.Name "set" p2) [a] [] q] [] pos) (tLenTexts X.K ta) := by
  refine ⟨fun pins s σ H Q I h => ?_⟩
  refine Call_ (ld_blt I hg hm boot_len (PyProof.Rows.callWith_builtin1 (PyProof.Rows.args_cons ?_ rfl) rfl rfl))
  refine Call_ (ld_blt I hg2 hm2 boot_set (PyProof.Rows.callWith_type1 (PyProof.Rows.args_cons (thn (ha.run pins s σ H _ I h) fun v s1 ⟨x, H1, I1, r1, q1⟩ => PyProof.Rows.args_nil ?_) na) na rfl))
  obtain ⟨l, xs, rfl, hq, room, q1⟩ := q1
  cases r1
  obtain ⟨its, r, pl, hz⟩ := I1.list hq
  refine call_set_texts (I1.ok.hd hc) pl.isList (by simpa using strsAre_of r) room fun h' tk hS hk => PyProof.Rows.args_nil ?_
  obtain ⟨o, es, ep, t, ho, hex, hd, _, _, _, hf, hn⟩ := hS
  have I2 : Inv X pins σ H1 { s1 with heap := h', toks := tk } := I1.kept fun b o e => hk b o (Heap.lt_size e) e
  have le := cntS_le (xs := xs) xs.length
  exact call_len_set ho hex hd hf (by rw [hn]; unfold scanBound at room; omega) ⟨.int (cntS xs xs.length : Nat), H1, I2.tok _, ⟨_, by rw [hn]⟩, q1⟩
end
end As

/-! ## G8 -/
namespace As
open PySem PySem.Spec PyProof.Rows L2
open PySem.W (dataLe AllAlike Sortable dataLt alike)
/-! is_ask -/
structure AskOk (cs : List CRow) (ts : List TRow) (ss : List SRow) (ks : List KRow) : Prop where
  l6 : ss.length ≤ 6
  so : ∀ s ∈ ss, SOk cs ts s
  ko : ∀ (i : Nat) k s z, ks[i]? = some k → ss[i]? = some s → ss[i + 1]? = some z → LinkOk ts k s.2.1 z.2.1
  nd : (namesOf ss ks).Nodup
section
variable {P : Program} {w : World} {K : PySem.W.Frag} {mg : Str → Option Value} {base : Heap}
def spIsAsk (C : Addr) : Sp := fun vs H Q _ => ∃ (p a : Addr) (ss : List SRow) (ks : List KRow) (cs : List CRow) (ts : List TRow), vs = [.ref p, .ref a] ∧ PlanAt H C p cs ts ∧ ColsOk H cs ∧ TabsOk H (cs.map (·.2.1)) ts ∧ AskAt H a ss ks ∧ AskOk cs ts ss ks ∧ ∀ H', Same H H' → Q (.bl true) H'
abbrev nIsAsk : List Str := ["plan", "thing", "columns", "names", "stop", "column", "lot", "ones", "at", "link"]
theorem sc_is_ask : FnScope nIsAsk ["plan", "thing"] (defScope s_is_ask) := ⟨rfl, rfl, rfl, by decide +kernel, rfl, by decide +kernel, by decide +kernel⟩
theorem ok_is_ask {f fs fl ft fi fk C : Addr} {fd ds dl dt di dk : FuncData} {t6 : Tok} (D : Df K mg "is_ask" s_is_ask ["plan", "thing"] f fd) (T : Bi mg) (en : mg "enumerate" = none) (st : mg "set" = none) (m6 : mg "MOST_STOPS" = some (.int 6 t6))
    (Ds : Df K mg "stops_of" s_stops_of ["ask"] fs ds) (Gs : FnOk P w K mg base CX0 1 fs ds ["ask"] spStops) (Dl : Df K mg "links_of" s_links_of ["ask"] fl dl) (Gl' : FnOk P w K mg base CX0 1 fl dl ["ask"] spLinks)
    (Dt : Df K mg "tables_of" s_tables_of ["ask"] ft dt) (Gt : FnOk P w K mg base CX0 2 ft dt ["ask"] spTablesOf)
    (Di : Df K mg "is_stop" s_is_stop ["plan", "thing"] fi di) (Gi : FnOk P w K mg base CX0 4 fi di ["plan", "thing"] (spIsStop C))
    (Dk : Df K mg "is_link" s_is_link ["plan", "thing", "before", "after"] fk dk) (Gk : FnOk P w K mg base CX0 3 fk dk ["plan", "thing", "before", "after"] (spIsLink C)) :
    FnOk P w K mg base CX0 5 f fd ["plan", "thing"] (spIsAsk C) := by
  refine D.F.ok sc_is_ask (fun vs H Q E h => ?_) (fun cdv A outer s H vs Q E hr h => ?_)
  · obtain ⟨p, a, ss, ks, cs, ts, rfl, _⟩ := h; rfl
  · obtain ⟨p, a, ss, ks, cs, ts, rfl, pl, okc, okt, x, ok, q⟩ := h
    have hr1 : Room 1 _ := hr.mono (by decide)
    have hr2 : Room 2 _ := hr.mono (by decide)
    have hr3 : Room 3 _ := hr.mono (by decide)
    refine ⟨_, pss_cons (ps_if (PW.pt (pw_or (pt_not (pt_val (pe_callB call_isi (by rfl) T.isinst (by decide +kernel) (pa_cons (pv 1) (pa_cons (pe_bltn (v := .ty "tuple") (by rfl) T.tuple (by decide +kernel) rfl) pa_nil)))))
          (pw_or (pt_cmpR op_eq (pe_op op_mod (pe_callB call_len_seq (by rfl) T.len PySem.boot_len (pa_cons (pv 1) pa_nil)) pe_int) pe_int (nomark _))
          (pw_or1 (pt_cmpR op_gt (pe_callB call_len_seq (by rfl) T.len PySem.boot_len (pa_cons (pv 1) pa_nil)) (pe_op op_mul pe_int (pe_glob (v := .int 6) rfl m6 ⟨_, rfl⟩)) (nomark _)))))) (pss_one (ps_ret pe_bl)) pss_nil)
      (pss_cons (ps_if (pt_not (pt_val (pe_callB (cr_all rfl) (by rfl) T.all (by decide +kernel) (pa_cons (pe_lc (own := [("stop", 4)]) (g := gName 4) (tt := tYes) rfl sc_is_ask.nd (pi_tup (pcall Ds Gs hr1 (pa_cons (pv 1) pa_nil))) (blkOk_by (N := nIsAsk) (sc := defScope s_is_ask) (by decide +kernel)) (fun _ _ _ _ _ => pg_name (i := 4) sc_is_ask.nd rfl (Or.inl rfl)) (fun _ _ _ _ _ => pts_nil)
          (fun _ _ _ _ _ => pcall Di Gi hr (pa_cons (pv 0) (pa_cons (pv 4) pa_nil)))) pa_nil)))) (pss_one (ps_ret pe_bl)) pss_nil)
      (pss_cons (ps_set (i := 2) sc_is_ask.nd rfl (Or.inr rfl) (pe_lc (own := [("column", 5), ("lot", 6), ("ones", 7)]) (g := gTup K 3 (gCons (gName 5) (gCons (gName 6) (gCons (gName 7) gNil)))) (tt := tYes) rfl sc_is_ask.nd (pi_tup (pcall Ds Gs hr1 (pa_cons (pv 1) pa_nil)))
          (blkOk_by (N := nIsAsk) (sc := defScope s_is_ask) (by decide +kernel)) (fun _ _ _ _ _ => pgT K (pg_tup rfl (pgs_cons (pg_name (i := 5) sc_is_ask.nd rfl (Or.inl rfl)) (pgs_cons (pg_name (i := 6) sc_is_ask.nd rfl (Or.inl rfl)) (pgs_cons (pg_name (i := 7) sc_is_ask.nd rfl (Or.inl rfl)) pgs_nil))))) (fun _ _ _ _ _ => pts_nil) (fun _ _ _ _ _ => pv 5)))
      (pss_cons (ps_if (pt_not (pt_val (pe_callB (cr_all rfl) (by rfl) T.all (by decide +kernel) (pa_cons (pe_lc (own := [("at", 8), ("link", 9)]) (g := gTup K 2 (gCons (gName 8) (gCons (gName 9) gNil))) (tt := tYes) rfl sc_is_ask.nd (pi_enumT (by rfl) en (pa_cons (pcall Dl Gl' hr1 (pa_cons (pv 1) pa_nil)) pa_nil))
          (blkOk_by (N := nIsAsk) (sc := defScope s_is_ask) (by decide +kernel)) (fun _ _ _ _ _ => pgT K (pg_tup rfl (pgs_cons (pg_name (i := 8) sc_is_ask.nd rfl (Or.inl rfl)) (pgs_cons (pg_name (i := 9) sc_is_ask.nd rfl (Or.inl rfl)) pgs_nil)))) (fun _ _ _ _ _ => pts_nil)
          (fun _ _ _ _ _ => pcall Dk Gk hr3 (pa_cons (pv 0) (pa_cons (pv 9) (pa_cons (pe_ix (ixL K) (pv 2) (pv 8) (fun _ _ => rfl)) (pa_cons (pe_ix (ixL K) (pv 2) (pe_op op_add (pv 8) pe_int) (fun _ _ => rfl)) pa_nil)))))) pa_nil)))) (pss_one (ps_ret pe_bl)) pss_nil)
      (pss_cons (ps_set (i := 3) sc_is_ask.nd rfl (Or.inl rfl) (pcall Dt Gt hr2 (pa_cons (pv 1) pa_nil)))
      (pss_one (ps_ret (pe_cmpR op_eq (pe_lenTexts rfl (by rfl) T.len (by rfl) st (pv 3)) (pe_callB call_len_seq (by rfl) T.len PySem.boot_len (pa_cons (pv 3) pa_nil)) (nomark _)))))))), ?_⟩
    have wl : (ss.map sv).length = (ks.map kw).length + 1 := by rw [List.length_map, List.length_map]; exact x.len
    have wn := weave_len wl
    have kl : (ks.map kw).length = ks.length := List.length_map _
    have sl : (ss.map sv).length = ss.length := List.length_map _
    have xl := x.len
    have l6 := ok.l6
    refine ⟨_, rfl, _, _, _, _, true, rfl, .ty "tuple", (Val.tup x.h).ty, kit_tup .tup, true, rfl, iteF ?_⟩
    have e1 : decide (V.int (((weave (ss.map sv) (ks.map kw)).length : Int) % 2) = V.int 0) = false := by rw [dec_int]; exact beq_eq_false_iff_ne.mpr (by omega)
    refine ⟨_, rfl, a, _, rfl, .inr (tof x.h), _, _, rfl, rfl, (show (0 : Int) < 2 by decide), rfl, false, congrArg V.bl e1, iteF ?_⟩
    have e2 : decide ((2 : Int) * 6 < ((weave (ss.map sv) (ks.map kw)).length : Int)) = false := decide_eq_false (by omega)
    refine ⟨_, rfl, a, _, rfl, .inr (tof x.h), _, _, rfl, rfl, .inl ⟨by decide, by decide⟩, _, _, rfl, rfl, false, congrArg V.bl e2, iteF ?_⟩
    -- the stops, each of them
    refine ⟨_, rfl, a, ss, ks, rfl, x, fun t nt => ?_⟩
    have s1 : Same H (upd H t (.tup (ss.map sv))) := same_new nt
    have h1 : (upd H t (.tup (ss.map sv))) t = some (.tup (ss.map sv)) := upd_same
    generalize upd H t (.tup (ss.map sv)) = H1 at s1 h1 ⊢
    refine ⟨t, rfl, ⟨_, tof h1⟩, fun D nD => ?_⟩
    refine lc_same (B := H1) walk_tup rfl (Same.refl H1) nD (fun H e => tof (e _ _ h1)) (by rw [sl]; exact Nat.lt_of_le_of_lt l6 (by decide)) (fun _ => some (.bl true)) (fun v H2 Q1 Q2 hv s2 k1 k2 => ?_) (fun H2 s2 hD2 => ?_)
    · obtain ⟨z, hz, rfl⟩ := List.mem_map.mp hv
      refine ⟨rfl, ?_⟩
      refine iteT (B := Q2 H2) ?_
      have s3 := s1.trans s2
      exact ⟨_, rfl, _, rfl, p, z, cs, ts, rfl, pl.same s3, okc.same s3, okt.same s3, (x.s z hz).imm (same_imm s3), ok.so z hz, fun H' s' => k1 _ _ rfl s'⟩
    have e3 : (ss.map sv).filterMap (fun _ => some (V.bl true)) = (ss.map fun _ => true).map V.bl := by rw [filterMap_some, List.map_map, List.map_map]; rfl
    rw [e3] at hD2
    refine ⟨D, _, rfl, lof hD2, ?_⟩
    rw [show (ss.map fun _ => true).all id = true from by simp]
    refine ⟨true, rfl, iteF ?_⟩
    have s2 := s1.trans s2
    -- columns
    refine ⟨_, rfl, a, ss, ks, rfl, x.same s2, fun t2 nt2 => ?_⟩
    have s3 : Same H2 (upd H2 t2 (.tup (ss.map sv))) := same_new nt2
    have h2 : (upd H2 t2 (.tup (ss.map sv))) t2 = some (.tup (ss.map sv)) := upd_same
    generalize upd H2 t2 (.tup (ss.map sv)) = H3 at s3 h2 ⊢
    have s3 := s2.trans s3
    refine ⟨t2, rfl, ⟨_, tof h2⟩, fun C1 nC => ?_⟩
    refine lc_fm (v := sv) (u := fun s : SRow => V.str s.2.1) (xs := ss) (fun _ => true) walk_tup nC (fun H e => tof (e _ _ h2)) (Nat.le_trans l6 (by decide)) (fun z H4 Q1 Q2 hz s4 k1 k2 => ?_) (fun H4 s4 hC => ?_)
    · have za := (x.s z hz).imm (same_imm (s3.trans s4))
      refine ⟨z.1, _, rfl, tof za.1, rfl, _, _, rfl, _, _, rfl, _, _, rfl, rfl, rfl, ?_⟩
      refine iteT (B := Q2 H4) ?_
      exact ⟨_, rfl, k1 rfl _ (Same.refl _)⟩
    rw [List.filter_eq_self.mpr (fun _ _ => rfl)] at hC
    have s4 := s3.trans s4
    -- the links, each of them
    refine ⟨_, rfl, a, ss, ks, rfl, x.same s4, fun t3 nt3 => ?_⟩
    have s5 : Same H4 (upd H4 t3 (.tup (ks.map kw))) := same_new nt3
    have h3 : (upd H4 t3 (.tup (ks.map kw))) t3 = some (.tup (ks.map kw)) := upd_same
    generalize upd H4 t3 (.tup (ks.map kw)) = H5 at s5 h3 ⊢
    have hC5 := s5 _ _ hC
    have s5 := s4.trans s5
    refine ⟨t3, _, rfl, tof h3, fun D3 nD3 => ?_⟩
    refine lc_it (walk_enumT (K := K) (a := t3) (xs := ks.map kw)) (fun i H' => Same H5 H' ∧ H' D3 = some (.lst ((List.replicate i true).map V.bl))) ⟨same_new nD3, upd_same⟩ (fun i H' _ z => tof (z.1 _ _ h3)) (fun i y Ha Hb hi ⟨sa, hDa⟩ y2 => ?_) (fun H6 ⟨s6, hD6⟩ => ?_)
    · obtain ⟨T1, ya, yb, rfl, nT, rfl, ha, hb⟩ := y2
      have ea : ya = .int (i : Nat) := (Option.some.inj ha).symm
      subst ea
      rw [kl] at hi
      have hb' : (ks.map kw)[i]? = some yb := hb
      rw [List.getElem?_map] at hb'
      obtain ⟨k, hk, rfl⟩ := Option.map_eq_some_iff.mp hb'
      have sT : Same Ha (upd Ha T1 (.tup [.int (i : Nat), kw k])) := same_new nT
      have kT : (upd Ha T1 (.tup [.int (i : Nat), kw k])) T1 = some (.tup [.int (i : Nat), kw k]) := upd_same
      generalize upd Ha T1 (.tup [.int (i : Nat), kw k]) = Hb at sT kT ⊢
      have sb := s5.trans (sa.trans sT)
      have hCb := (sa.trans sT) _ _ hC5
      have hDb := sT _ _ hDa
      obtain ⟨z1, hz1⟩ : ∃ z, ss[i]? = some z := ⟨ss[i]'(by omega), List.getElem?_eq_getElem (by omega)⟩
      obtain ⟨z2, hz2⟩ : ∃ z, ss[i + 1]? = some z := ⟨ss[i + 1]'(by omega), List.getElem?_eq_getElem (by omega)⟩
      have cl : (ss.map fun s : SRow => V.str s.2.1).length = ss.length := List.length_map _
      have g1 : (ss.map fun s : SRow => V.str s.2.1)[i]? = some (.str z1.2.1) := by rw [List.getElem?_map, hz1]; rfl
      have g2 : (ss.map fun s : SRow => V.str s.2.1)[i + 1]? = some (.str z2.2.1) := by rw [List.getElem?_map, hz2]; rfl
      refine ⟨T1, _, rfl, tof kT, rfl, _, _, rfl, _, _, rfl, rfl, rfl, ?_⟩
      refine iteT (B := Same H5 Hb ∧ Hb D3 = some (HO.lst (List.map V.bl (List.replicate (i + 1) true)))) ?_
      refine ⟨_, rfl, _, rfl, _, rfl, _, rfl, C1, _, (i : Int), .str z1.2.1, rfl, rfl, lof hCb, atI_lt (by omega) (by omega) (by rw [show ((i : Int)).toNat = i by omega]; exact g1), ?_⟩
      refine ⟨_, rfl, _, rfl, (i : Int), 1, rfl, rfl, C1, _, (i : Int) + 1, .str z2.2.1, rfl, rfl, lof hCb, atI_lt (by omega) (by omega) (by rw [show ((i : Int) + 1).toNat = i + 1 by omega]; exact g2), ?_⟩
      refine ⟨p, k, z1.2.1, z2.2.1, cs, ts, rfl, pl.same sb, okc.same sb, okt.same sb, sb _ _ (x.k k (List.mem_of_getElem? hk)), ok.ko i k z1 z2 hk hz1 hz2, (ok.so z1 (List.mem_of_getElem? hz1)).col, (ok.so z2 (List.mem_of_getElem? hz2)).col, fun H7 s7 => ?_⟩
      refine ⟨_, s7 _ _ hDb, by rw [List.length_map, List.length_replicate]; exact Nat.lt_of_lt_of_le (show i < 6 by omega) (by decide), same_mut ((sa.trans sT).trans s7) nD3, ?_⟩
      rw [upd_same, List.replicate_succ', List.map_append]; rfl
    rw [kl] at hD6
    refine ⟨D3, _, rfl, lof hD6, ?_⟩
    rw [show (List.replicate ks.length true).all id = true from by simp]
    refine ⟨true, rfl, iteF ?_⟩
    have s6 := s5.trans s6
    refine ⟨_, rfl, a, ss, ks, rfl, x.same s6, l6, fun z hz => (ok.so z hz).ones.len, fun n H7 s7 hn => ?_⟩
    have nl : (namesOf ss ks).length ≤ 605 := by
      have h := flat_len (m := 100) (l := ss) (f := fun s : SRow => s.2.2.2.2) fun z hz => (ok.so z hz).ones.len
      unfold namesOf
      rw [List.length_append, List.length_map]
      omega
    refine ⟨_, rfl, n, namesOf ss ks, rfl, lof hn, Nat.lt_of_le_of_lt (show _ ≤ 606 by omega) (by decide), ?_⟩
    refine ⟨_, rfl, n, _, rfl, .inl (lof hn), rfl, ?_⟩
    rw [List.length_map, cntS_nodup.mpr ok.nd, decide_eq_true rfl]
    exact q _ (s6.trans s7)
end
end As

/-! ## G9 -/
namespace As
open PySem PySem.Spec PyProof.Rows L2
open PySem.W (dataLe AllAlike Sortable dataLt alike)
/-! check_any_ask, check_ask of valid asks -/
section
variable {P : Program} {w : World} {K : PySem.W.Frag} {mg : Str → Option Value} {base : Heap}
def spAnyAskV (C : Addr) : Sp := fun vs H Q _ => ∃ (p a : Addr) (ss : List SRow) (ks : List KRow) (cs : List CRow) (ts : List TRow), vs = [.ref p, .ref a] ∧ PlanAt H C p cs ts ∧ ColsOk H cs ∧ TabsOk H (cs.map (·.2.1)) ts ∧ AskAt H a ss ks ∧ AskOk cs ts ss ks ∧ ∀ H', Same H H' → Q .non H'
abbrev nAnyAsk : List Str := ["plan", "thing"]
theorem sc_any_ask : FnScope nAnyAsk ["plan", "thing"] (defScope s_check_any_ask) := ⟨rfl, rfl, rfl, by decide +kernel, rfl, by decide +kernel, by decide +kernel⟩
theorem ok_any_ask {f fi C : Addr} {fd di : FuncData} (D : Df K mg "check_any_ask" s_check_any_ask ["plan", "thing"] f fd)
    (Di : Df K mg "is_ask" s_is_ask ["plan", "thing"] fi di) (Gi : FnOk P w K mg base CX0 5 fi di ["plan", "thing"] (spIsAsk C)) : FnOk P w K mg base CX0 6 f fd ["plan", "thing"] (spAnyAskV C) := by
  refine D.F.ok sc_any_ask (fun vs H Q E h => ?_) (fun cdv A outer s H vs Q E hr h => ?_)
  · obtain ⟨p, a, ss, ks, cs, ts, rfl, _⟩ := h; rfl
  · obtain ⟨p, a, ss, ks, cs, ts, rfl, pl, okc, okt, x, ok, q⟩ := h
    refine ⟨_, pss_one (ps_if (pt_not (pt_val (pcall Di Gi hr (pa_cons (pv 0) (pa_cons (pv 1) pa_nil))))) (pss_one ps_dead) pss_nil), ?_⟩
    refine ⟨_, rfl, _, rfl, p, a, ss, ks, cs, ts, rfl, pl, okc, okt, x, ok, fun H1 s1 => ⟨true, rfl, iteF ?_⟩⟩
    exact q _ s1
/-- how many rows: the product of the lots' sizes -/
def rowsOf (cs : List CRow) (ss : List SRow) : Int := prodI (ss.map (lotOf cs))
def spCheckAskV (C : Addr) : Sp := fun vs H Q _ => ∃ (p a : Addr) (ss : List SRow) (ks : List KRow) (cs : List CRow) (ts : List TRow), vs = [.ref p, .ref a] ∧ PlanAt H C p cs ts ∧ ColsOk H cs ∧ TabsOk H (cs.map (·.2.1)) ts ∧ AskAt H a ss ks ∧ AskOk cs ts ss ks ∧ rowsOf cs ss ≤ 5000 ∧ ∀ H', Same H H' → Q .non H'
theorem sc_check_ask : FnScope nAnyAsk ["plan", "thing"] (defScope s_check_ask) := ⟨rfl, rfl, rfl, by decide +kernel, rfl, by decide +kernel, by decide +kernel⟩
theorem ok_check_ask {f fa fp fl C : Addr} {fd da dp dl : FuncData} {t5 : Tok} (D : Df K mg "check_ask" s_check_ask ["plan", "thing"] f fd) (m5 : mg "MOST_ROWS" = some (.int 5000 t5))
    (Da : Df K mg "check_any_ask" s_check_any_ask ["plan", "thing"] fa da) (Ga : FnOk P w K mg base CX0 6 fa da ["plan", "thing"] (spAnyAskV C))
    (Dp : Df K mg "product_of_sizes" s_product_of_sizes ["lots"] fp dp) (Gp : FnOk P w K mg base CX0 1 fp dp ["lots"] spProd)
    (Dl : Df K mg "lots_of" s_lots_of ["plan", "ask"] fl dl) (Gl' : FnOk P w K mg base CX0 2 fl dl ["plan", "ask"] (spLotsOf C)) : FnOk P w K mg base CX0 7 f fd ["plan", "thing"] (spCheckAskV C) := by
  refine D.F.ok sc_check_ask (fun vs H Q E h => ?_) (fun cdv A outer s H vs Q E hr h => ?_)
  · obtain ⟨p, a, ss, ks, cs, ts, rfl, _⟩ := h; rfl
  · obtain ⟨p, a, ss, ks, cs, ts, rfl, pl, okc, okt, x, ok, few, q⟩ := h
    have hr1 : Room 1 _ := hr.mono (by decide)
    have hr2 : Room 2 _ := hr.mono (by decide)
    refine ⟨_, pss_cons (ps_expr (pcall Da Ga hr (pa_cons (pv 0) (pa_cons (pv 1) pa_nil))))
      (pss_one (ps_if (pt_cmpR op_gt (pcall Dp Gp hr1 (pa_cons (pcall Dl Gl' hr2 (pa_cons (pv 0) (pa_cons (pv 1) pa_nil))) pa_nil)) (pe_glob (v := .int 5000) rfl m5 ⟨_, rfl⟩) (nomark _)) (pss_one ps_dead) pss_nil)), ?_⟩
    refine ⟨_, rfl, _, rfl, p, a, ss, ks, cs, ts, rfl, pl, okc, okt, x, ok, fun H1 s1 => ?_⟩
    refine ⟨_, rfl, _, rfl, p, a, ss, ks, cs, ts, rfl, pl.same s1, okc.same s1, x.same s1, ok.l6, ok.so, fun t ls H2 s2 nt h2 la key => ?_⟩
    have e : prodI (ls.map (·.2)) = rowsOf cs ss := by rw [key]; rfl
    have ll : ∀ l ∈ ls, l.2.length ≤ 1000 := fun l hl => by
      have hm : l.2 ∈ ss.map (lotOf cs) := by rw [← key]; exact List.mem_map_of_mem hl
      obtain ⟨z, hz, ez⟩ := List.mem_map.mp hm
      have := (lotOf_len okc (ok.so z hz)).2
      rw [← ez]; omega
    refine ⟨t, ls, rfl, h2, fun l hl => ⟨la l hl, ll l hl⟩, ?_⟩
    rw [e]
    refine ⟨_, _, rfl, rfl, false, congrArg V.bl (decide_eq_false (by omega)), iteF ?_⟩
    exact q _ (s1.trans s2)
end
end As

/-! ## A26 -/
namespace As
open PySem PySem.Spec PyProof.Rows L2 RZ
/-! zip(t, l), t a tuple and l a list -/
abbrev zw1 (h : Heap) (t : Addr) : Heap := h.push { cls := .type "tuple_iterator", data := .fields #[.ref t, .int 0 0] }
abbrev zw2 (h : Heap) (t l : Addr) : Heap := (zw1 h t).push { cls := .type "list_iterator", data := .fields #[.ref l, .int 0 0] }
abbrev zw3 (h : Heap) (t l : Addr) : Heap := (zw2 h t l).push { cls := .type "tuple", data := .seq #[.ref h.objs.size, .ref (zw1 h t).objs.size] }
abbrev zw4 (h : Heap) (t l : Addr) : Heap := (zw3 h t l).push { cls := .type "tuple", data := .seq #[.none, .none] }
abbrev zw5 (h : Heap) (t l : Addr) : Heap := (zw4 h t l).push { cls := .type "zip", data := .fields #[.none, .bool false, .bool false, .ref (zw2 h t l).objs.size, .ref (zw3 h t l).objs.size] }
theorem zip_made {t l : Addr} {xs ys : Array Value} :
    Meets (Builtin.«zip.__new__» ⟨[.type "zip", .ref t, .ref l], []⟩) (fun _ R s => s.heap.IsTuple t xs ∧ s.heap.IsList l ys ∧ R (.ok (.ret (.ref (zw4 s.heap t l).objs.size))) { s with heap := zw5 s.heap t l }) := by
  refine .of_wp fun prog w A R s h => ?_
  obtain ⟨hp, g, d, tk, os⟩ := s
  obtain ⟨ht, hl, fin⟩ := h
  have sub := sub_zip
  have t1 : Heap.IsTuple (Shared.heap ⟨hp, g, d, tk, os⟩) t xs := ht
  have l1 : Heap.IsList (Shared.heap ⟨zw1 hp t, g, d, tk, os⟩) l ys := Heap.IsList.push hl _
  wp_walk using wpAny_pyIter_tuple t1, wpAny_pyIter_list l1
  exact ⟨_, rfl, fin⟩
section
variable {prog : Program} {w : World} {A : Around} {E : Value → Shared → Prop} {s : Shared}
theorem zip_of {t l : Addr} {xs ys : Array Value} {Q : Value → Shared → Prop} (ht : s.heap.IsTuple t xs) (hl : s.heap.IsList l ys)
    (q : ∀ (n : Addr) h', s.heap.objs.size = n → IsZip h' (n + 4) (n + 2) (n + 3) .none → IsTupOf2 h' (n + 2) (.ref n) (.ref (n + 1)) → IsTupOf2 h' (n + 3) .none .none → h'.IsTupleIter n t 0 → h'.IsListIter (n + 1) l 0 →
      (∀ c o, s.heap.get? c = some o → h'.get? c = some o) → Q (.ref (n + 4)) { s with heap := h' }) : wpAny (model prog w) A (call (.type "zip") [.ref t, .ref l]) Q E s := by
  refine callType_new F.called_zip (by decide) (F.typeCall_zip_2 _ _) (F.newCall_zip_2 _ _) (fun x => F.args_object_init_3 x _ _) F.entry_zip_new zip_made ⟨ht, hl, ?_⟩
  obtain ⟨n, en⟩ : ∃ n, s.heap.objs.size = n := ⟨_, rfl⟩
  have n1 : (zw1 s.heap t).objs.size = n + 1 := by rw [Heap.size_push, en]
  have n2 : (zw2 s.heap t l).objs.size = n + 2 := by rw [Heap.size_push, n1]
  have n3 : (zw3 s.heap t l).objs.size = n + 3 := by rw [Heap.size_push, n2]
  have n4 : (zw4 s.heap t l).objs.size = n + 4 := by rw [Heap.size_push, n3]
  have up1 : ∀ c o, s.heap.get? c = some o → (zw1 s.heap t).get? c = some o := fun c o e => Heap.get?_push_of_some _ e
  have up2 : ∀ c o, (zw1 s.heap t).get? c = some o → (zw2 s.heap t l).get? c = some o := fun c o e => Heap.get?_push_of_some _ e
  have up3 : ∀ c o, (zw2 s.heap t l).get? c = some o → (zw3 s.heap t l).get? c = some o := fun c o e => Heap.get?_push_of_some _ e
  have up4 : ∀ c o, (zw3 s.heap t l).get? c = some o → (zw4 s.heap t l).get? c = some o := fun c o e => Heap.get?_push_of_some _ e
  have up5 : ∀ c o, (zw4 s.heap t l).get? c = some o → (zw5 s.heap t l).get? c = some o := fun c o e => Heap.get?_push_of_some _ e
  have g5 : (zw5 s.heap t l).get? (zw4 s.heap t l).objs.size = some _ := Heap.get?_push_size _ rfl
  have g4 : (zw4 s.heap t l).get? (zw3 s.heap t l).objs.size = some _ := Heap.get?_push_size _ rfl
  have g3 : (zw3 s.heap t l).get? (zw2 s.heap t l).objs.size = some _ := Heap.get?_push_size _ rfl
  have g2 : (zw2 s.heap t l).get? (zw1 s.heap t).objs.size = some _ := Heap.get?_push_size _ rfl
  have g1 : (zw1 s.heap t).get? s.heap.objs.size = some _ := Heap.get?_push_size _ rfl
  show _ ∧ _
  rw [n2, n3, n4] at g5
  rw [n3] at g4
  rw [n1, n2, en] at g3
  rw [n1] at g2
  rw [en] at g1
  rw [n4]
  exact ⟨⟨_, g5, rfl⟩, q n _ en g5 (up5 _ _ (up4 _ _ g3)) (up5 _ _ g4) ⟨_, up5 _ _ (up4 _ _ (up3 _ _ (up2 _ _ g1))), rfl, rfl⟩ ⟨_, up5 _ _ (up4 _ _ (up3 _ _ g2)), rfl, rfl⟩ fun c o e => up5 _ _ (up4 _ _ (up3 _ _ (up2 _ _ (up1 _ _ e))))⟩
end
/-- the walk: at each turn a new pair of the two items -/
def ItM (K : PySem.W.Frag) (a b : Addr) : It where
  go i H := ∃ (xs ys : List V) (x y : V), SqT K H a xs ∧ SqL K H b ys ∧ xs[i]? = some x ∧ ys[i]? = some y
  yld i H v H' := ∃ T x y, v = .ref T ∧ H T = none ∧ H' = upd H T (.tup [x, y]) ∧ (∀ xs, SqT K H a xs → xs[i]? = some x) ∧ ∀ ys, SqL K H b ys → ys[i]? = some y
  stop i H := ∃ xs ys : List V, SqT K H a xs ∧ SqL K H b ys ∧ i ≤ xs.length ∧ i ≤ ys.length ∧ (i = xs.length ∨ i = ys.length)
theorem mem5 {c z TI TO i1 i2 : Addr} (h : c ∈ [z, TI, TO, i1, i2]) : c = z ∨ c = TI ∨ c = TO ∨ c = i1 ∨ c = i2 := by simpa using h
theorem sep_of {z TI TO i1 i2 a b : Addr} (D : ZipApart z TI TO i1 i2 a b) : ZipSep2 z TI TO i1 i2 [i1, a] [i2, b] where
  TIz := D.TIz
  TOz := D.TOz
  TITO := D.TITO
  TIi1 := D.TIi1
  mem1 := by simp
  zf1 := by simp [D.i1z.symm, D.l1z.symm]
  Tf1 := by simp [D.TOi1, D.l1TO.symm]
  TIi2 := D.TIi2
  mem2 := by simp
  zf2 := by simp [D.i2z.symm, D.l2z.symm]
  Tf2 := by simp [D.TOi2, D.l2TO.symm]
  sep1_2 := by simp [D.i12, D.l2i1.symm]
  sep2_1 := by simp [D.i12.symm, D.l1i2.symm]
theorem turn_zipM {P : Program} {w : World} {K : PySem.W.Frag} {elts : List Expr} {kk : Nat} {tpos : Pos} {a b z TI TO i1 i2 : Addr} (D : ZipApart z TI TO i1 i2 a b) :
    Turn P w K (.Tuple elts kk tpos) (ItM K a b) [z, TI, TO, i1, i2] z (fun i h => IsZip h z TI TO .none ∧ IsTupOf2 h TI (.ref i1) (.ref i2) ∧ (∃ x y, IsTupOf2 h TO x y) ∧ h.IsTupleIter i1 a i ∧ h.IsListIter i2 b i) where
  mem := List.mem_cons_self
  obj i h st c hc := by
    obtain ⟨hz, hTI, ⟨x, y, hTO⟩, ⟨o1, e1, _, d1⟩, ⟨o2, e2, _, d2⟩⟩ := st
    rcases mem5 hc with rfl | rfl | rfl | rfl | rfl
    · exact ⟨_, hz, fun v q => nomatch q⟩
    · exact ⟨_, hTI, fun v q => nomatch q⟩
    · exact ⟨_, hTO, fun v q => nomatch q⟩
    · exact ⟨o1, e1, fun v q => nomatch (d1.symm.trans q)⟩
    · exact ⟨o2, e2, fun v q => nomatch (d2.symm.trans q)⟩
  keep i h h' st k := by
    obtain ⟨hz, hTI, ⟨x, y, hTO⟩, h1, h2⟩ := st
    exact ⟨k z (by simp) _ hz, k TI (by simp) _ hTI, ⟨x, y, k TO (by simp) _ hTO⟩, h1.at fun o q => k i1 (by simp) o q, h2.at fun o q => k i2 (by simp) o q⟩
  self A i s Q E st q := wpAny_pyIter_zip st.1 q
  item := by
    rintro X rfl rfl rfl hc i pins s σ H E I hf ⟨hz, hTI, ⟨x0, y0, hTO⟩, h1, h2⟩ ⟨xs, ys, x, y, hqx, hqy, hx, hy⟩
    obtain ⟨its, rv, p, _⟩ := I.tuple hqx
    obtain ⟨its2, rv2, p2, _⟩ := I.list hqy
    obtain ⟨u, hu, ru⟩ := rv.get hx
    obtain ⟨u2, hu2, ru2⟩ := rv2.get hy
    have lt1 : i < its.toArray.size := by rw [List.size_toArray]; exact (List.getElem?_eq_some_iff.mp hu).1
    have lt2 : i < its2.toArray.size := by rw [List.size_toArray]; exact (List.getElem?_eq_some_iff.mp hu2).1
    have here : ∀ c ∈ [z, TI, TO, i1, i2], c < s.heap.objs.size := fun c hm => by
      rcases mem5 hm with rfl | rfl | rfl | rfl | rfl
      · exact Heap.lt_size hz
      · exact Heap.lt_size hTI
      · exact Heap.lt_size hTO
      · exact h1.elim fun _ q => Heap.lt_size q.1
      · exact h2.elim fun _ q => Heap.lt_size q.1
    refine wpAny_pyNext_zipD2_item (sep_of D) (PySem.Draws.tuple (A := X.A.in1) (I.ok.hd hc) i1 a D.l1i1 its.toArray) (PySem.Draws.list (A := X.A.in1) (I.ok.hd hc) i2 b D.l2i2 its2.toArray) hz hTI hTO ⟨h1, p⟩ ⟨h2, p2.isList⟩ lt1 lt2
      fun x1 x2 h' tk d1 d2 z1 TO1 st1 st2 hT _ kept => ?_
    obtain rfl : x1 = u := by
      have q : its.toArray[i]? = some x1 := d1
      rw [List.getElem?_toArray, hu] at q
      exact (Option.some.inj q).symm
    obtain rfl : x2 = u2 := by
      have q : its2.toArray[i]? = some x2 := d2
      rw [List.getElem?_toArray, hu2] at q
      exact (Option.some.inj q).symm
    refine ⟨_, rfl, wpAny_letOwnedTupleGo_zip (s := { s with heap := h', toks := tk }) z1 fun h2' z2 but => ?_⟩
    have pair := (but.2 s.heap.objs.size (Nat.ne_of_gt (here z (by simp)))).trans hT
    have ok : ObjOk X.prog X.w (upd H s.heap.objs.size (.tup [x, y])) h2' s.heap.objs.size (.tup [x, y]) := ⟨by show 2 ≤ sizeLine; decide, [x1, x2], .cons ru (.cons ru2 .nil), _, pair, rfl, _, rfl⟩
    have still : ∀ c o, c ∉ [z, TI, TO, i1, i2] → s.heap.get? c = some o → h2'.get? c = some o := fun c o nc e => by
      have m1 : c ≠ z := fun q => nc (by simp [q])
      exact (but.2 c m1).trans (kept c o m1 (fun q => nc (by simp [q])) (fun q => nc (by simp [q])) (fun q => nc (by simp [q])) e)
    refine ⟨.ref s.heap.objs.size, _, I.turnedNew (t' := tk) still hf (Nat.le_refl _) ok, rfl, ⟨_, x, y, rfl, I.hok.fresh (Nat.le_refl _), rfl, fun l hl => (I.tuple_inj hl hqx) ▸ hx, fun l hl => (I.list_inj hl hqy) ▸ hy⟩, ⟨z2, ?_, ⟨x1, x2, ?_⟩, ?_, ?_⟩, fun c hm => ?_⟩
    · exact (but.2 _ D.TIz).trans (kept _ _ D.TIz D.TITO D.TIi1 D.TIi2 hTI)
    · exact (but.2 _ D.TOz).trans TO1
    · exact st1.1.at fun o q => (but.2 _ D.i1z).trans q
    · exact st2.1.at fun o q => (but.2 _ D.i2z).trans q
    · rw [upd_ne (Nat.ne_of_lt (here c hm))]
      exact (hf c hm).1
  done := by
    rintro X rfl rfl rfl hc i pins s σ H E I hf ⟨hz, hTI, ⟨x0, y0, hTO⟩, h1, h2⟩ ⟨xs, ys, hqx, hqy, le1, le2, all⟩
    obtain ⟨its, rv, p, _⟩ := I.tuple hqx
    obtain ⟨its2, rv2, p2, _⟩ := I.list hqy
    have e1 : its.toArray.size = xs.length := by rw [List.size_toArray, rv.length]
    have e2 : its2.toArray.size = ys.length := by rw [List.size_toArray, rv2.length]
    refine wpAny_pyNext_zipD2_end (sep_of D) (PySem.Draws.tuple (A := X.A.in1) (I.ok.hd hc) i1 a D.l1i1 its.toArray) (PySem.Draws.list (A := X.A.in1) (I.ok.hd hc) i2 b D.l2i2 its2.toArray) hz hTI hTO ⟨h1, p⟩ ⟨h2, p2.isList⟩ (by rw [e1]; exact le1) (by rw [e2]; exact le2) (by rw [e1, e2]; exact all)
      fun h' tk kept => ⟨rfl, I.turnedL (t' := tk) (ch := [z, TI, TO, i1, i2]) (fun c o nc e => kept c o (fun q => nc (by simp [q])) (fun q => nc (by simp [q])) (fun q => nc (by simp [q])) (fun q => nc (by simp [q])) e) hf⟩
def iZipM (K : PySem.W.Frag) (ta : TA) : TI := fun σ H R => ta σ H fun vs H1 => ∃ a b xs ys, vs = [.ref a, .ref b] ∧ SqT K H1 a xs ∧ SqL K H1 b ys ∧ R (ItM K a b) H1
theorem pi_zipM {X : Cx} {e e2 : Expr} {ta : TA} {p pos tpos : Pos} {elts : List Expr} {kk : Nat} (hg : Gl X "zip") (hm : X.mg "zip" = none) (ha : PA X [e, e2] ta)
    (hs : starEach [e, e2] X.env = (false, eval e X.env) :: starEach [e2] X.env := by rfl) (hpl : (backTo pos (starEach [e2] X.env)).any (·.1) = false := by rfl) :
    PI X (.Tuple elts kk tpos) (.Call (.Name "zip" p) [e, e2] [] pos) (iZipM X.K ta) := by
  refine ⟨fun pins s σ H R I h => Call_ (ld_blt I hg hm PyProof.Rows.boot_zip (PyProof.Rows.callWith_type1 (thn (ha.run pos pins s σ H _ I h) ?_) hs hpl))⟩
  rintro us s1 ⟨vs, H1, I1, r1, a, b, xs, ys, rfl, hqx, hqy, q⟩
  cases r1 with
  | cons r rr =>
    cases rr with
    | cons r' rr =>
      cases rr
      cases r
      cases r'
      obtain ⟨its, rv, p1, _⟩ := I1.tuple hqx
      obtain ⟨its2, rv2, p2, _⟩ := I1.list hqy
      refine zip_of p1 p2.isList fun n h' en hz hTI hTO h1 h2 hk => wpAny_pyIter_zip hz ?_
      refine ⟨n + 4, [n + 4, n + 2, n + 3, n, n + 1], _, _, H1, rfl, I1.kept (t' := s1.toks) hk, turn_zipM (PySem.W.ktu_apart n a b (p1.elim fun _ q => en ▸ Heap.lt_size q.1) (en ▸ p2.lt)), ⟨hz, hTI, ⟨_, _, hTO⟩, h1, h2⟩, fun c hm => ?_, q⟩
      have le : s1.heap.objs.size ≤ c := by
        rw [en]
        rcases mem5 hm with rfl | rfl | rfl | rfl | rfl
        · exact Nat.le_add_right _ _
        · exact Nat.le_add_right _ _
        · exact Nat.le_add_right _ _
        · exact Nat.le_refl _
        · exact Nat.le_add_right _ _
      exact I1.fpOk le (I1.hok.fresh le)
theorem walk_zipM {K : PySem.W.Frag} {a b : Addr} {xs ys : List V} {n : Nat} (hn : n = min xs.length ys.length) : Walk (ItM K a b) n (fun H => SqT K H a xs ∧ SqL K H b ys) (YPair (fun i => xs[i]?) (fun i => ys[i]?)) := by
  subst hn
  constructor
  · rintro i H lt ⟨ha, hb⟩
    exact ⟨xs, ys, _, _, ha, hb, List.getElem?_eq_getElem (Nat.lt_of_lt_of_le lt (Nat.min_le_left _ _)), List.getElem?_eq_getElem (Nat.lt_of_lt_of_le lt (Nat.min_le_right _ _))⟩
  · rintro H ⟨ha, hb⟩
    exact ⟨xs, ys, ha, hb, Nat.min_le_left _ _, Nat.min_le_right _ _, by rcases Nat.le_total xs.length ys.length with h | h <;> omega⟩
  · rintro i H v H' _ ⟨ha, hb⟩ ⟨T, u, z, ev, nT, eH, fu, fz⟩
    exact ⟨T, u, z, ev, nT, eH, fu _ ha, fz _ hb⟩
end As

/-! ## G10 -/
namespace As
open PySem PySem.Spec PyProof.Rows L2
open PySem.W (dataLe AllAlike Sortable dataLt alike)
/-! is_row of any value, facts_of of any row -/
def inI (x : V) (ns : List Int) : Bool := match x with | .int n => ns.any (· == n) | _ => false
theorem inV_int {n : Int} {ns : List Int} : inV (.int n) (ns.map V.int) = inI (.int n) ns := by
  unfold inV inI
  rw [List.any_map]; rfl
theorem flat_ints (ns : List Int) : (ns.map V.int).all flatV = true := by
  rw [List.all_map]
  exact List.all_eq_true.mpr fun _ _ => rfl
def isRowV (H : Hp) (ns : List (List Int)) (x : V) : Bool := match tupV H x with
  | some vs => decide (vs.length = ns.length) && (vs.zip ns).all fun p => inI p.1 p.2
  | none => false
def Deep1 (H : Hp) (x : V) : Prop := (∃ k, Val H x k) ∧ ∀ xs, tupV H x = some xs → ∀ y ∈ xs, ∃ k, Val H y k
section
variable {P : Program} {w : World} {K : PySem.W.Frag} {mg : Str → Option Value} {base : Heap}
def spIsRow : Sp := fun vs H Q _ => ∃ (t : Addr) (x : V) (ls : List LList), vs = [.ref t, x] ∧ H t = some (.lst (ls.map lw)) ∧ (∀ l ∈ ls, LlAt H l) ∧ ls.length ≤ 6 ∧ Deep1 H x ∧ ∀ H', Same H H' → Q (.bl (isRowV H (ls.map (·.2)) x)) H'
abbrev nIsRow : List Str := ["lots", "thing", "value", "lot"]
end
end As

/-! ## G11 -/
namespace As
open PySem PySem.Spec PyProof.Rows L2
open PySem.W (dataLe AllAlike Sortable dataLt alike)
/-! facts_of -/
theorem Val.tupSame {H H' : Hp} {x : V} {k : Kind} (h : Val H x k) (e : Same H H') : As.tupV H' x = As.tupV H x := by
  rcases h.tupV with ⟨n, z⟩ | ⟨n, a, xs, rfl, ha, z⟩
  · rcases (h.same e).tupV with ⟨_, z'⟩ | ⟨n', _⟩
    · rw [z, z']
    · exact absurd n' n
  · rw [z]; exact tupV_at (e _ _ ha)
theorem Deep1.same {H H' : Hp} {x : V} (h : Deep1 H x) (e : Same H H') : Deep1 H' x := by
  obtain ⟨⟨k, hk⟩, d⟩ := h
  exact ⟨⟨k, hk.same e⟩, fun xs hx y hy => (d xs (hk.tupSame e ▸ hx) y hy).imp fun _ z => z.same e⟩
theorem isRowV_same {H H' : Hp} {x : V} {ns : List (List Int)} (h : Deep1 H x) (e : Same H H') : isRowV H' ns x = isRowV H ns x := by
  obtain ⟨⟨k, hk⟩, _⟩ := h
  unfold isRowV
  rw [hk.tupSame e]
theorem zip_inI : ∀ {rs : List Int} {ns : List (List Int)}, rs.length = ns.length → (∀ (i : Nat) v l, rs[i]? = some v → ns[i]? = some l → v ∈ l) → ((rs.map V.int).zip ns).all (fun p => inI p.1 p.2) = true
  | [], _, _, _ => rfl
  | v :: rs, [], h, _ => by simp at h
  | v :: rs, l :: ns, h, m => by
    rw [List.map_cons, List.zip_cons_cons, List.all_cons, zip_inI (by simpa using h) fun i u z hu hz => m (i + 1) u z (by simpa using hu) (by simpa using hz), Bool.and_true]
    show l.any (· == v) = true
    rw [List.any_eq_true]
    exact ⟨v, m 0 v l rfl rfl, beq_self_eq_true v⟩
theorem isRowV_yes {H : Hp} {r : Addr} {rs : List Int} {ns : List (List Int)} (hr : H r = some (.tup (rs.map V.int))) (hl : rs.length = ns.length) (m : ∀ (i : Nat) v l, rs[i]? = some v → ns[i]? = some l → v ∈ l) : isRowV H ns (.ref r) = true := by
  unfold isRowV
  rw [show As.tupV H (.ref r) = _ from tupV_at hr]
  dsimp only
  rw [List.length_map, decide_eq_true hl, zip_inI hl m]; rfl
section
variable {P : Program} {w : World} {K : PySem.W.Frag} {mg : Str → Option Value} {base : Heap}
def spFactsOf (C : Addr) : Sp := fun vs H Q _ => ∃ (p a : Addr) (x : V) (ss : List SRow) (ks : List KRow) (cs : List CRow) (ts : List TRow), vs = [.ref p, .ref a, x] ∧ PlanAt H C p cs ts ∧ ColsOk H cs ∧ TabsOk H (cs.map (·.2.1)) ts ∧ AskAt H a ss ks ∧ AskOk cs ts ss ks ∧ rowsOf cs ss ≤ 5000 ∧ Deep1 H x ∧
  ((isRowV H (ss.map (lotOf cs)) x = false ∧ ∀ H', Same H H' → Q .non H') ∨
    ∃ (r : Addr) (rs : List Int), x = .ref r ∧ H r = some (.tup (rs.map V.int)) ∧ rs.length = ss.length ∧ isRowV H (ss.map (lotOf cs)) x = true ∧
      ∀ t (fs : List FRow) H', Same H H' → H' t = some (.tup (fs.map fv)) → (∀ f ∈ fs, FAt H' f) → fs.map (·.2.2) = rowK ss ks rs rs.length → Q (.ref t) H')
abbrev nFactsOf : List Str := ["plan", "ask", "row"]
end
end As

/-! ## G12 -/
namespace As
open PySem PySem.Spec PyProof.Rows L2
section
variable {P : Program} {w : World} {K : PySem.W.Frag} {mg : Str → Option Value} {base : Heap}
def spState (K : PySem.W.Frag) : Sp := fun vs H Q _ => ∃ (s : Addr) (ns : List Int), vs = [.ref s] ∧ SqL K H s (ns.map V.int) ∧ ns.length ≤ 63 ∧ ∀ a c H', Gd a c H H' → Q (.ref a) H'
abbrev nState : List Str := ["script", "cell"]
theorem sc_state : FnScope nState ["script"] (defScope s_state) := ⟨rfl, rfl, rfl, by decide +kernel, rfl, by decide +kernel, by decide +kernel⟩
theorem ok_state {f : Addr} {fd : FuncData} (D : Df K mg "_law_state" s_state ["script"] f fd) (T : Bi mg) : FnOk P w K mg base CX0 1 f fd ["script"] (spState K) := by
  refine D.F.ok sc_state (fun vs H Q E h => ?_) (fun cdv A outer s H vs Q E hr h => ?_)
  · obtain ⟨s, ns, rfl, _⟩ := h; rfl
  · obtain ⟨sa, ns, rfl, hs, hl, q⟩ := h
    refine ⟨_, pss_one (ps_ret (pe_lst (pa_cons (pe_orT (pe_lc (own := [("cell", 1)]) (g := gName 1) (tt := tYes) rfl sc_state.nd (pi_list (pe_slice sl_list (pv 0) po_none (po_some pe_int))) (blkOk_by (N := nState) (sc := defScope s_state) (by decide +kernel)) (fun _ _ _ _ _ => pg_name (i := 1) sc_state.nd rfl (Or.inl rfl)) (fun _ _ _ _ _ => pts_nil)
        (fun _ _ _ _ _ => pe_callB call_abs (by rfl) T.abs boot_abs (pa_cons (pv 1) pa_nil))) (pe_one (pe_lst (pa_cons pe_int pa_nil)))) (pa_cons pe_int (pa_cons pe_int pa_nil))))), ?_⟩
    have fin : ∀ (c : Addr) (ms : List Int) (H1 : Hp), Same H H1 → H c = none → H1 c = some (.lst (ms.map V.int)) → 0 < ms.length → ms.length ≤ 63 → ∀ a, H1 a = none → Q (.ref a) (upd H1 a (.lst [.ref c, .int 0, .int 1])) := by
      intro c ms H1 s1 nc hc h0 h1 a na
      have nac : a ≠ c := (ne_of_none hc na).symm
      refine q a c _ ⟨same_new' s1 na, s1.free na, nc, 0, 1, ms, nac, upd_same, by rw [upd_ne nac.symm]; exact hc, h0, h1, by decide, by decide⟩
    refine ⟨_, rfl, 63, rfl, sa, _, rfl, hs, fun p np => ⟨p, rfl, ⟨_, lof upd_same⟩, fun D hD => ?_⟩⟩
    have cut : cutV (ns.map V.int) none (some 63) = ns.map V.int := by
      unfold cutV
      rw [HT.sIx_none, show (63 : Int) = ((63 : Nat) : Int) from rfl, HT.sIx_nat, List.length_map]
      rw [List.drop_zero, Nat.min_eq_right hl, Nat.sub_zero, List.take_of_length_le (by rw [List.length_map]; exact Nat.le_refl _)]
    have s1 : Same H (upd H p (.lst (cutV (ns.map V.int) none (some 63)))) := same_new np
    rw [cut] at s1
    have hp : (upd H p (.lst (cutV (ns.map V.int) none (some 63)))) p = some (.lst (ns.map V.int)) := by rw [upd_same, cut]
    have nD := hD
    rw [cut] at hD ⊢
    rw [cut] at hp
    generalize upd H p (.lst (ns.map V.int)) = H1 at s1 hp hD ⊢
    refine lc_same (B := H1) walk_list rfl (Same.refl H1) hD (fun H e => lof (e _ _ hp)) (by rw [List.length_map]; exact Nat.lt_of_le_of_lt hl (by decide)) (fun x => match x with | .int i => some (.int (if i < 0 then -i else i)) | _ => none) (fun x H2 Q1 Q2 hx s2 k1 k2 => ?_) (fun H2 s2 hD2 => ?_)
    · obtain ⟨n, hn, rfl⟩ := List.mem_map.mp hx
      refine ⟨rfl, ?_⟩
      refine iteT (B := Q2 H2) ?_
      exact ⟨_, rfl, n, rfl, k1 _ _ rfl (Same.refl _)⟩
    · have e2 : H2 D = some (.lst ((ns.map fun i => if i < 0 then -i else i).map V.int)) := by
        rw [hD2]; congr 2
        rw [List.filterMap_map, List.map_map, ← filterMap_some]; rfl
      have nDH : H D = none := s1.free hD
      have s4 := s1.trans s2
      refine ⟨_, .inl ⟨_, lof e2, rfl⟩, ?_⟩
      refine ite2 (fun h => ?_) (fun h => ?_)
      · refine ⟨by show 3 ≤ sizeLine; decide, fun a na => ?_⟩
        refine fin D _ _ s4 nDH e2 ?_ (by rw [List.length_map]; exact hl) a na
        rw [Bool.not_eq_true', List.isEmpty_eq_false_iff] at h
        have hne : ¬ (ns.map fun i => if i < 0 then -i else i) = [] := fun e => h (by rw [e]; rfl)
        exact List.length_pos_iff.mpr hne
      · refine ⟨by decide, fun c nc => ⟨by show 3 ≤ sizeLine; decide, fun a na => ?_⟩⟩
        exact fin c [7] _ (same_new' s4 nc) (s4.free nc) upd_same (by decide) (by decide) a na
/-- a draw below n -/
def spDraw : Sp := fun vs H Q _ => ∃ (a c : Addr) (n : Int), vs = [.ref a, .int n] ∧ StAt H a c ∧ 0 < n ∧ n < 1073741824 ∧ ∀ r H', 0 ≤ r → r < n → StAt H' a c → Fr a c H H' → Q (.int r) H'
abbrev nDraw : List Str := ["state", "many", "cells", "at", "cell"]
theorem sc_draw : FnScope nDraw ["state", "many"] (defScope s_draw) := ⟨rfl, rfl, rfl, by decide +kernel, rfl, by decide +kernel, by decide +kernel⟩
theorem ok_draw {f : Addr} {fd : FuncData} (D : Df K mg "_law_draw" s_draw ["state", "many"] f fd) (T : Bi mg) : FnOk P w K mg base CX0 1 f fd ["state", "many"] spDraw := by
  refine D.F.ok sc_draw (fun vs H Q E h => ?_) (fun cdv A outer s H vs Q E hr h => ?_)
  · obtain ⟨a, c, n, rfl, _⟩ := h; rfl
  · obtain ⟨a, c, n, rfl, ⟨i, h, cs, nac, ha, hc, c0, c63, h0, hm⟩, n0, n30, q⟩ := h
    refine ⟨_, pss_cons (ps_set (i := 2) sc_draw.nd rfl (Or.inl rfl) (pe_ix ix_list (pv 0) pe_int (fun _ _ => rfl)))
      (pss_cons (ps_set (i := 3) sc_draw.nd rfl (Or.inl rfl) (pe_op op_mod (pe_ix ix_list (pv 0) pe_int (fun _ _ => rfl)) (pe_callB call_len_seq (by rfl) T.len PySem.boot_len (pa_cons (pv 2) pa_nil))))
      (pss_cons (ps_set (i := 4) sc_draw.nd rfl (Or.inl rfl) (pe_ix ix_list (pv 2) (pv 3) (fun _ _ => rfl)))
      (pss_cons (ps_if (pt_cmpR op_ge (pv 4) pe_int (nomark _))
        (pss_cons (ps_asg (pe_op op_fdivW (pv 4) (pv 1)) (pg_sub (pv 2) (pv 3) set_list (fun _ => rfl))) (pss_one (ps_ret (pe_op op_mod (pv 4) (pv 1))))) pss_nil)
      (pss_cons (ps_asg (pe_op op_add (pe_ix ix_list (pv 0) pe_int (fun _ _ => rfl)) pe_int) (pg_sub (pv 0) pe_int set_list (fun _ => rfl)))
      (pss_cons (ps_asg (pe_op op_mod (pe_op op_add (pe_op op_add (pe_op op_add (pe_op op_mul (pe_ix ix_list (pv 0) pe_int (fun _ _ => rfl)) pe_int) (pv 4)) (pe_op op_mul pe_int (pe_ix ix_list (pv 0) pe_int (fun _ _ => rfl)))) pe_int) pe_int) (pg_sub (pv 0) pe_int set_list (fun _ => rfl)))
      (pss_one (ps_ret (pe_op op_mod (pe_op op_fdiv (pe_op op_mod (pe_op op_mul (pe_ix ix_list (pv 0) pe_int (fun _ _ => rfl)) (pe_ix ix_list (pv 0) pe_int (fun _ _ => rfl))) pe_int) pe_int) (pv 1))))))))), ?_⟩
    have lpos : (0 : Int) < ((cs.map V.int).length : Nat) := by rw [List.length_map]; omega
    have m0 : 0 ≤ i % ((cs.map V.int).length : Nat) := Int.emod_nonneg _ (by omega)
    have m1 : i % ((cs.map V.int).length : Nat) < ((cs.map V.int).length : Nat) := Int.emod_lt_of_pos _ lpos
    refine ⟨_, rfl, a, _, 0, .ref c, rfl, rfl, lof ha, rfl, ?_⟩
    refine ⟨_, rfl, a, _, 1, .int i, rfl, rfl, lof ha, rfl, _, rfl, c, _, rfl, .inl (lof hc), i, _, rfl, rfl, lpos, ?_⟩
    let j := i % ((cs.map V.int).length : Nat)
    have jl : j.toNat < cs.length := by have m2 : j < ((cs.map V.int).length : Nat) := m1; rw [List.length_map] at m2; have m3 : 0 ≤ j := m0; omega
    have hget : (cs.map V.int)[j.toNat]? = some (.int cs[j.toNat]) := by rw [List.getElem?_map, List.getElem?_eq_getElem jl]; rfl
    obtain ⟨z, hz⟩ : ∃ z, cs[j.toNat] = z := ⟨_, rfl⟩
    rw [hz] at hget
    refine ⟨_, rfl, _, rfl, c, _, j, .int z, rfl, rfl, lof hc, atI_lt m0 m1 hget, ?_⟩
    refine ⟨_, rfl, z, _, rfl, rfl, _, rfl, ?_⟩
    refine ite2 (fun _ => ?_) (fun _ => ?_)
    · -- a large cell gives its last digit
      refine ⟨_, rfl, _, rfl, z, n, rfl, rfl, wide_div n0 (b := 30) (by omega) (by decide) (by decide), _, rfl, _, rfl, c, _, j, _, rfl, rfl, hc, ixN_lt m0 m1, ?_⟩
      refine ⟨_, rfl, _, rfl, z, n, rfl, rfl, n0, q _ _ (Int.emod_nonneg _ (by omega)) (Int.emod_lt_of_pos _ n0) ⟨i, h, cs.set j.toNat (z / n), nac, by rw [upd_ne nac]; exact ha, ?_, by rw [List.length_set]; exact c0, by rw [List.length_set]; exact c63, h0, hm⟩ fun b o _ nb e => by rw [upd_ne nb]; exact e⟩
      rw [upd_same, List.map_set]
    · refine ⟨_, rfl, a, _, 1, .int i, rfl, rfl, lof ha, rfl, i, 1, rfl, rfl, _, rfl, a, _, 1, 1, rfl, rfl, ha, rfl, ?_⟩
      refine ⟨_, rfl, a, _, 2, .int h, rfl, rfl, lof upd_same, rfl, h, 48271, rfl, rfl, .inr ⟨by decide, by decide⟩, _, rfl, _, z, rfl, rfl, _, rfl, a, _, 1, .int (i + 1), rfl, rfl, lof upd_same, rfl, 7919, i + 1, rfl, rfl, .inl ⟨by decide, by decide⟩, _, _, rfl, rfl, _, 12345, rfl, rfl, _, 2147483647, rfl, rfl, (show (0 : Int) < 2147483647 by decide), ?_⟩
      have g0 : 0 ≤ (h * 48271 + z + 7919 * (i + 1) + 12345) % 2147483647 := Int.emod_nonneg _ (by decide)
      have g1 : (h * 48271 + z + 7919 * (i + 1) + 12345) % 2147483647 < 2147483647 := Int.emod_lt_of_pos _ (by decide)
      let g := (h * 48271 + z + 7919 * (i + 1) + 12345) % 2147483647
      refine ⟨_, rfl, a, _, 2, 2, rfl, rfl, upd_same, rfl, ?_⟩
      refine ⟨_, rfl, a, _, 2, .int g, rfl, rfl, lof upd_same, rfl, _, rfl, a, _, 2, .int g, rfl, rfl, lof upd_same, rfl, g, g, rfl, rfl, .inl ⟨Int.lt_of_lt_of_le (by decide) g0, Int.lt_trans g1 (by decide)⟩, _, 2147483629, rfl, rfl, (show (0 : Int) < 2147483629 by decide), _, 16, rfl, rfl, ⟨by decide, by decide⟩, _, rfl, _, n, rfl, rfl, n0, ?_⟩
      refine q _ _ (Int.emod_nonneg _ (by omega)) (Int.emod_lt_of_pos _ n0) ⟨i + 1, g, cs, nac, upd_same, by rw [upd_ne nac.symm, upd_ne nac.symm]; exact hc, c0, c63, g0, g1⟩ fun b o na _ e => by rw [upd_ne na, upd_ne na]; exact e
end
end As

/-! ## G13 -/
namespace As
open PySem PySem.Spec PyProof.Rows L2
section
variable {P : Program} {w : World} {K : PySem.W.Frag} {mg : Str → Option Value} {base : Heap}
def spPick : Sp := fun vs H Q _ => ∃ (a c : Addr) (x : V), vs = [.ref a, x] ∧ StAt H a c ∧
  ((∃ (s : Addr) (xs : List V), x = .ref s ∧ s ≠ a ∧ s ≠ c ∧ H s = some (.lst xs) ∧ 0 < xs.length ∧ xs.length < 1000000 ∧ ∀ v H', v ∈ xs → StAt H' a c → Fr a c H H' → Q v H') ∨
   ∃ z : Str, x = .str z ∧ 0 < z.length ∧ z.length < 1000000 ∧ ∀ (k : Nat) H', k ∈ z.cps.toList → StAt H' a c → Fr a c H H' → Q (.str ⟨#[k]⟩) H')
theorem sc_pick : FnScope ["state", "some"] ["state", "some"] (defScope s_pick) := ⟨rfl, rfl, rfl, by decide +kernel, rfl, by decide +kernel, by decide +kernel⟩
theorem ok_pick {f fd' : Addr} {fd dd : FuncData} (D : Df K mg "_law_pick" s_pick ["state", "some"] f fd) (T : Bi mg) (Dd : Df K mg "_law_draw" s_draw ["state", "many"] fd' dd) (Gd' : FnOk P w K mg base CX0 1 fd' dd ["state", "many"] spDraw) :
    FnOk P w K mg base CX0 2 f fd ["state", "some"] spPick := by
  refine D.F.ok sc_pick (fun vs H Q E h => ?_) (fun cdv A outer s H vs Q E hr h => ?_)
  · obtain ⟨a, c, x, rfl, _⟩ := h; rfl
  · obtain ⟨a, c, x, rfl, st, q⟩ := h
    refine ⟨_, pss_one (ps_ret (pe_ix ix_seq (pv 1) (pcall Dd Gd' hr (pa_cons (pv 0) (pa_cons (pe_callB call_len (by rfl) T.len PySem.boot_len (pa_cons (pv 1) pa_nil)) pa_nil))) (fun _ _ => rfl))), ?_⟩
    rcases q with ⟨s, xs, rfl, na, nc, hs, l0, l1, q⟩ | ⟨z, rfl, l0, l1, q⟩
    · refine ⟨_, rfl, _, rfl, _, rfl, _, _, rfl, .inl ⟨xs, lof hs, rfl⟩, a, c, (xs.length : Nat), rfl, st, by omega, by omega, fun r H' r0 r1 st' fr => ?_⟩
      have hi : r.toNat < xs.length := by omega
      exact .inl ⟨s, xs, r, xs[r.toNat], rfl, rfl, lof (fr _ _ na nc hs), atI_lt r0 r1 (List.getElem?_eq_getElem hi), q _ _ (List.getElem_mem hi) st' fr⟩
    · refine ⟨_, rfl, _, rfl, _, rfl, .str z, _, rfl, ⟨Nat.le_of_lt (Nat.lt_trans l1 (by decide)), rfl⟩, a, c, (z.length : Nat), rfl, st, by omega, by omega, fun r H' r0 r1 st' fr => ?_⟩
      have hi : r.toNat < z.cps.toList.length := by rw [Array.length_toList]; have := @str_len z; omega
      exact .inr (.inr ⟨z, r, z.cps.toList[r.toNat], rfl, rfl, Nat.le_of_lt (Nat.lt_trans l1 (by decide)), atI_lt r0 (by rw [Array.length_toList]; exact r1) (List.getElem?_eq_getElem hi), q _ _ (List.getElem_mem hi) st' fr⟩)

def spMixed (K : PySem.W.Frag) : Sp := fun vs H Q _ => ∃ (a c s : Addr) (xs : List V) (B : Hp), vs = [.ref a, .ref s] ∧ Gd a c B H ∧ H s = some (.lst xs) ∧ xs.length ≤ 1000 ∧ (∀ x ∈ xs, Plain K B x) ∧
  ∀ p ys B' H', ys.Perm xs → Same B B' → Gd a c B' H' → H p = none → B' p = some (.lst ys) → Q (.ref p) H'
abbrev nMixed : List Str := ["state", "some", "left", "found"]
theorem sc_mixed : FnScope nMixed ["state", "some"] (defScope s_lshuffled) := ⟨rfl, rfl, rfl, by decide +kernel, rfl, by decide +kernel, by decide +kernel⟩
theorem ok_mixed {f fd' : Addr} {fd dd : FuncData} (D : Df K mg "_law_shuffled" s_lshuffled ["state", "some"] f fd) (T : Bi mg) (Dd : Df K mg "_law_draw" s_draw ["state", "many"] fd' dd) (Gd' : FnOk P w K mg base CX0 1 fd' dd ["state", "many"] spDraw) :
    FnOk P w K mg base CX0 2 f fd ["state", "some"] (spMixed K) := by
  refine D.F.ok sc_mixed (fun vs H Q E h => ?_) (fun cdv A outer s H vs Q E hr h => ?_)
  · obtain ⟨a, c, s, xs, B, rfl, _⟩ := h; rfl
  · obtain ⟨a, c, s, xs, B, rfl, g, hs, hl, pl, q⟩ := h
    refine ⟨_, pss_cons (ps_par (i := 2) (j := 3) rfl sc_mixed.nd rfl rfl (by decide) rfl rfl (pa_cons (pe_callTy call_list_of (by rfl) T.list boot_list (pa_cons (pv 1) pa_nil)) (pa_cons (pe_lst pa_nil) pa_nil)) (by rfl))
      (pss_cons (ps_while PassesOwn.never (pt_cmpR (op_neD (hu64 hr)) (pv 2) (pe_lst pa_nil) (nomark _))
        (pss_one (ps_expr (pe_bm PySem.F.plainAttrs_list PySem.F.slot_list_append PySem.F.type_list_append mt_append (pv 3)
          (pa_cons (pe_bm PySem.F.plainAttrs_list PySem.F.slot_list_pop PySem.F.type_list_pop mt_popAt (pv 2) (pa_cons (pcall Dd Gd' hr (pa_cons (pv 0) (pa_cons (pe_callB call_len_seq (by rfl) T.len PySem.boot_len (pa_cons (pv 2) pa_nil)) pa_nil))) pa_nil)) pa_nil)))))
      (pss_one (ps_ret (pv 3)))), ?_⟩
    refine ⟨_, rfl, s, xs, rfl, .inl (lof hs), fun l nl => ⟨Nat.zero_le _, fun f nf => ⟨_, _, rfl, ?_⟩⟩⟩
    have g1 := g.new (o := .lst xs) nl
    have g2 := g1.new (o := .lst []) nf
    have nlf : l ≠ f := ne_of_none upd_same nf
    have nHf : H f = none := by rw [upd_ne nlf.symm] at nf; exact nf
    refine while_by (fun σ H' => ∃ ls fs, σ = [some (.ref a), some (.ref s), some (.ref l), some (.ref f)] ∧ Gd a c B H' ∧ H' l = some (.lst ls) ∧ H' f = some (.lst fs) ∧ (fs ++ ls).Perm xs)
      (fun σ H' => match H' l with | some (.lst ls) => ls.length | _ => 0) ⟨xs, [], rfl, g2, by rw [upd_ne nlf, upd_same], upd_same, .refl _⟩ ?_ ?_
    · rintro σ H' ⟨ls, fs, rfl, g', h1, h2, pm⟩
      have sub : ∀ x ∈ ls, x ∈ xs := fun x hx => pm.mem_iff.mp (List.mem_append_right _ hx)
      have len : fs.length + ls.length = xs.length := by rw [← List.length_append]; exact pm.length_eq
      refine ⟨_, rfl, Nat.zero_le _, fun e ne => ?_⟩
      have s3 : Same H' (upd H' e (.lst [])) := same_new ne
      refine ne_nil (fun x hx => pl x (sub x hx)) (g'.ex.trans s3) (s3 _ _ h1) upd_same ⟨_, rfl, ?_⟩
      have g3 := g'.same s3
      have k1 := s3 _ _ h1
      have k2 := s3 _ _ h2
      generalize upd H' e (.lst []) = H3 at g3 k1 k2 ⊢
      refine ite2 (fun hne => ?_) (fun hn => ?_)
      · have lne : ls ≠ [] := fun z => by rw [z] at hne; simp at hne
        have lpos : 0 < ls.length := List.length_pos_iff.mpr lne
        refine ⟨_, rfl, .inl ⟨rfl, _, lof k2⟩, _, rfl, .inl ⟨rfl, _, lof k1⟩, _, rfl, _, rfl, l, ls, rfl, .inl (lof k1), a, c, (ls.length : Nat), rfl, g3.st, by omega, by omega, fun r H4 r0 r1 st4 fr4 => ?_⟩
        have la := g.ne_a nl
        have lc := g.ne_c nl
        have fa := g.ne_a nHf
        have fc := g.ne_c nHf
        have k4 := fr4 _ _ la lc k1
        have k5 := fr4 _ _ fa fc k2
        have g4 := g3.fr fr4 st4
        have hi : r.toNat < ls.length := by omega
        refine ⟨l, ls, r, r.toNat, ls[r.toNat], rfl, rfl, k4, by omega, by omega, seq_at r0 r1, List.getElem?_eq_getElem hi, ?_⟩
        refine ⟨f, fs, _, rfl, rfl, by rw [upd_ne nlf.symm]; exact k5, Nat.lt_of_le_of_lt (show fs.length ≤ 1000 by omega) (by decide), ?_⟩
        have g5 := (g4.chg (o := .lst (ls.eraseIdx r.toNat)) (g.free nl) la lc).chg (o := .lst (fs ++ [ls[r.toNat]])) (g.free nHf) fa fc
        have e1 : (upd (upd H4 l (.lst (ls.eraseIdx r.toNat))) f (.lst (fs ++ [ls[r.toNat]]))) l = some (.lst (ls.eraseIdx r.toNat)) := by rw [upd_ne nlf, upd_same]
        refine ⟨⟨ls.eraseIdx r.toNat, fs ++ [ls[r.toNat]], rfl, g5, e1, upd_same, ?_⟩, ?_⟩
        · refine List.Perm.trans ?_ pm
          rw [List.append_assoc]
          refine List.Perm.append_left fs ?_
          exact erase_perm _ _ hi
        · show (match (upd (upd H4 l (.lst (ls.eraseIdx r.toNat))) f (.lst (fs ++ [ls[r.toNat]]))) l with | some (.lst ls) => ls.length | _ => 0) < (match H' l with | some (.lst ls) => ls.length | _ => 0)
          rw [e1, h1]
          show (ls.eraseIdx r.toNat).length < ls.length
          rw [List.length_eraseIdx, if_pos hi]; omega
      · have l0 : ls = [] := by
          cases ls with
          | nil => rfl
          | cons x t => exact absurd (by simp) hn
        subst l0
        rw [List.append_nil] at pm
        have fa := g.ne_a nHf
        have fc := g.ne_c nHf
        exact ⟨_, rfl, q f fs (upd B f (.lst fs)) H3 pm (same_new (g.free nHf)) (g3.know k2 fa fc) nHf upd_same⟩
    · rintro σ H' Q1 Q2 imp ⟨v, hv, sz, k⟩
      refine ⟨v, hv, sz, fun p np => ?_⟩
      obtain ⟨d, e, h1, h2, h3, h4, b, hb, q⟩ := k p np
      exact ⟨d, e, h1, h2, h3, h4, b, hb, imp _ _ q⟩
end
end As

/-! ## G14 -/
namespace As
open PySem PySem.Spec PyProof.Rows L2 TL
/-! labels of the asks' laws -/
theorem cut6 {z : Str} : tl (cutS z none (some 6)) = (tl z).take 6 := by
  unfold cutS
  show (((z.cps.toList.drop (HT.sIx z.length 0 none)).take (HT.sIx z.length z.length (some 6) - HT.sIx z.length 0 none)).toArray).toList = _
  rw [List.toList_toArray, HT.sIx_none, show (6 : Int) = ((6 : Nat) : Int) from rfl, HT.sIx_nat, List.drop_zero, Nat.sub_zero]
  by_cases h : 6 ≤ z.length
  · rw [Nat.min_eq_left h]
  · rw [Nat.min_eq_right (by omega), tl_len, List.take_length, List.take_of_length_le (by have := @tl_len z; omega)]
/-- z[:6], q and one more sign -/
def withQ (z : Str) (c : Nat) : Str := cutS z none (some 6) ++ Str.ofString "q" ++ sg c
theorem tl_q : tl (Str.ofString "q") = [113] := by decide +kernel
theorem tl_withQ {z : Str} {c : Nat} : tl (withQ z c) = (tl z).take 6 ++ [113] ++ [c] := by
  unfold withQ; rw [tl_append, tl_append, cut6, tl_q]; rfl
theorem withQ_name {z : Str} {c : Nat} (h : nameB z = true) (hc : letter c = true) : nameB (withQ z c) = true := by
  rw [nameB_iff] at h ⊢
  rw [tl_withQ]
  refine ⟨?_, fun x hx => ?_⟩
  · rw [List.length_append, List.length_append, List.length_take]
    simp
    omega
  · rcases List.mem_append.mp hx with hx | hx
    · rcases List.mem_append.mp hx with hx | hx
      · exact h.2 x (List.mem_of_mem_take hx)
      · rw [List.mem_singleton] at hx; rw [hx]; decide
    · rw [List.mem_singleton] at hx; rw [hx]; exact hc
theorem withQ_inj {z : Str} {c d : Nat} (h : withQ z c = withQ z d) : c = d := by
  have e := congrArg tl h
  rw [tl_withQ, tl_withQ] at e
  have e2 := List.append_cancel_left e
  injection e2
theorem some_q {z : Str} {fs : List Str} (hz : nameB z = true) (h : fs.length < 26) : ∃ x r, ((tl abc).map (withQ z)).filter (fun y => !decide (y ∈ fs)) = x :: r ∧ x ∉ fs ∧ nameB x = true := by
  cases e : ((tl abc).map (withQ z)).filter (fun y => !decide (y ∈ fs)) with
  | cons x r =>
    have hx : x ∈ ((tl abc).map (withQ z)).filter (fun y => !decide (y ∈ fs)) := by rw [e]; exact List.mem_cons_self
    obtain ⟨c, hc, hcx⟩ := List.mem_map.mp (List.mem_filter.mp hx).1
    exact ⟨x, r, rfl, by have := (List.mem_filter.mp hx).2; simpa using this, by rw [← hcx]; exact withQ_name hz (abc_letter c hc)⟩
  | nil =>
    have all : ∀ x ∈ (tl abc).map (withQ z), x ∈ fs := fun x hx => by
      have := List.filter_eq_nil_iff.mp e x hx
      simpa using this
    have nd : ((tl abc).map (withQ z)).Nodup := by
      rw [List.Nodup, List.pairwise_map]
      exact abc_nodup.imp fun ne e => ne (withQ_inj e)
    have l := nodup_sub nd all
    rw [List.length_map, abc_tl, List.length_map, List.length_range] at l
    omega
/-- a statement that only goes on, and what follows -/
theorem seq_mid {t u : TS} {D : Ends} {σ : L2.St} {H : Hp} (R : L2.St → Hp → Prop) (h : ∀ D' : Ends, (∀ σ' H', R σ' H' → D'.nx σ' H') → t D' σ H) (k : ∀ σ' H', R σ' H' → u D σ' H') : tSeq t u D σ H := h _ k
abbrev rAddS : R2 := fun x y H Q => ∃ i j, x = .str i ∧ y = .str j ∧ i.length + j.length ≤ sizeLine ∧ Q (.str (i ++ j)) H
structure Names (ws : List Str) : Prop where
  nd : ws.Nodup
  nm : ∀ x ∈ ws, nameB x = true
abbrev owns : List Str := ["buyer", "sell", "plan", "undo", "fact", "price", "judge", "done"]
theorem owns_name : ∀ z ∈ owns, nameB z = true := by decide +kernel
theorem signs_sum : ∀ cs : List Nat, ((cs.map sg).map (·.length)).sum = cs.length
  | [] => rfl
  | c :: r => by rw [List.map_cons, List.map_cons, List.sum_cons, signs_sum r, List.length_cons]; show 1 + r.length = r.length + 1; omega
theorem abc_len : 0 < abc.length ∧ abc.length < 1000000 := by decide +kernel
section
variable {P : Program} {w : World} {K : PySem.W.Frag} {mg : Str → Option Value} {base : Heap}
def spLabels : Sp := fun vs H Q _ => ∃ (a c : Addr) (n : Int) (B : Hp), vs = [.ref a, .int n] ∧ Gd a c B H ∧ 1 ≤ n ∧ n ≤ 8 ∧ ∀ p ws B' H', Same B B' → Gd a c B' H' → H p = none → B' p = some (.lst (ws.map V.str)) → ws.length = n.toNat → Names ws → Q (.ref p) H'
abbrev nLabels : List Str := ["state", "many", "own", "letters", "found", "turn", "label", "k", "sign"]
theorem sc_labels : FnScope nLabels ["state", "many"] (defScope s_llabels) := ⟨rfl, rfl, rfl, by decide +kernel, rfl, by decide +kernel, by decide +kernel⟩
theorem ok_labels {f fp fd' : Addr} {fd dp dd : FuncData} (D : Df K mg "_law_labels" s_llabels ["state", "many"] f fd) (T : Bi mg) (Dd : Df K mg "_law_draw" s_draw ["state", "many"] fd' dd) (Gd' : FnOk P w K mg base CX0 1 fd' dd ["state", "many"] spDraw)
    (Dp : Df K mg "_law_pick" s_pick ["state", "some"] fp dp) (Gp : FnOk P w K mg base CX0 2 fp dp ["state", "some"] spPick) : FnOk P w K mg base CX0 3 f fd ["state", "many"] spLabels := by
  refine D.F.ok sc_labels (fun vs H Q E h => ?_) (fun cdv A outer s H vs Q E hr h => ?_)
  · obtain ⟨a, c, n, B, rfl, _⟩ := h; rfl
  · obtain ⟨a, c, n, B, rfl, g, n1, n8, q⟩ := h
    have hr1 : Room 1 _ := hr.mono (by decide)
    refine ⟨_, pss_cons (ps_asg (pe_tup (pa_cons (pe_lst (pa_cons pe_str (pa_cons pe_str (pa_cons pe_str (pa_cons pe_str (pa_cons pe_str (pa_cons pe_str (pa_cons pe_str (pa_cons pe_str pa_nil))))))))) (pa_cons pe_str pa_nil))) (pg_tup rfl (pgs_cons (pg_name (i := 2) sc_labels.nd rfl (Or.inl rfl)) (pgs_cons (pg_name (i := 3) sc_labels.nd rfl (Or.inr rfl)) pgs_nil))))
      (pss_cons (ps_set (i := 4) sc_labels.nd rfl (Or.inr rfl) (pe_lst pa_nil))
      (pss_cons (ps_for PassesOwn.never rfl (pi_range1 rfl T.range (pa_cons (pv 1) pa_nil)) (pg_name (i := 5) sc_labels.nd rfl (Or.inl rfl))
        (pss_cons (ps_set (i := 6) sc_labels.nd rfl (Or.inr rfl) (pcall Dp Gp hr (pa_cons (pv 0) (pa_cons (pv 2) pa_nil))))
        (pss_cons (ps_if (pt_cmpR op_gt (pcall Dd Gd' hr1 (pa_cons (pv 0) (pa_cons pe_int pa_nil))) pe_int (nomark _))
          (pss_one (ps_set (i := 6) sc_labels.nd rfl (Or.inr rfl) (pe_join pe_str (pe_lc (own := [("k", 7)]) (g := gName 7) (tt := tYes) rfl sc_labels.nd (pi_range1 rfl T.range (pa_cons (pe_op op_add pe_int (pcall Dp Gp hr (pa_cons (pv 0) (pa_cons (pe_lst (pa_cons pe_int (pa_cons pe_int (pa_cons pe_int (pa_cons pe_int pa_nil))))) pa_nil)))) pa_nil))
            (blkOk_by (N := nLabels) (sc := defScope s_llabels) (by decide +kernel)) (fun _ _ _ _ _ => pg_name (i := 7) sc_labels.nd rfl (Or.inl rfl)) (fun _ _ _ _ _ => pts_nil) (fun _ _ _ _ _ => pcall Dp Gp hr (pa_cons (pv 0) (pa_cons (pv 3) pa_nil))))))) pss_nil)
        (pss_cons (ps_if (pt_cmpR (inK K) (pv 6) (pv 4) rfl)
          (pss_one (ps_set (i := 6) sc_labels.nd rfl (Or.inr rfl) (pe_ix ix_list (pe_lc (own := [("sign", 8)]) (g := gName 8) (tt := tTest (tOp (rIn K true) (tOp rAddS (tOp rAddS (tSl rSlS (tVar 6) tNoPart (tPart (tC (.int 6)))) (tC (.str (Str.ofString "q")))) (tVar 8)) (tVar 4))) rfl sc_labels.nd (pi_str (pv 3))
            (blkOk_by (N := nLabels) (sc := defScope s_llabels) (by decide +kernel)) (fun _ _ _ _ _ => pg_name (i := 8) sc_labels.nd rfl (Or.inl rfl)) (fun _ _ _ _ _ => pts_one (pt_cmpR (notInK K) (pe_op op_add_str (pe_op op_add_str (pe_slice sl_str (pv 6) po_none (po_some pe_int)) pe_str) (pv 8)) (pv 4) rfl))
            (fun _ _ _ _ _ => pe_op op_add_str (pe_op op_add_str (pe_slice sl_str (pv 6) po_none (po_some pe_int)) pe_str) (pv 8))) pe_int (fun _ _ => rfl)))) pss_nil)
        (pss_one (ps_expr (pe_bm PySem.F.plainAttrs_list PySem.F.slot_list_append PySem.F.type_list_append mt_append (pv 4) (pa_cons (pv 6) pa_nil))))))))
      (pss_one (ps_ret (pv 4))))), ?_⟩
    refine ⟨by show 8 ≤ sizeLine; decide, fun o no => ⟨by show 2 ≤ sizeLine; decide, fun t nt => ⟨t, _, rfl, tof upd_same, rfl, _, _, rfl, _, _, rfl, rfl, ?_⟩⟩⟩
    refine ⟨Nat.zero_le _, fun f nf => ?_⟩
    have go := g.add (o := .lst (owns.map V.str)) no
    have sB : Same B (upd B o (.lst (owns.map V.str))) := same_new (g.free no)
    have ko : (upd B o (.lst (owns.map V.str))) o = some (.lst (owns.map V.str)) := upd_same
    have oa := g.ne_a no
    have oc := g.ne_c no
    have gt := go.new (o := .tup [V.ref o, V.str abc]) nt
    have gf := gt.new (o := .lst ([] : List V)) nf
    have fa := gt.ne_a nf
    have fc := gt.ne_c nf
    have fB := gt.free nf
    have nfH : H f = none := by
      cases e : H f with
      | none => rfl
      | some u =>
        have h := same_new (o := HO.tup [V.ref o, V.str abc]) nt _ _ (same_new (o := HO.lst (owns.map V.str)) no _ _ e)
        exact absurd (h.symm.trans nf) (fun z => nomatch z)
    generalize upd B o (.lst (owns.map V.str)) = Bo at go sB ko gt gf fB
    refine ⟨_, rfl, n, rfl, by omega, by omega, for_range (lo := 0) (n := n.toNat) (fun i σ H' => ∃ (B' : Hp) (fs : List Str) (x5 x6 x7 x8 : Option V), σ = [some (.ref a), some (.int n), some (.ref o), some (.str abc), some (.ref f), x5, x6, x7, x8] ∧ Same Bo B' ∧ Gd a c B' H' ∧ B' f = none ∧
        H' f = some (.lst (fs.map V.str)) ∧ fs.length = i ∧ Names fs) ⟨Bo, [], none, none, none, none, rfl, Same.refl Bo, gf, fB, upd_same, rfl, ⟨List.nodup_nil, fun _ z => nomatch z⟩⟩ ?_ ?_⟩
    · rintro i σ H0 hi ⟨B0, fs, x5, x6, x7, x8, rfl, s0, g0, f0, hf0, len, nms⟩
      have gk := g0.know hf0 fa fc
      have sk : Same Bo (upd B0 f (.lst (fs.map V.str))) := same_new' s0 f0
      have kf : (upd B0 f (.lst (fs.map V.str))) f = some (.lst (fs.map V.str)) := upd_same
      generalize upd B0 f (.lst (fs.map V.str)) = B1 at gk sk kf
      -- one of the words
      refine ⟨_, rfl, _, rfl, a, c, .ref o, rfl, gk.st, .inl ⟨o, _, rfl, oa, oc, gk.ex _ _ (sk _ _ ko), by show 0 < 8; decide, by show 8 < 1000000; decide, fun v H3 hv st3 fr3 => ?_⟩⟩
      obtain ⟨z0, hz0, rfl⟩ : ∃ z ∈ owns, V.str z = v := List.mem_map.mp hv
      have nz0 := owns_name z0 hz0
      have g3 := gk.fr fr3 st3
      -- or a word of letters
      dsimp only [gName]
      refine seq_mid (t := tIfS _ _ _) (fun σ' H' => ∃ (z : Str) (B4 : Hp) (x7 x8 : Option V), σ' = [some (.ref a), some (.int n), some (.ref o), some (.str abc), some (.ref f), some (.int (0 + (i : Int))), some (.str z), x7, x8] ∧ nameB z = true ∧ Same B1 B4 ∧ Gd a c B4 H') (fun D' kk => ?_) (fun σ' H' r => ?_)
      · refine ⟨_, rfl, a, c, 3, rfl, g3.st, by decide, by decide, fun r H4 r0 r1 st4 fr4 => ⟨r, 0, rfl, rfl, _, rfl, ite2 (fun _ => ?_) (fun _ => ?_)⟩⟩
        · have g4 := g3.fr fr4 st4
          refine ⟨⟨_, rfl⟩, _, rfl, by show 4 ≤ sizeLine; decide, fun L nL => ⟨a, c, .ref L, rfl, (g4.new nL).st, .inl ⟨L, _, rfl, g4.ne_a nL, g4.ne_c nL, upd_same, by show 0 < 4; decide, by show 4 < 1000000; decide, fun v H5 hv st5 fr5 => ?_⟩⟩⟩
          obtain ⟨u, rfl, u0, u7⟩ : ∃ u : Int, v = V.int u ∧ 0 ≤ u ∧ u ≤ 7 := by
            simp only [List.mem_cons, List.not_mem_nil, or_false] at hv
            rcases hv with rfl | rfl | rfl | rfl
            · exact ⟨_, rfl, by decide, by decide⟩
            · exact ⟨_, rfl, by decide, by decide⟩
            · exact ⟨_, rfl, by decide, by decide⟩
            · exact ⟨_, rfl, by decide, by decide⟩
          have g5 := (g4.new nL).fr fr5 st5
          refine ⟨1, u, rfl, rfl, 1 + u, rfl, by omega, by omega, fun D hD => ?_⟩
          refine lc_draw (B := B1) (H1 := H5) (a := a) (c := c) walk_range g5 hD (fun _ _ _ _ => trivial) (Nat.lt_of_le_of_lt (show (1 + u).toNat ≤ 8 by omega) (by decide)) (fun i acc _ => ∃ cs : List Nat, acc = (cs.map sg).map V.str ∧ cs.length = i ∧ ∀ k ∈ cs, letter k = true)
            ⟨[], rfl, rfl, fun _ z => nomatch z⟩ (fun _ _ _ _ h _ => h) (fun i acc _ ⟨cs, e, l, _⟩ => by rw [e, List.length_map, List.length_map, l]; exact Nat.le_refl _) (fun j H6 B6 acc Q1 Q2 hj s6 g6 p6 d6 k1 k2 => ?_) (fun H6 B6 acc s6 g6 d6 p6 => ?_)
          · obtain ⟨cs, rfl, lc, ls⟩ := p6
            refine ⟨rfl, ?_⟩
            refine iteT (B := Q2 H6) ?_
            refine ⟨_, rfl, _, rfl, a, c, .str abc, rfl, g6.st, .inr ⟨abc, rfl, abc_len.1, abc_len.2, fun k H7 hk st7 fr7 => k1 _ _ B6 (Same.refl _) (g6.fr fr7 st7) ⟨cs ++ [k], ?_, ?_, fun x hx => ?_⟩⟩⟩
            · rw [List.map_append, List.map_append]; rfl
            · rw [List.length_append, lc]; rfl
            · rcases List.mem_append.mp hx with hx | hx
              · exact ls x hx
              · rw [List.mem_singleton] at hx; rw [hx]; exact abc_letter k hk
          · obtain ⟨cs, rfl, lcs, ls⟩ := p6
            refine ⟨_, D, cs.map sg, rfl, rfl, .inl (lof (g6.ex _ _ d6)), ?_, ?_⟩
            · rw [signs_sum, List.length_map]
              have : (Str.ofString "").length = 0 := by decide +kernel
              rw [this, lcs]; omega
            have w1 : nameB (Txt.join (Str.ofString "") (cs.map sg)) = true := by
              rw [nameB_iff, join_signs]
              exact ⟨by omega, ls⟩
            exact kk _ _ ⟨_, B6, _, _, rfl, w1, s6, g6⟩
        · have g4 := g3.fr fr4 st4
          exact kk _ _ ⟨z0, B1, _, _, rfl, nz0, Same.refl _, g4⟩
      · obtain ⟨z, B4, x7, x8, rfl, nz, s4, g4⟩ := r
        have kf4 : B4 f = some (.lst (fs.map V.str)) := s4 _ _ kf
        have hf4 := g4.ex _ _ kf4
        refine seq_mid (t := tIfS _ _ _) (fun σ' H5 => ∃ (y : Str) (x7 x8 : Option V), σ' = [some (.ref a), some (.int n), some (.ref o), some (.str abc), some (.ref f), some (.int (0 + (i : Int))), some (.str y), x7, x8] ∧ nameB y = true ∧ y ∉ fs ∧ Gd a c B4 H5) (fun D' kk => ?_) (fun σ' H5 r => ?_)
        · refine ⟨_, rfl, _, rfl, f, _, rfl, .inl (lof hf4), rfl, flat_strs, _, rfl, ?_⟩
          rw [inV_str]
          by_cases hm : z ∈ fs
          · rw [decide_eq_true hm]
            refine iteT ?_
            refine ⟨_, rfl, abc, rfl, fun D2 nD2 => lc_same (B := H') walk_sign signs_length.symm (Same.refl H') nD2 (fun _ _ => trivial) (by rw [signs_length]; exact Nat.lt_trans abc_len.2 (by decide))
              (fun x => match x with | .str y => if cutS z none (some 6) ++ Str.ofString "q" ++ y ∈ fs then none else some (.str (cutS z none (some 6) ++ Str.ofString "q" ++ y)) | _ => none) (fun x H8 Q1 Q2 hx s8 k1 k2 => ?_) (fun H8 s8 hD8 => ?_)⟩
            · obtain ⟨k, hk, rfl⟩ := List.mem_map.mp hx
              have e1 : (cutS z none (some 6)).length ≤ 6 := by rw [tl_len, cut6, List.length_take]; omega
              have e2 : (Str.ofString "q").length = 1 := by decide +kernel
              have e3 : (cutS z none (some 6) ++ Str.ofString "q").length ≤ 7 := by rw [tl_len, tl_append, List.length_append, ← tl_len, ← tl_len]; omega
              have b1 : (cutS z none (some 6)).length + (Str.ofString "q").length ≤ sizeLine := Nat.le_trans (m := 7) (by omega) (by decide)
              have b2 : (cutS z none (some 6) ++ Str.ofString "q").length + (sg k).length ≤ sizeLine := Nat.le_trans (m := 8) (by show _ + 1 ≤ 8; omega) (by decide)
              refine ⟨rfl, _, rfl, 6, rfl, z, rfl, name_line nz, _, _, rfl, rfl, b1, _, rfl, _, _, rfl, rfl, b2, _, rfl, f, _, rfl, .inl (lof (s8 _ _ hf4)), rfl, flat_strs, _, rfl, ?_⟩
              rw [inV_str]
              by_cases hq : cutS z none (some 6) ++ Str.ofString "q" ++ (⟨#[k]⟩ : Str) ∈ fs
              · rw [decide_eq_true hq]
                exact iteF (k2 _ (by show (if _ then none else some _) = none; rw [if_pos hq]) (Same.refl _))
              · rw [decide_eq_false hq]
                exact iteT ⟨_, rfl, 6, rfl, z, rfl, name_line nz, _, _, rfl, rfl, b1, _, rfl, _, _, rfl, rfl, b2, k1 _ _ (by show (if _ then none else some _) = _; rw [if_neg hq]) (Same.refl _)⟩
            · have e8 : H8 D2 = some (.lst ((((tl abc).map (withQ z)).filter (fun y => !decide (y ∈ fs))).map V.str)) := by
                rw [hD8]; congr 2
                unfold signs
                show List.filterMap _ ((tl abc).map fun c => V.str (sg c)) = _
                generalize (tl abc) = ws
                induction ws with
                | nil => rfl
                | cons k r ih =>
                  rw [List.map_cons, List.filterMap_cons, ih, List.map_cons, List.filter_cons]
                  dsimp only
                  by_cases hm : withQ z k ∈ fs
                  · have hm' : cutS z none (some 6) ++ Str.ofString "q" ++ sg k ∈ fs := hm
                    rw [if_pos hm', decide_eq_true hm]; rfl
                  · have hm' : ¬ cutS z none (some 6) ++ Str.ofString "q" ++ sg k ∈ fs := hm
                    rw [if_neg hm', decide_eq_false hm]; rfl
              obtain ⟨y, r', ey, ny, nmy⟩ := some_q (z := z) (fs := fs) nz (by omega)
              rw [ey] at e8
              refine ⟨D2, _, 0, .str y, rfl, rfl, lof e8, atI_lt (by decide) (by rw [List.length_map, List.length_cons]; omega) rfl, ?_⟩
              exact kk _ _ ⟨y, _, _, rfl, nmy, ny, g4.same s8⟩
          · rw [decide_eq_false hm]
            exact iteF (kk _ _ ⟨z, _, _, rfl, nz, hm, g4⟩)
        · obtain ⟨y, x7, x8, rfl, ny, hy, g5⟩ := r
          have hf5 := g5.ex _ _ kf4
          refine ⟨_, rfl, .inl ⟨rfl, _, lof hf5⟩, _, rfl, f, _, .str y, rfl, rfl, hf5, ?_, ?_⟩
          · rw [List.length_map]; exact Nat.lt_of_le_of_lt (show fs.length ≤ 8 by omega) (by decide)
          refine ⟨rem B4 f, fs ++ [y], _, _, _, _, rfl, same_into_rem (sk.trans s4) fB, (g5.less same_rem).chg rem_self fa fc, rem_self, ?_, ?_, ?_⟩
          · rw [upd_same, List.map_append]; rfl
          · rw [List.length_append, len]; rfl
          · refine ⟨?_, fun u hu => ?_⟩
            · rw [List.nodup_append]
              refine ⟨nms.nd, by simp, fun u hu v hv e => ?_⟩
              rw [List.mem_singleton] at hv
              exact hy (by rw [← hv, ← e]; exact hu)
            · rcases List.mem_append.mp hu with hu | hu
              · exact nms.nm u hu
              · rw [List.mem_singleton] at hu; rw [hu]; exact ny
    · rintro σ H' ⟨B', fs, x5, x6, x7, x8, rfl, s', g', f', hf', len, nms⟩
      exact ⟨_, rfl, q f fs (upd B' f (.lst (fs.map V.str))) H' (sB.trans (same_new' s' f')) (g'.know hf' fa fc) nfH upd_same len nms⟩
end
end As

/-! ## G15 -/
namespace As
open PySem PySem.Spec PyProof.Rows L2 TL
/-! a drawn lot -/
structure DrawnLot (n : Int) (ns : List Int) : Prop where
  ne : ns ≠ []
  up : ns.Pairwise fun a b => a < b
  own : ∀ v ∈ ns, 0 ≤ v ∧ v < n
  len : ns.length ≤ 6
section
variable {P : Program} {w : World} {K : PySem.W.Frag} {mg : Str → Option Value} {base : Heap}
def spLot : Sp := fun vs H Q _ => ∃ (a c : Addr) (n : Int) (B : Hp), vs = [.ref a, .int n] ∧ Gd a c B H ∧ 1 ≤ n ∧ n ≤ 6 ∧ (∀ H', Gd a c B H' → Q .non H') ∧
  ∀ p ns B' H', Same B B' → Gd a c B' H' → B' p = some (.tup (ns.map V.int)) → DrawnLot n ns → Q (.ref p) H'
abbrev nLot : List Str := ["state", "size", "kept", "value"]
theorem sc_lot : FnScope nLot ["state", "size"] (defScope s_llot) := ⟨rfl, rfl, rfl, by decide +kernel, rfl, by decide +kernel, by decide +kernel⟩
theorem ok_lot {f fd' : Addr} {fd dd : FuncData} (D : Df K mg "_law_lot" s_llot ["state", "size"] f fd) (T : Bi mg) (Dd : Df K mg "_law_draw" s_draw ["state", "many"] fd' dd) (Gd' : FnOk P w K mg base CX0 1 fd' dd ["state", "many"] spDraw) :
    FnOk P w K mg base CX0 2 f fd ["state", "size"] spLot := by
  refine D.F.ok sc_lot (fun vs H Q E h => ?_) (fun cdv A outer s H vs Q E hr h => ?_)
  · obtain ⟨a, c, n, B, rfl, _⟩ := h; rfl
  · obtain ⟨a, c, n, B, rfl, g, n1, n6, q0, q⟩ := h
    have ht := T.tuple
    refine ⟨_, pss_cons (ps_if (pt_cmpR op_gt (pcall Dd Gd' hr (pa_cons (pv 0) (pa_cons pe_int pa_nil))) pe_int (nomark _)) (pss_one (ps_ret pe_non)) pss_nil)
      (pss_cons (ps_setLc (i := 2) (own := [("value", 3)]) (g := gName 3) (tt := tTest (tOp rEq (tCall spDraw [] E0 (tCons (tVar 0) (tCons (tC (.int 2)) tNil))) (tC (.int 0)))) rfl sc_lot.nd rfl rfl (sw_true rfl rfl rfl (by decide +kernel)) (pi_range1 rfl T.range (pa_cons (pv 1) pa_nil))
        (blkOk_by (N := nLot) (sc := defScope s_llot) (by decide +kernel)) (fun _ _ _ _ _ => pg_name (i := 3) sc_lot.nd rfl (Or.inl rfl)) (fun _ _ _ _ _ => pts_one (pt_cmpR op_eq (pcall Dd Gd' hr (pa_cons (pv 0) (pa_cons pe_int pa_nil))) pe_int (nomark _))) (fun _ _ _ _ _ => pv 3))
      (pss_one (ps_ret (pe_ifExp (pt_cmpR (op_neD (hu64 hr)) (pv 2) (pe_lst pa_nil) (nomark _)) (tupK K (pv 2)) (pe_tup (pa_cons (pcall Dd Gd' hr (pa_cons (pv 0) (pa_cons (pv 1) pa_nil))) pa_nil)))))), ?_⟩
    refine ⟨_, rfl, a, c, 3, rfl, g.st, by decide, by decide, fun r H1 r0 r1 st1 fr1 => ⟨r, 0, rfl, rfl, _, rfl, ite2 (fun _ => ?_) (fun _ => ?_)⟩⟩
    · have g1 := g.fr fr1 st1
      exact q0 _ g1
    have g1 := g.fr fr1 st1
    refine ⟨_, rfl, n, rfl, by omega, by omega, fun D hD => ?_⟩
    have nDH : ∀ p, H1 p = none → B p = none := fun p => g1.free
    refine lc_draw (B := B) (H1 := H1) (a := a) (c := c) walk_range g1 hD (fun _ _ _ _ => trivial) (Nat.lt_of_le_of_lt (show n.toNat ≤ 8 by omega) (by decide)) (fun i acc _ => ∃ ns : List Int, acc = ns.map V.int ∧ ns.length ≤ i ∧ ns.Pairwise (fun a b => a < b) ∧ ∀ v ∈ ns, 0 ≤ v ∧ v < (i : Int))
      ⟨[], rfl, Nat.le_refl _, List.Pairwise.nil, fun _ z => nomatch z⟩ (fun _ _ _ _ h _ => h) (fun i acc _ ⟨ns, e, l, _⟩ => by rw [e, List.length_map]; exact l) (fun j H4 B4 acc Q1 Q2 hj s4 g4 p4 d4 k1 k2 => ?_) (fun H4 B4 acc s4 g4 d4 p4 => ?_)
    · obtain ⟨ns, rfl, ln, up, own⟩ := p4
      refine ⟨rfl, ?_⟩
      refine ⟨_, rfl, a, c, 2, rfl, g4.st, by decide, by decide, fun r H5 r0 r1 st5 fr5 => ⟨rfl, _, rfl, ite2 (fun _ => ?_) (fun _ => ?_)⟩⟩
      · refine ⟨_, rfl, k1 _ _ B4 (Same.refl _) (g4.fr fr5 st5) ⟨ns ++ [(j : Int)], ?_, ?_, ?_, ?_⟩⟩
        · rw [List.map_append]; congr 1
          show [V.int (0 + (j : Int))] = [V.int (j : Int)]
          rw [Int.zero_add]
        · rw [List.length_append]; exact Nat.succ_le_succ ln
        · rw [List.pairwise_append]
          refine ⟨up, List.pairwise_singleton _ _, fun u hu v hv => ?_⟩
          rw [List.mem_singleton] at hv
          have := (own u hu).2
          omega
        · intro v hv
          rcases List.mem_append.mp hv with hv | hv
          · have := own v hv; omega
          · rw [List.mem_singleton] at hv; omega
      · exact k2 _ B4 (Same.refl _) (g4.fr fr5 st5) ⟨ns, rfl, Nat.le_succ_of_le ln, up, fun v hv => by have := own v hv; omega⟩
    · obtain ⟨ns, rfl, ln, up, own⟩ := p4
      have h4 := g4.ex _ _ d4
      refine ⟨_, rfl, by decide, fun z nz => ?_⟩
      have s5 := same_new (o := .lst ([] : List V)) nz
      refine ⟨_, _, .lst (lof (s5 _ _ h4)) dp_ints, .lst (lof upd_same) .nil, shaped_lst ints_lay.1 (by rw [ints_lay.2]; decide), shaped_lst (by simp [PyData.canLayAll0]) (by simp [PyData.depthAll]), ?_⟩
      rw [ints_nil]
      have g5 := g4.new (o := .lst ([] : List V)) nz
      have h5 := s5 _ _ h4
      generalize upd H4 z (.lst []) = H5 at g5 h5 ⊢
      refine ⟨_, rfl, ite2 (fun h => ?_) (fun h => ?_)⟩
      · refine ⟨_, rfl, .inl ⟨D, _, rfl, lof h5, fun p np => ?_⟩⟩
        refine q p ns (upd B4 p (.tup (ns.map V.int))) _ (s4.trans (same_new (g5.free np))) (g5.add np) upd_same ⟨fun e => ?_, up, fun v hv => by have := own v hv; omega, by omega⟩
        rw [decide_eq_true e] at h; cases h
      · refine ⟨_, rfl, _, rfl, a, c, n, rfl, g5.st, by omega, by omega, fun r H6 r0 r1 st6 fr6 => ⟨by show 1 ≤ sizeLine; decide, fun p np => ?_⟩⟩
        have g6 := g5.fr fr6 st6
        refine q p [r] (upd B4 p (.tup [V.int r])) _ (s4.trans (same_new (g6.free np))) (g6.add np) upd_same ⟨by simp, List.pairwise_singleton _ _, fun v hv => ?_, by show 1 ≤ 6; decide⟩
        rw [List.mem_singleton] at hv; omega
end
end As

/-! ## G16 -/
namespace As
open PySem PySem.Spec PyProof.Rows L2 TL
open PySem.W (dataLe AllAlike Sortable dataLt alike)
/-! the law's own lots of an ask -/
section
variable {P : Program} {w : World} {K : PySem.W.Frag} {mg : Str → Option Value} {base : Heap}
theorem lstK {X : Cx} (K : PySem.W.Frag) (h : X.K = K := by rfl) : CallR X (.type "list") (fun xs H Q => ∃ p ys, xs = [.ref p] ∧ (SqL K H p ys ∨ SqT K H p ys) ∧ ∀ l, H l = none → Q (.ref l) (upd H l (.lst ys))) := h ▸ call_list_of
def spLLots : Sp := fun vs H Q _ => ∃ (cl a : Addr) (cs : List CRow) (ts : List TRow) (ss : List SRow) (ks : List KRow), vs = [.ref cl, .ref a] ∧ H cl = some (.lst (cs.map cv)) ∧ ColsOk H cs ∧ AskAt H a ss ks ∧ ss.length ≤ 6 ∧ (∀ s ∈ ss, SOk cs ts s) ∧
  ∀ t (ls : List LList) H', Same H H' → H t = none → H' t = some (.lst (ls.map lw)) → (∀ l ∈ ls, LlAt H' l ∧ H l.1 = none) → ls.map (·.2) = ss.map (lotOf cs) → Q (.ref t) H'
abbrev nLLots : List Str := ["columns", "asked", "sizes", "stop"]
theorem sc_llots : FnScope nLLots ["columns", "asked"] (defScope s_llots) := ⟨rfl, rfl, rfl, by decide +kernel, rfl, by decide +kernel, by decide +kernel⟩
theorem ok_llots {f : Addr} {fd : FuncData} (D : Df K mg "_law_lots" s_llots ["columns", "asked"] f fd) (T : Bi mg) : FnOk P w K mg base CX0 1 f fd ["columns", "asked"] spLLots := by
  refine D.F.ok sc_llots (fun vs H Q E h => ?_) (fun cdv A outer s H vs Q E hr h => ?_)
  · obtain ⟨cl, a, cs, ts, ss, ks, rfl, _⟩ := h; rfl
  · obtain ⟨cl, a, cs, ts, ss, ks, rfl, hcl, okc, x, l6, so, q⟩ := h
    refine ⟨_, pss_cons (ps_set (i := 2) sc_llots.nd rfl (Or.inr rfl) (pe_callTy (call_dictP rfl) (by rfl) T.dict (by decide +kernel) (pa_cons (pv 0) pa_nil)))
      (pss_one (ps_ret (pe_lc (own := [("stop", 3)]) (g := gName 3) (tt := tYes) rfl sc_llots.nd (pi_tup (pe_step (a := 0) (pv 1) (.inl ⟨rfl, rfl⟩))) (blkOk_by (N := nLLots) (sc := defScope s_llots) (by decide +kernel)) (fun _ _ _ _ _ => pg_name (i := 3) sc_llots.nd rfl (Or.inl rfl)) (fun _ _ _ _ _ => pts_nil)
        (fun _ _ _ _ _ => pe_ifExp (pt_cmp (pc_isN (pe_ix (ixT K) (pv 3) pe_int (fun _ _ => rfl)))) (pe_listRg rfl (by rfl) T.list (prg_1 (by rfl) T.range (pe_dget (hu_of hr) (pv 2) (pe_ix (ixT K) (pv 3) pe_int (fun _ _ => rfl)) (fun _ _ => rfl))))
          (pe_callTy (lstK K) (by rfl) T.list boot_list (pa_cons (pe_ix (ixT K) (pv 3) pe_int (fun _ _ => rfl)) pa_nil)))))), ?_⟩
    refine ⟨_, rfl, cl, cs.map (·.1), colsD cs, rfl, lof (by rw [cols_refs]; exact hcl), cols_pairs okc, fun sz nsz => ?_⟩
    rw [mergeK_cols okc]
    have s0 : Same H (upd H sz (.dK (colsD cs))) := same_new nsz
    have hz0 : (upd H sz (.dK (colsD cs))) sz = some (.dK (colsD cs)) := upd_same
    generalize upd H sz (.dK (colsD cs)) = H0 at s0 hz0
    have e := weave_evens (xs := ss.map sv) (ys := ks.map kw) (by rw [List.length_map, List.length_map]; exact x.len)
    refine ⟨_, rfl, a, _, rfl, tof (s0 _ _ x.h), Nat.zero_le _, fun t nt => ?_⟩
    rw [List.drop_zero, e]
    have s1 : Same H0 (upd H0 t (.tup (ss.map sv))) := same_new nt
    have h1 : (upd H0 t (.tup (ss.map sv))) t = some (.tup (ss.map sv)) := upd_same
    generalize upd H0 t (.tup (ss.map sv)) = H1 at s1 h1 ⊢
    have hz1 := s1 _ _ hz0
    have s1 := s0.trans s1
    have sl : (ss.map sv).length = ss.length := List.length_map _
    refine ⟨t, rfl, ⟨_, tof h1⟩, fun D nD => ?_⟩
    refine lc_it (walk_tup (K := K) (a := t) (xs := ss.map sv)) (fun i H' => ∃ ls : List LList, Same H1 H' ∧ H' D = some (.lst (ls.map lw)) ∧ (∀ l ∈ ls, l.1 ≠ D ∧ LlAt H' l ∧ H l.1 = none) ∧ ls.map (·.2) = (ss.take i).map (lotOf cs)) ⟨[], same_new nD, upd_same, (fun _ z => nomatch z), rfl⟩ (fun i H' _ ⟨_, s', _⟩ => tof (s' _ _ h1))
      (fun i y Ha Hb hi ⟨ls, sa, hDa, la, key⟩ y2 => ?_) (fun H6 ⟨ls, s6, hD6, la, key⟩ => ?_)
    · obtain ⟨rfl, hy⟩ := y2
      rw [List.getElem?_map] at hy
      obtain ⟨z, hz, rfl⟩ := Option.map_eq_some_iff.mp hy
      have zm := List.mem_of_getElem? hz
      have sH := s1.trans sa
      have za := (x.s z zm).imm (same_imm sH)
      have zo := so z zm
      have hza := sa _ _ hz1
      have tk : (ss.take (i + 1)).map (lotOf cs) = (ss.take i).map (lotOf cs) ++ [lotOf cs z] := by rw [List.take_succ, hz, List.map_append]; rfl
      have lln : ls.length ≤ 6 := by
        have h := congrArg List.length key
        rw [List.length_map, List.length_map, List.length_take] at h
        omega
      have fin : ∀ (c : Addr) (ns : List Int), ns = lotOf cs z → Hb c = none → ∃ acc, (upd Hb c (.lst (ns.map V.int))) D = some (.lst acc) ∧ acc.length < sizeLine ∧
          ∃ ls : List LList, Same H1 (upd (upd Hb c (.lst (ns.map V.int))) D (.lst (acc ++ [V.ref c]))) ∧ (upd (upd Hb c (.lst (ns.map V.int))) D (.lst (acc ++ [V.ref c]))) D = some (.lst (ls.map lw)) ∧ (∀ l ∈ ls, l.1 ≠ D ∧ LlAt (upd (upd Hb c (.lst (ns.map V.int))) D (.lst (acc ++ [V.ref c]))) l ∧ H l.1 = none) ∧ ls.map (·.2) = (ss.take (i + 1)).map (lotOf cs) := by
        intro c ns en nc
        have cD : c ≠ D := fun e => by rw [e, hDa] at nc; cases nc
        have sc : Same Hb (upd Hb c (.lst (ns.map V.int))) := same_new nc
        refine ⟨ls.map lw, sc _ _ hDa, by rw [List.length_map]; exact Nat.lt_of_le_of_lt lln (by decide), ls ++ [(c, ns)], same_mut (sa.trans sc) nD, by rw [upd_same, List.map_append]; rfl, fun l hl => ?_, by rw [List.map_append, key, tk, en]; rfl⟩
        rcases List.mem_append.mp hl with hl | hl
        · refine ⟨(la l hl).1, ?_, (la l hl).2.2⟩
          show upd _ D _ l.1 = _
          rw [upd_ne (la l hl).1]; exact sc _ _ (la l hl).2.1
        · rw [List.mem_singleton] at hl; subst hl
          refine ⟨cD, ?_, Same.free (s1.trans sa) nc⟩
          show upd _ D _ c = _
          rw [upd_ne cD]; exact upd_same
      refine ⟨rfl, ?_⟩
      refine iteT (B := False) ?_
      cases el : z.2.2.1 with
      | none =>
        have vz := valV_sz okc zo.col
        have g1 := DGet.k (k := Sum.inr z.2.1) hza
        rw [vz.1] at g1
        have zz := za.1
        rw [el] at zz
        refine ⟨_, rfl, z.1, _, 1, .non, rfl, rfl, tof zz, rfl, true, rfl, iteT ?_⟩
        refine ⟨_, rfl, _, rfl, z.1, _, 0, .str z.2.1, rfl, rfl, tof zz, rfl, sz, .int (sizeI cs z.2.1), rfl, g1, _, rfl, ⟨by decide, by decide, by omega, by omega, Nat.le_trans (show (sizeI cs z.2.1 - 0).toNat ≤ 6 by omega) (by decide)⟩, fun c nc => ?_⟩
        have er : rgV 0 (sizeI cs z.2.1) = (ir (sizeI cs z.2.1).toNat).map V.int := by
          unfold rgV; rw [Int.sub_zero]; exact rngV_ir _
        rw [er]
        exact fin c _ (by unfold lotOf; rw [el]) nc
      | some lt =>
        have hl := za.2.1 lt el
        have zz := za.1
        rw [el] at zz
        refine ⟨_, rfl, z.1, _, 1, .ref lt.1, rfl, rfl, tof zz, rfl, false, rfl, iteF ?_⟩
        exact ⟨_, rfl, z.1, _, 1, .ref lt.1, rfl, rfl, tof zz, rfl, lt.1, _, rfl, .inr (tof hl), fun c nc => fin c lt.2 (by unfold lotOf; rw [el]) nc⟩
    · rw [List.length_map, List.take_length] at key
      exact q D ls H6 (s1.trans s6) (Same.free s1 nD) hD6 (fun l hl => (la l hl).2) key
end
end As

/-! ## A27 -/
namespace As
open PySem PySem.Spec PyProof.Rows L2
/-! t[::-1] of a tuple -/
theorem pickRev (items : Array Value) : List.filterMap (fun (k : Nat) => items[(((items.size : Int) - 1) + (k : Int) * (-1)).toNat]?) (List.range items.size) = items.toList.reverse := by
  have e : List.filterMap (fun (k : Nat) => items[(((items.size : Int) - 1) + (k : Int) * (-1)).toNat]?) (List.range items.size) = (List.range items.size).map fun k => items.toList.getD (items.size - 1 - k) .none := by
    rw [← filterMap_some]
    apply fm_congr
    intro k hk
    have hk := List.mem_range.mp hk
    rw [show (((items.size : Int) - 1) + (k : Int) * (-1)).toNat = items.size - 1 - k by omega, ← Array.getElem?_toList, List.getD_eq_getElem?_getD, List.getElem?_eq_getElem (by rw [Array.length_toList]; omega)]
    rfl
  rw [e]
  apply List.ext_getElem?
  intro k
  rw [List.getElem?_map]
  by_cases hk : k < items.size
  · rw [List.getElem?_range hk, List.getElem?_reverse (by rw [Array.length_toList]; exact hk), Array.length_toList]
    show some (items.toList.getD (items.size - 1 - k) .none) = _
    rw [List.getD_eq_getElem?_getD, List.getElem?_eq_getElem (by rw [Array.length_toList]; omega)]; rfl
  · rw [List.getElem?_eq_none (by rw [List.length_range]; omega), List.getElem?_eq_none (by rw [List.length_reverse, Array.length_toList]; omega)]; rfl
section
variable {prog : Program} {w : World} {A : Around} {E : Value → Shared → Prop} {s : Shared}
theorem sliceApplied_rev {sl : Addr} {u : Tok} {n : Nat} {Q : Int × Int × Nat → Shared → Prop} (hs : s.heap.IsSliceOf sl .none .none (.int (-1) u))
    (h : Q ((Builtin.Slice.sliceAdjust none none (-1) n).1, -1, Builtin.Slice.slicePlaces (Builtin.Slice.sliceAdjust none none (-1) n).1 (Builtin.Slice.sliceAdjust none none (-1) n).2 (-1)) s) :
    wpAny (model prog w) A (Builtin.Slice.sliceApplied (.ref sl) (pure (n : Int))) Q E s := by
  obtain ⟨os, hos, hcs, hds⟩ := id hs
  unfold Builtin.Slice.sliceApplied Builtin.Slice.sliceFields
  refine wpAny_bind (wpAny_bind (wpAny_field hos hds rfl (wpAny_bind (wpAny_field hos hds rfl (wpAny_bind (wpAny_field hos hds rfl (wpAny_pure ?_)))))))
  refine wpAny_bind (HT.slicePart_ (.int (-1) u) ?_)
  show wpAny _ _ (if ((-1 : Int) == 0) = true then _ else _) _ _ _
  rw [if_neg (by decide)]
  refine wpAny_bind (HT.slicePart_ .none (wpAny_bind (HT.slicePart_ .none (wpAny_bind (wpAny_pure ?_)))))
  exact wpAny_pure h
theorem getItem_tuple_rev {t sl : Addr} {items : Array Value} {vl : Value} {u : Tok} {Q : Value → Shared → Prop} (ht : IsTup s.heap t items) (hs : s.heap.IsSliceOf sl .none .none (.int (-1) u))
    (h2 : 2 ≤ items.size) (q : Q (.ref s.heap.objs.size) { s with heap := s.heap.push { cls := .type "tuple", data := .seq items.toList.reverse.toArray } }) (hsz : items.size ≤ sizeLine) :
    wpAny (model prog w) A (getItem (.ref t) (.ref sl)) Q E s := by
  obtain ⟨os, hos, hcs, hds⟩ := id hs
  have hTs : s.TypeIs (.ref sl) "slice" := ⟨os, hos, hcs⟩
  refine wpAny_holding (wpAny_bind (wpAny_sequenceKey ht.typeIs (by decide) (wpAny_bind (wpAny_callSpecial?_slot ht.typeIs slot_tuple_getitem (wpAny_call_entry slot_tuple_getitem ht.typeIs entry_tuple_getitem ?_ (args_tuple_getitem _ _))))))
  show wpAny _ _ (Builtin.Tuple.tupleItemsOf (.ref t) >>= _) _ _ _
  refine wpAny_bind (tupleItemsOf_ ht (wpAny_bind (wpAny_typeOf hTs ?_)))
  rw [if_pos (by decide)]
  refine wpAny_bind (sliceApplied_rev hs ?_)
  have e1 : Builtin.Slice.sliceAdjust none none (-1) (items.size : Nat) = ((items.size : Int) - 1, -1) := rfl
  rw [e1]
  have e2 : Builtin.Slice.slicePlaces ((items.size : Int) - 1) (-1) (-1) = items.size := by
    unfold Builtin.Slice.slicePlaces
    rw [if_neg (by decide), show (- -1 : Int) = 1 from rfl, Int.ediv_one]
    split <;> omega
  rw [e2]
  dsimp only
  rw [if_neg (by simp)]
  rw [pickRev items]
  refine wpAny_bind (wpAny_newObj_type (hd := by show items.toList.reverse.toArray.size ≤ sizeLine; rw [List.size_toArray, List.length_reverse, Array.length_toList]; exact hsz) ?_)
  exact wpAny_pure ⟨_, rfl, wpAny_pure q⟩
/-- e[::-1] of a tuple of two or more -/
def tRevT (K : PySem.W.Frag) (te : TE) : TE := fun σ H Q => te σ H fun x H1 => ∃ t xs, x = .ref t ∧ SqT K H1 t xs ∧ 2 ≤ xs.length ∧ ∀ p, H1 p = none → Q (.ref p) (upd H1 p (.tup xs.reverse))
theorem pe_revT {X : Cx} {e : PySem.Expr} {te : TE} {k : Nat} {p1 p2 p3 pos : Pos} (he : PE X e te) : PE X (.Subscript e (.Slice none none (some (.UnaryOp .USub (.Constant (.int 1) k p1) p2)) p3) pos) (tRevT X.K te) := by
  refine ⟨fun pins s σ H Q I h => ?_⟩
  refine Subscript_ (thn (he.run pins s σ H _ I h) fun v s1 ⟨x, H1, I1, r1, t, xs, ex, ht, hl, q⟩ => ?_)
  subst ex
  obtain rfl : v = Value.ref t := r1
  have hst : PO X (some (.UnaryOp .USub (.Constant (.int 1) k p1) p2)) (tPart (tUn (rU fun i => .int (-i)) (tC (.int 1)))) := po_some (pe_un un_neg pe_int)
  refine wpAny_Slice (thn (po_none.run pins s1 σ H1 (fun o H2 => o = none ∧ H2 = H1) I1 ⟨rfl, rfl⟩) fun vl s2 ⟨l, H2, I2, pl, el, e2⟩ => ?_)
  subst el e2
  cases pl
  refine thn (po_none.run pins s2 σ H2 (fun o H3 => o = none ∧ H3 = H2) I2 ⟨rfl, rfl⟩) fun vu s3 ⟨u, H3, I3, pu, eu, e3⟩ => ?_
  subst eu e3
  cases pu
  refine thn (hst.run pins s3 σ H3 (fun o H4 => o = some (-1) ∧ H4 = H3) I3 ⟨1, rfl, -1, rfl, rfl, rfl⟩) fun vs s4 ⟨o, H4, I4, ps, eo, e4⟩ => ?_
  subst eo e4
  cases ps with
  | int _ u =>
  obtain ⟨h5, eh⟩ : ∃ h5, s4.heap.push { cls := .type "slice", data := .fields #[.none, .none, .int (-1) u] } = h5 := ⟨_, rfl⟩
  have sl5 : h5.IsSliceOf s4.heap.objs.size .none .none (.int (-1) u) := eh ▸ Heap.IsSliceOf.new s4.heap .none .none (.int (-1) u)
  have kp : ∀ (b : Addr) (o : Obj), s4.heap.get? b = some o → h5.get? b = some o := fun b o e => eh ▸ Heap.get?_push_of_some _ e
  have I5 : L2.Inv X pins σ H4 { s4 with heap := h5 } := I4.kept (t' := s4.toks) kp
  rw [eh]
  obtain ⟨its, rv, it, hz⟩ := I5.tuple ht
  have ln : its.length = xs.length := (L2.Vals.length rv).symm
  refine tail_any it.typeIs slot_tuple_getitem.lookup (ops := [.ref t, .ref s4.heap.objs.size]) ?_ (by with_unfolding_all rfl)
  refine getItem_tuple_rev (vl := .none) it sl5 (by rw [List.size_toArray]; omega) ?_ (by rw [List.size_toArray]; omega)
  exact ⟨.ref h5.objs.size, upd H4 h5.objs.size (.tup xs.reverse), I5.laid (t' := s4.toks) (fun b o e => Heap.get?_push_of_some _ e) (Nat.le_refl _) ⟨by rw [List.length_reverse]; omega, its.reverse, rv.reverse, IsTup.new h5 _⟩, rfl, q _ (I5.hok.fresh (Nat.le_refl _))⟩
end
end As

/-! ## G17 -/
namespace As
open PySem PySem.Spec PyProof.Rows L2 TL
open PySem.W (dataLe AllAlike Sortable dataLt alike)
/-! the law's own facts of a row -/
-- rename: _law_facts 1 line
def pendK (ks : List KRow) (rs : List Int) (i : Nat) : List FK := match rs[i]? with | some v => linkK ks rs i v | none => []
theorem rowK_pend {ss : List SRow} {ks : List KRow} {rs : List Int} {i : Nat} {v : Int} {s : SRow} (hv : rs[i]? = some v) (hs : ss[i]? = some s) : rowK ss ks rs i ++ pendK ks rs i ++ onesK s v = rowK ss ks rs (i + 1) := by
  rw [rowK_succ hv]
  unfold addedK pendK
  rw [hv, hs, List.append_assoc]
theorem cut_two {xs : List V} {i : Nat} {u v : V} (hu : xs[i]? = some u) (hv : xs[i + 1]? = some v) : cutV xs (some (0 + (i : Int))) (some (0 + (i : Int) + 2)) = [u, v] := by
  have l2 := (List.getElem?_eq_some_iff.mp hv).1
  unfold cutV
  rw [show (0 : Int) + (i : Int) + 2 = ((i + 2 : Nat) : Int) by omega, show (0 : Int) + (i : Int) = ((i : Nat) : Int) by omega, HT.sIx_nat, HT.sIx_nat, Nat.min_eq_left (by omega), Nat.min_eq_left (by omega), show i + 2 - i = 2 by omega]
  rw [List.drop_eq_getElem_cons (by omega), List.drop_eq_getElem_cons (by omega)]
  have e1 := (List.getElem?_eq_some_iff.mp hu).2
  have e2 := (List.getElem?_eq_some_iff.mp hv).2
  rw [e1, e2]; rfl
section
variable {P : Program} {w : World} {K : PySem.W.Frag} {mg : Str → Option Value} {base : Heap}
def spLRow : Sp := fun vs H Q _ => ∃ (a r : Addr) (ss : List SRow) (ks : List KRow) (rs : List Int), vs = [.ref a, .ref r] ∧ AskAt H a ss ks ∧ H r = some (.tup (rs.map V.int)) ∧ rs.length = ss.length ∧ ss.length ≤ 6 ∧ (∀ s ∈ ss, s.2.2.2.2.length ≤ 100) ∧
  ∀ t (fs : List FRow) H', Same H H' → H' t = some (.lst (fs.map fv)) → (∀ f ∈ fs, FAt H' f) → fs.map (·.2.2) = rowK ss ks rs rs.length → Q (.ref t) H'
abbrev nLRow : List Str := ["asked", "row", "found", "k", "pair", "label"]
theorem sc_lrow : FnScope nLRow ["asked", "row"] (defScope s_lfacts) := ⟨rfl, rfl, rfl, by decide +kernel, rfl, by decide +kernel, by decide +kernel⟩
theorem ok_lrow {f : Addr} {fd : FuncData} (D : Df K mg "_law_facts" s_lfacts ["asked", "row"] f fd) (T : Bi mg) : FnOk P w K mg base CX0 1 f fd ["asked", "row"] spLRow := by
  refine D.F.ok sc_lrow (fun vs H Q E h => ?_) (fun cdv A outer s H vs Q E hr h => ?_)
  · obtain ⟨a, r, ss, ks, rs, rfl, _⟩ := h; rfl
  · obtain ⟨a, r, ss, ks, rs, rfl, x, hr', lrs, l6, l100, q⟩ := h
    refine ⟨_, pss_cons (ps_set (i := 2) sc_lrow.nd rfl (Or.inl rfl) (pe_lst pa_nil))
      (pss_cons (ps_for PassesOwn.never rfl (pi_range1 rfl T.range (pa_cons (pe_callB call_len_seq (by rfl) T.len PySem.boot_len (pa_cons (pv 1) pa_nil)) pa_nil)) (pg_name (i := 3) sc_lrow.nd rfl (Or.inr rfl))
        (pss_cons (ps_expr (pe_bm PySem.F.plainAttrs_list PySem.F.slot_list_extend PySem.F.type_list_extend mt_extend (pv 2) (pa_cons (pe_lc (own := [("label", 5)]) (g := gName 5) (tt := tYes) rfl sc_lrow.nd (pi_tup (pe_ix ix_tup (pe_ix ix_tup (pv 0) (pe_op op_mul pe_int (pv 3)) (fun _ _ => rfl)) pe_int (fun _ _ => rfl)))
            (blkOk_by (N := nLRow) (sc := defScope s_lfacts) (by decide +kernel)) (fun _ _ _ _ _ => pg_name (i := 5) sc_lrow.nd rfl (Or.inl rfl)) (fun _ _ _ _ _ => pts_nil) (fun _ _ _ _ _ => pe_tup (pa_cons (pv 5) (pa_cons (pe_tup (pa_cons (pe_ix (ixT K) (pv 1) (pv 3) (fun _ _ => rfl)) pa_nil)) pa_nil)))) pa_nil)))
        (pss_one (ps_if (pt_cmpR op_lt (pe_op op_add (pv 3) pe_int) (pe_callB call_len_seq (by rfl) T.len PySem.boot_len (pa_cons (pv 1) pa_nil)) (nomark _))
          (pss_cons (ps_set (i := 4) sc_lrow.nd rfl (Or.inl rfl) (pe_slice sl_tupW (pv 1) (po_some (pv 3)) (po_some (pe_op op_add (pv 3) pe_int))))
          (pss_one (ps_expr (pe_bm PySem.F.plainAttrs_list PySem.F.slot_list_append PySem.F.type_list_append mt_append (pv 2) (pa_cons (pe_tup (pa_cons (pe_ix ix_tup (pe_ix ix_tup (pv 0) (pe_op op_add (pe_op op_mul pe_int (pv 3)) pe_int) (fun _ _ => rfl)) pe_int (fun _ _ => rfl))
            (pa_cons (pe_ifExp (pt_cmpR op_eq (pe_ix ix_tup (pe_ix ix_tup (pv 0) (pe_op op_add (pe_op op_mul pe_int (pv 3)) pe_int) (fun _ _ => rfl)) pe_int (fun _ _ => rfl)) pe_int (nomark _)) (pv 4) (pe_revT (pv 4))) pa_nil))) pa_nil))))) pss_nil))))
      (pss_one (ps_ret (pv 2)))), ?_⟩
    have wl : (ss.map sv).length = (ks.map kw).length + 1 := by rw [List.length_map, List.length_map]; exact x.len
    have wn := weave_len wl
    have kl : (ks.map kw).length = ks.length := List.length_map _
    have rl : (rs.map V.int).length = rs.length := List.length_map _
    have xl := x.len
    refine ⟨Nat.zero_le _, fun f nf => ?_⟩
    have s0 : Same H (upd H f (.lst [])) := same_new nf
    have h0 : (upd H f (.lst [])) f = some (.lst []) := upd_same
    generalize upd H f (.lst []) = H0 at s0 h0 ⊢
    refine ⟨_, rfl, r, _, rfl, .inr (tof (s0 _ _ hr')), ?_⟩
    rw [rl]
    refine ⟨_, rfl, by omega, by omega, for_range (lo := 0) (n := rs.length) (fun i σ H' => ∃ (fs : List FRow) (x3 x4 x5 : Option V), σ = [some (.ref a), some (.ref r), some (.ref f), x3, x4, x5] ∧ Same H H' ∧ H' f = some (.lst (fs.map fv)) ∧ (∀ g ∈ fs, FAt H' g) ∧ fs.map (·.2.2) = rowK ss ks rs i ++ pendK ks rs i) ⟨[], none, none, none, rfl, s0, h0, (fun _ z => nomatch z), ?_⟩ ?_ ?_⟩
    · unfold rowK pendK
      cases rs[0]? <;> rfl
    · rintro i σ H1 hi ⟨fs, x3, x4, x5, rfl, s1, h1, fa, key⟩
      obtain ⟨z, hz⟩ : ∃ z, ss[i]? = some z := ⟨ss[i]'(by omega), List.getElem?_eq_getElem (by omega)⟩
      obtain ⟨v, hv⟩ : ∃ v, rs[i]? = some v := ⟨rs[i]'(by omega), List.getElem?_eq_getElem (by omega)⟩
      have zm := List.mem_of_getElem? hz
      have za := (x.s z zm).imm (same_imm s1)
      have ol : (z.2.2.2.2.map V.str).length = z.2.2.2.2.length := List.length_map _
      have g0 : (weave (ss.map sv) (ks.map kw))[2 * i]? = some (sv z) := by rw [weave_even wl, List.getElem?_map, hz]; rfl
      have gv : (rs.map V.int)[i]? = some (.int v) := by rw [List.getElem?_map, hv]; rfl
      have flen : fs.length ≤ 101 * 6 + 1 := by
        have h := congrArg List.length key
        rw [List.length_map, List.length_append] at h
        have h2 := rowK_len (ks := ks) (rs := rs) l100 i
        have h3 : 101 * i ≤ 101 * 6 := Nat.mul_le_mul_left _ (by omega)
        have h4 : (pendK ks rs i).length ≤ 1 := by
          unfold pendK
          rw [hv]
          unfold linkK
          cases i with
          | zero => exact Nat.zero_le _
          | succ j => dsimp only; split <;> simp
        omega
      refine ⟨_, rfl, .inl ⟨rfl, _, lof h1⟩, _, rfl, _, rfl, 2, 0 + (i : Int), rfl, rfl, .inl ⟨by decide, by decide⟩, a, _, 2 * (0 + (i : Int)), sv z, rfl, rfl, tof (s1 _ _ x.h), atI_lt (by omega) (by omega) (by rw [show (2 * (0 + (i : Int))).toNat = 2 * i by omega]; exact g0), ?_⟩
      refine ⟨z.1, _, 2, .ref z.2.2.2.1, rfl, rfl, tof za.1, rfl, z.2.2.2.1, rfl, ⟨_, tof za.2.2⟩, fun D nD => ?_⟩
      refine lc_new (H1 := H1) (walk_atT (K := K) (a := z.2.2.2.1) (xs := z.2.2.2.2.map V.str) .non) nD (fun H2 s2 => tof (s2 _ _ za.2.2)) (by rw [ol]; exact Nat.lt_of_le_of_lt (l100 z zm) (by decide)) (fun n acc H' => ∃ gs : List FRow, acc = gs.map fv ∧ (∀ g ∈ gs, FAt H' g) ∧ gs.map (·.2.2) = (z.2.2.2.2.take n).map fun o => ((o, [v]) : FK))
        ⟨[], rfl, (fun _ z => nomatch z), rfl⟩ (fun n acc H H' im ⟨gs, e, fa, k⟩ => ⟨gs, e, fun g hg => (fa g hg).imm im, k⟩) (fun n H2 acc Q1 Q2 hn s2 ⟨gs, e, fa, k⟩ k1 k2 => ?_) (fun H2 acc s2 hD2 ⟨gs, e, fg, k⟩ => ?_)
      · rw [ol] at hn
        have hx : z.2.2.2.2[n]? = some z.2.2.2.2[n] := List.getElem?_eq_getElem hn
        rw [getD_map' hx]
        subst e
        refine ⟨rfl, ?_⟩
        refine iteT (B := Q2 H2) ?_
        refine ⟨_, rfl, _, rfl, _, rfl, r, _, 0 + (i : Int), .int v, rfl, rfl, tof ((s1.trans s2) _ _ hr'), atI_lt (by omega) (by omega) (by rw [show (0 + (i : Int)).toNat = i by omega]; exact gv), by show 1 ≤ sizeLine; decide, fun t1 n1 => ⟨by show 2 ≤ sizeLine; decide, fun t2 n2 => ?_⟩⟩
        refine k1 _ _ ((same_new n1).trans (same_new n2)) ⟨gs ++ [(t2, t1, z.2.2.2.2[n], [v])], by rw [List.map_append]; rfl, fun g hg => ?_, by rw [List.map_append, k, List.take_succ, hx, List.map_append]; rfl⟩
        rcases List.mem_append.mp hg with hg | hg
        · exact ((fa g hg).imm (imm_new n1)).imm (imm_new n2)
        · rw [List.mem_singleton] at hg; subst hg
          exact ⟨upd_same, same_new n2 _ _ upd_same⟩
      subst e
      rw [ol, List.take_length] at k
      have gl : gs.length ≤ 100 := by
        have h := congrArg List.length k
        rw [List.length_map, List.length_map] at h
        have := l100 z zm
        omega
      have s12 := s1.trans s2
      have hf2 := s2 _ _ h1
      refine ⟨f, D, fs.map fv, gs.map fv, rfl, rfl, hf2, hD2, ?_, ?_⟩
      · rw [List.length_map, List.length_map]; exact Nat.le_trans (show _ ≤ 707 by omega) (by decide)
      have s3 : Same H (upd H2 f (.lst (fs.map fv ++ gs.map fv))) := same_mut s12 nf
      have im3 : Imm H2 (upd H2 f (.lst (fs.map fv ++ gs.map fv))) := imm_lst' hf2
      have h3 : (upd H2 f (.lst (fs.map fv ++ gs.map fv))) f = some (.lst ((fs ++ gs).map fv)) := by rw [upd_same, List.map_append]
      generalize upd H2 f (.lst (fs.map fv ++ gs.map fv)) = H3 at s3 im3 h3 ⊢
      have fat3 : ∀ g ∈ fs ++ gs, FAt H3 g := fun g hg => by
        rcases List.mem_append.mp hg with hg | hg
        · exact ((fa g hg).imm (same_imm s2)).imm im3
        · exact (fg g hg).imm im3
      have key3 : (fs ++ gs).map (·.2.2) = rowK ss ks rs (i + 1) := by
        rw [List.map_append, key, k]
        exact rowK_pend hv hz
      have flen3 : (fs ++ gs).length ≤ 707 := by rw [List.length_append]; omega
      generalize fs ++ gs = fs3 at h3 fat3 key3 flen3
      refine ⟨_, rfl, 0 + (i : Int), 1, rfl, rfl, _, rfl, r, _, rfl, .inr (tof (s3 _ _ hr')), _, _, rfl, rfl, _, rfl, ite2 (fun h => ?_) (fun h => ?_)⟩
      · have hlt : i + 1 < rs.length := by
          have := of_decide_eq_true h
          rw [rl] at this; omega
        obtain ⟨v2, hv2⟩ : ∃ u, rs[i + 1]? = some u := ⟨rs[i + 1], List.getElem?_eq_getElem hlt⟩
        obtain ⟨y, hy⟩ : ∃ y, ks[i]? = some y := ⟨ks[i]'(by omega), List.getElem?_eq_getElem (by omega)⟩
        have gv2 : (rs.map V.int)[i + 1]? = some (.int v2) := by rw [List.getElem?_map, hv2]; rfl
        have ya := s3 _ _ (x.k y (List.mem_of_getElem? hy))
        have gy : (weave (ss.map sv) (ks.map kw))[2 * i + 1]? = some (kw y) := by rw [weave_odd wl, List.getElem?_map, hy]; rfl
        refine seq_mid (t := tAsg _ _) (fun σ' H4 => ∃ (pr : Addr) (x5 : Option V), σ' = [some (.ref a), some (.ref r), some (.ref f), some (.int (0 + (i : Int))), some (.ref pr), x5] ∧ Same H3 H4 ∧ H4 pr = some (.tup [.int v, .int v2])) (fun D' kk => ?_) (fun σ' H4 rr => ?_)
        · refine ⟨_, rfl, _, rfl, 0 + (i : Int), rfl, _, rfl, 0 + (i : Int), 2, rfl, rfl, _, rfl, r, _, rfl, tof (s3 _ _ hr'), ?_⟩
          by_cases hw : HT.sIx (rs.map V.int).length 0 (some (0 + (i : Int))) = 0 ∧ HT.sIx (rs.map V.int).length (rs.map V.int).length (some (0 + (i : Int) + 2)) = (rs.map V.int).length
          · refine .inl ⟨hw.1, hw.2, kk _ _ ⟨r, _, rfl, Same.refl _, ?_⟩⟩
            rw [s3 _ _ hr', ← cut_two gv gv2]
            unfold cutV
            rw [hw.1, hw.2, List.drop_zero, Nat.sub_zero, List.take_length]
          · refine .inr ⟨hw, fun p np => ?_⟩
            rw [cut_two gv gv2]
            exact kk _ _ ⟨p, _, rfl, same_new np, upd_same⟩
        · obtain ⟨pr, x5, rfl, s4, hp⟩ := rr
          have ya4 := s4 _ _ ya
          have hf4 := s4 _ _ h3
          have x4 := (s3.trans s4) _ _ x.h
          have fin : ∀ (pq : Addr) (vals : List Int) (H5 : Hp), Same H4 H5 → H5 pq = some (.tup (vals.map V.int)) → vals = order2 y.2.2 v v2 → ∀ t2, H5 t2 = none → ∃ acc, (upd H5 t2 (.tup [.str y.2.1, .ref pq])) f = some (.lst acc) ∧ acc.length < sizeLine ∧
              ∃ (fs : List FRow) (y3 y4 y5 : Option V), [some (V.ref a), some (V.ref r), some (V.ref f), some (V.int (0 + (i : Int))), some (V.ref pr), x5] = [some (.ref a), some (.ref r), some (.ref f), y3, y4, y5] ∧ Same H (upd (upd H5 t2 (.tup [.str y.2.1, .ref pq])) f (.lst (acc ++ [V.ref t2]))) ∧ (upd (upd H5 t2 (.tup [.str y.2.1, .ref pq])) f (.lst (acc ++ [V.ref t2]))) f = some (.lst (fs.map fv)) ∧ (∀ g ∈ fs, FAt (upd (upd H5 t2 (.tup [.str y.2.1, .ref pq])) f (.lst (acc ++ [V.ref t2]))) g) ∧ fs.map (·.2.2) = rowK ss ks rs (i + 1) ++ pendK ks rs (i + 1) := by
            intro pq vals H5 s5 hq ev t2 n2
            have s6 : Same H5 (upd H5 t2 (.tup [.str y.2.1, .ref pq])) := same_new n2
            have h6 := s6 _ _ (s5 _ _ hf4)
            refine ⟨fs3.map fv, h6, by rw [List.length_map]; exact Nat.lt_of_le_of_lt flen3 (by decide), fs3 ++ [(t2, pq, y.2.1, vals)], _, _, _, rfl, same_mut ((s3.trans s4).trans (s5.trans s6)) nf, by rw [upd_same, List.map_append]; rfl, fun g hg => ?_, ?_⟩
            · rcases List.mem_append.mp hg with hg | hg
              · exact ((fat3 g hg).imm (same_imm (s4.trans (s5.trans s6)))).imm (imm_lst' h6)
              · rw [List.mem_singleton] at hg; subst hg
                have hh : FAt (upd H5 t2 (.tup [.str y.2.1, .ref pq])) (t2, pq, y.2.1, vals) := ⟨upd_same, s6 _ _ hq⟩
                exact hh.imm (imm_lst' h6)
            · rw [List.map_append, key3]
              unfold pendK
              rw [hv2]
              simp [linkK, hy, hv, ev]
          have t1 : (2 * (0 + (i : Int)) + 1).toNat = 2 * i + 1 := by omega
          refine ⟨_, rfl, .inl ⟨rfl, _, lof hf4⟩, _, rfl, _, rfl, 2, 0 + (i : Int), rfl, rfl, .inl ⟨by decide, by decide⟩, 2 * (0 + (i : Int)), 1, rfl, rfl, a, _, 2 * (0 + (i : Int)) + 1, kw y, rfl, rfl, tof x4, atI_lt (by omega) (by omega) (by rw [t1]; exact gy), y.1, _, 0, .str y.2.1, rfl, rfl, tof ya4, rfl, ?_⟩
          refine ⟨_, rfl, _, rfl, 2, 0 + (i : Int), rfl, rfl, .inl ⟨by decide, by decide⟩, 2 * (0 + (i : Int)), 1, rfl, rfl, a, _, 2 * (0 + (i : Int)) + 1, kw y, rfl, rfl, tof x4, atI_lt (by omega) (by omega) (by rw [t1]; exact gy), y.1, _, 1, .int y.2.2, rfl, rfl, tof ya4, rfl, rfl, _, rfl, ite2 (fun hw => ?_) (fun hw => ?_)⟩
          · have w0 : y.2.2 = 0 := by have := of_decide_eq_true hw; injection this
            refine ⟨_, rfl, by show 2 ≤ sizeLine; decide, fun t2 n2 => ?_⟩
            obtain ⟨acc, e1, e2, e3⟩ := fin pr [v, v2] H4 (Same.refl _) hp (by unfold order2; rw [if_pos w0]) t2 n2
            exact ⟨f, acc, .ref t2, rfl, rfl, e1, e2, e3⟩
          · have w0 : ¬ y.2.2 = 0 := fun z => hw (decide_eq_true (by rw [z]))
            refine ⟨_, rfl, pr, _, rfl, tof hp, by show 2 ≤ 2; decide, fun p np => ⟨by show 2 ≤ sizeLine; decide, fun t2 n2 => ?_⟩⟩
            obtain ⟨acc, e1, e2, e3⟩ := fin p [v2, v] _ (same_new np) upd_same (by unfold order2; rw [if_neg w0]) t2 n2
            exact ⟨f, acc, .ref t2, rfl, rfl, e1, e2, e3⟩
      · have hge : ¬ i + 1 < rs.length := fun z => h (decide_eq_true (by rw [rl]; omega))
        refine ⟨fs3, _, _, _, rfl, s3, h3, fat3, ?_⟩
        unfold pendK
        rw [key3, List.getElem?_eq_none (by omega), List.append_nil]
    · rintro σ H1 ⟨fs, x3, x4, x5, rfl, s1, h1, fa, key⟩
      refine ⟨_, rfl, q f fs H1 s1 h1 fa ?_⟩
      rw [key]
      unfold pendK
      rw [List.getElem?_eq_none (Nat.le_refl _), List.append_nil]
end
end As

/-! ## G18 -/
namespace As
open PySem PySem.Spec PyProof.Rows L2 TL
open PySem.W (dataLe AllAlike Sortable dataLt alike)
/-! the law's own ask: what holds while it is made -/
theorem weave_s {α : Type} : ∀ {xs ys : List α} {s : α}, xs.length = ys.length → weave (xs ++ [s]) ys = weave xs ys ++ [s]
  | [], [], _, _ => rfl
  | x :: xs, y :: ys, s, h => by
    show x :: y :: weave (xs ++ [s]) ys = x :: y :: (weave xs ys ++ [s])
    rw [weave_s (by simpa using h)]
  | [], y :: ys, _, h => by simp at h
  | x :: xs, [], _, h => by simp at h
theorem weave_k {α : Type} : ∀ {xs ys : List α} {k : α}, xs.length = ys.length + 1 → weave xs (ys ++ [k]) = weave xs ys ++ [k]
  | [x], [], _, _ => rfl
  | x :: xs, y :: ys, k, h => by
    show x :: y :: weave xs (ys ++ [k]) = x :: y :: (weave xs ys ++ [k])
    rw [weave_k (by simpa using h)]
  | [], _, _, h => by simp at h
  | x :: x2 :: xs, [], _, h => by simp at h
theorem strLt_iff {a b : Str} : strLt a b ↔ a.cps.toList < b.cps.toList := by
  unfold strLt
  rw [PySem.W.dataLt_str]
  exact ⟨of_decide_eq_true, decide_eq_true⟩
theorem str_ext {a b : Str} (h : a.cps.toList = b.cps.toList) : a = b := by
  cases a; cases b; congr 1; exact Array.toList_inj.mp h
def sortS (l : List Str) : List Str := l.mergeSort (dataLe false PyData.str)
theorem sortS_perm (l : List Str) : (sortS l).Perm l := List.mergeSort_perm _ _
theorem sortS_up {l : List Str} (nd : l.Nodup) : (sortS l).Pairwise strLt := by
  have h : (sortS l).Pairwise fun a b => a.cps.toList ≤ b.cps.toList := by
    unfold sortS
    have e : dataLe false PyData.str = fun a b : Str => decide (a.cps.toList ≤ b.cps.toList) := PySem.W.dataLe_str (fun z : Str => z)
    rw [e]
    have := List.pairwise_mergeSort (le := fun a b : Str => decide (a.cps.toList ≤ b.cps.toList)) (fun a b c h1 h2 => decide_eq_true (List.le_trans (of_decide_eq_true h1) (of_decide_eq_true h2))) (fun a b => by
      rcases List.le_total a.cps.toList b.cps.toList with h | h
      · rw [decide_eq_true h]; rfl
      · rw [decide_eq_true h, Bool.or_true]) l
    exact this.imp fun h => of_decide_eq_true h
  have n2 : (sortS l).Nodup := (sortS_perm l).nodup_iff.mpr nd
  have := List.Pairwise.and h n2
  refine this.imp fun {a b} z => strLt_iff.mpr ?_
  rcases List.le_iff_lt_or_eq.mp z.1 with y | y
  · exact y
  · exact absurd (str_ext y) z.2
def TAt (H : Hp) (r : TRow) : Prop := H r.1 = some (.tup [.str r.2.1, .ref r.2.2.1]) ∧ H r.2.2.1 = some (.tup (r.2.2.2.map V.str))
theorem TAt.imm {H H' : Hp} {r : TRow} (h : TAt H r) (e : Imm H H') : TAt H' r := ⟨e _ _ h.1, e _ _ h.2⟩
/-- a list that is known may grow -/
theorem Gd.put {a c : Addr} {B H : Hp} {p : Addr} {xs ys : List V} (g : Gd a c B H) (h : B p = some (.lst xs)) : Gd a c (upd B p (.lst ys)) (upd H p (.lst ys)) := by
  have pa : p ≠ a := ne_of_none h g.na
  have pc : p ≠ c := ne_of_none h g.nc
  refine ⟨fun b u e => ?_, ?_, ?_, ?_⟩
  · by_cases q : b = p
    · subst q; rw [upd_same] at e ⊢; exact e
    · rw [upd_ne q] at e ⊢; exact g.ex b u e
  · rw [upd_ne pa.symm]; exact g.na
  · rw [upd_ne pc.symm]; exact g.nc
  · obtain ⟨i, z, cs, n, e1, e2, r⟩ := g.st
    exact ⟨i, z, cs, n, by rw [upd_ne pa.symm]; exact e1, by rw [upd_ne pc.symm]; exact e2, r⟩
/-- what an ask in the making keeps: labels left, tables, stops, links -/
structure CI (cs : List CRow) (path ws : List Str) (ls : List Str) (ts : List TRow) (ss : List SRow) (ks : List KRow) : Prop where
  names : ts.map (·.2.1) ++ ls = ws
  cols : ss.map (·.2.1) = path.take ss.length
  lot : ∀ s ∈ ss, ∀ x, s.2.2.1 = some x → LotOk cs s.2.1 x.2
  up : ∀ s ∈ ss, s.2.2.2.2.Pairwise strLt
  own : ∀ s ∈ ss, ∀ o ∈ s.2.2.2.2, ∃ r ∈ ts, r.2.1 = o ∧ r.2.2.2 = [s.2.1]
  few : ∀ s ∈ ss, s.2.2.2.2.length ≤ 2
  links : ∀ (j : Nat) k, ks[j]? = some k → (k.2.2 = 0 ∨ k.2.2 = 1) ∧ ∃ r ∈ ts, r.2.1 = k.2.1 ∧ ∃ b a, path[j]? = some b ∧ path[j + 1]? = some a ∧ r.2.2.2 = order2 k.2.2 b a
  nd : (namesOf ss ks).Nodup
  sub : ∀ o ∈ namesOf ss ks, o ∈ ts.map (·.2.1)
  two : ∀ r ∈ ts, 1 ≤ r.2.2.2.length ∧ r.2.2.2.length ≤ 2
  part : ∀ r ∈ ts, ∀ x ∈ r.2.2.2, x ∈ cs.map (·.2.1)
theorem CI.fresh {cs : List CRow} {path ws ls : List Str} {ts : List TRow} {ss : List SRow} {ks : List KRow} (h : CI cs path ws ls ts ss ks) (nd : ws.Nodup) {o : Str} (ho : o ∈ ls) : o ∉ namesOf ss ks := fun z => by
  have h1 := h.sub o z
  rw [← h.names, List.nodup_append] at nd
  exact nd.2.2 o h1 o ho rfl
theorem CI.start {cs : List CRow} {path ws : List Str} : CI cs path ws ws [] [] [] :=
  ⟨rfl, rfl, (fun _ z => nomatch z), (fun _ z => nomatch z), (fun _ z => nomatch z), (fun _ z => nomatch z), (fun j k h => by simp at h), List.nodup_nil, (fun _ z => by simp [namesOf] at z), (fun _ z => nomatch z), fun _ z => nomatch z⟩
/-- a stop more -/
theorem CI.stop {cs : List CRow} {path ws ls os : List Str} {ts rs : List TRow} {ss : List SRow} {ks : List KRow} {s : SRow} (h : CI cs path ws (os ++ ls) ts ss ks) (nd : ws.Nodup) (hp : path[ss.length]? = some s.2.1) (hc : s.2.1 ∈ cs.map (·.2.1))
    (hr : rs.map (·.2.1) = os) (hq : ∀ r ∈ rs, r.2.2.2 = [s.2.1]) (hs : s.2.2.2.2 = sortS os) (o2 : os.length ≤ 2) (hl : ∀ x, s.2.2.1 = some x → LotOk cs s.2.1 x.2) : CI cs path ws ls (ts ++ rs) (ss ++ [s]) ks := by
  have on : os.Nodup := by
    have := h.names ▸ nd
    rw [List.nodup_append, List.nodup_append] at this
    exact this.2.1.1
  have sp := sortS_perm os
  refine ⟨by rw [List.map_append, hr, List.append_assoc]; exact h.names, ?_, fun z hz => ?_, fun z hz => ?_, fun z hz o ho => ?_, fun z hz => ?_, fun j k e => ?_, ?_, fun o ho => ?_, fun r hm => ?_, fun r hm x hx => ?_⟩
  · rw [List.map_append, h.cols, List.length_append, List.length_singleton, List.take_succ, hp]; rfl
  · rcases List.mem_append.mp hz with hz | hz
    · exact h.lot z hz
    · rw [List.mem_singleton] at hz; subst hz; exact hl
  · rcases List.mem_append.mp hz with hz | hz
    · exact h.up z hz
    · rw [List.mem_singleton] at hz; subst hz; rw [hs]; exact sortS_up on
  · rcases List.mem_append.mp hz with hz | hz
    · obtain ⟨r, hr, e⟩ := h.own z hz o ho
      exact ⟨r, List.mem_append_left _ hr, e⟩
    · rw [List.mem_singleton] at hz; subst hz
      rw [hs, sp.mem_iff, ← hr] at ho
      obtain ⟨r, hr, e⟩ := List.mem_map.mp ho
      exact ⟨r, List.mem_append_right _ hr, e, hq r hr⟩
  · rcases List.mem_append.mp hz with hz | hz
    · exact h.few z hz
    · rw [List.mem_singleton] at hz; subst hz; rw [hs, sp.length_eq]; exact o2
  · obtain ⟨w, r, hr, e⟩ := h.links j k e
    exact ⟨w, r, List.mem_append_left _ hr, e⟩
  · have e : (namesOf (ss ++ [s]) ks).Perm (namesOf ss ks ++ sortS os) := by
      unfold namesOf
      rw [List.flatMap_append, List.append_assoc, List.append_assoc]
      refine List.Perm.append_left _ ?_
      show (([s].flatMap fun z : SRow => z.2.2.2.2) ++ _).Perm _
      rw [List.flatMap_cons, List.flatMap_nil, List.append_nil, hs]
      exact List.perm_append_comm
    rw [e.nodup_iff, List.nodup_append]
    refine ⟨h.nd, sp.nodup_iff.mpr on, fun a ha b hb z => ?_⟩
    rw [sp.mem_iff] at hb
    exact h.fresh nd (List.mem_append_left _ hb) (z ▸ ha)
  · unfold namesOf at ho
    rw [List.flatMap_append, List.mem_append, List.mem_append] at ho
    rw [List.map_append, List.mem_append, hr]
    rcases ho with (ho | ho) | ho
    · exact .inl (h.sub o (List.mem_append_left _ ho))
    · rw [List.flatMap_cons, List.flatMap_nil, List.append_nil, hs, sp.mem_iff] at ho
      exact .inr ho
    · exact .inl (h.sub o (List.mem_append_right _ ho))
  · rcases List.mem_append.mp hm with hm | hm
    · exact h.two r hm
    · rw [hq r hm]; exact ⟨Nat.le_refl _, by show 1 ≤ 2; decide⟩
  · rcases List.mem_append.mp hm with hm | hm
    · exact h.part r hm x hx
    · rw [hq r hm, List.mem_singleton] at hx; rw [hx]; exact hc
/-- a link more -/
theorem CI.link {cs : List CRow} {path ws ls : List Str} {l b a : Str} {ts : List TRow} {ss : List SRow} {ks : List KRow} {r : TRow} {k : KRow} (h : CI cs path ws (l :: ls) ts ss ks) (nd : ws.Nodup) (hb : path[ks.length]? = some b) (ha : path[ks.length + 1]? = some a)
    (cb : b ∈ cs.map (·.2.1)) (ca : a ∈ cs.map (·.2.1)) (hk : k.2.1 = l) (hr : r.2.1 = l) (hw : k.2.2 = 0 ∨ k.2.2 = 1) (hq : r.2.2.2 = order2 k.2.2 b a) : CI cs path ws ls (ts ++ [r]) ss (ks ++ [k]) := by
  refine ⟨by rw [List.map_append, List.append_assoc]; show _ ++ (r.2.1 :: ls) = _; rw [hr]; exact h.names, h.cols, h.lot, h.up, fun z hz o ho => ?_, h.few, fun j k' e => ?_, ?_, fun o ho => ?_, fun r' hm => ?_, fun r' hm x hx => ?_⟩
  · obtain ⟨r', hr', e⟩ := h.own z hz o ho
    exact ⟨r', List.mem_append_left _ hr', e⟩
  · by_cases hj : j < ks.length
    · rw [List.getElem?_append_left hj] at e
      obtain ⟨w, r', hr', e⟩ := h.links j k' e
      exact ⟨w, r', List.mem_append_left _ hr', e⟩
    · have e0 := (List.getElem?_eq_some_iff.mp e).1
      rw [List.length_append, List.length_singleton] at e0
      have ej : j = ks.length := by omega
      subst ej
      rw [List.getElem?_concat_length] at e
      cases e
      exact ⟨hw, r, List.mem_append_right _ (List.mem_singleton.mpr rfl), by rw [hr, hk], b, a, hb, ha, hq⟩
  · have e : namesOf ss (ks ++ [k]) = namesOf ss ks ++ [l] := by
      unfold namesOf; rw [List.map_append, ← List.append_assoc]; show _ ++ [k.2.1] = _; rw [hk]
    rw [e, List.nodup_append]
    refine ⟨h.nd, by simp, fun x hx y hy z => ?_⟩
    rw [List.mem_singleton] at hy
    exact h.fresh nd (List.mem_cons_self) (by rw [← hy, ← z]; exact hx)
  · unfold namesOf at ho
    rw [List.map_append, ← List.append_assoc, List.mem_append] at ho
    rw [List.map_append, List.mem_append]
    rcases ho with ho | ho
    · exact .inl (h.sub o ho)
    · rw [List.map_singleton, List.mem_singleton] at ho
      refine .inr ?_
      rw [List.map_singleton, List.mem_singleton, ho, hk, hr]
  · rcases List.mem_append.mp hm with hm | hm
    · exact h.two r' hm
    · rw [List.mem_singleton] at hm; subst hm; rw [hq]; unfold order2; split <;> exact ⟨by show 1 ≤ 2; decide, Nat.le_refl _⟩
  · rcases List.mem_append.mp hm with hm | hm
    · exact h.part r' hm x hx
    · rw [List.mem_singleton] at hm; subst hm
      have hx' : x = b ∨ x = a := by
        rw [hq] at hx; unfold order2 at hx
        split at hx <;> simp at hx <;> rcases hx with h | h <;> simp [h]
      rcases hx' with rfl | rfl
      · exact cb
      · exact ca
/-- a table more -/
theorem CI.more {cs : List CRow} {path ws ls : List Str} {l : Str} {ts : List TRow} {ss : List SRow} {ks : List KRow} {r : TRow} (h : CI cs path ws (l :: ls) ts ss ks) (hr : r.2.1 = l) (r2 : 1 ≤ r.2.2.2.length ∧ r.2.2.2.length ≤ 2) (rp : ∀ x ∈ r.2.2.2, x ∈ cs.map (·.2.1)) :
    CI cs path ws ls (ts ++ [r]) ss ks := by
  refine ⟨by rw [List.map_append, List.append_assoc]; show _ ++ (r.2.1 :: ls) = _; rw [hr]; exact h.names, h.cols, h.lot, h.up, fun z hz o ho => ?_, h.few, fun j k' e => ?_, h.nd, fun o ho => ?_, fun r' hm => ?_, fun r' hm x hx => ?_⟩
  · obtain ⟨r', hr', e⟩ := h.own z hz o ho
    exact ⟨r', List.mem_append_left _ hr', e⟩
  · obtain ⟨w, r', hr', e⟩ := h.links j k' e
    exact ⟨w, r', List.mem_append_left _ hr', e⟩
  · rw [List.map_append, List.mem_append]; exact .inl (h.sub o ho)
  · rcases List.mem_append.mp hm with hm | hm
    · exact h.two r' hm
    · rw [List.mem_singleton] at hm; subst hm; exact r2
  · rcases List.mem_append.mp hm with hm | hm
    · exact h.part r' hm x hx
    · rw [List.mem_singleton] at hm; subst hm; exact rp x hx
theorem tabOf_mem {ts : List TRow} (nd : (ts.map (·.2.1)).Nodup) {r : TRow} (hr : r ∈ ts) : tabOf ts r.2.1 = some r := by
  unfold tabOf
  induction ts with
  | nil => cases hr
  | cons x t ih =>
    rw [List.map_cons, List.nodup_cons] at nd
    rw [List.find?_cons]
    rcases List.mem_cons.mp hr with e | e
    · subst e; simp
    · have ne : ¬ x.2.1 = r.2.1 := fun q => nd.1 (q ▸ List.mem_map.mpr ⟨r, e, rfl⟩)
      rw [decide_eq_false ne]
      exact ih nd.2 e
/-- what is made is an ask of the plan with the tables in any order -/
theorem CI.ok {cs : List CRow} {path ws ls : List Str} {ts ts' : List TRow} {ss : List SRow} {ks : List KRow} (h : CI cs path ws ls ts ss ks) (nd : ws.Nodup) (pm : ts'.Perm ts) (l6 : ss.length ≤ 6) (pc : ∀ x ∈ path, x ∈ cs.map (·.2.1)) : AskOk cs ts' ss ks := by
  have tn : (ts'.map (·.2.1)).Nodup := by
    rw [(pm.map _).nodup_iff]
    rw [← h.names, List.nodup_append] at nd
    exact nd.1
  have cl : ∀ (i : Nat) (s : SRow), ss[i]? = some s → path[i]? = some s.2.1 := fun i s e => by
    have hi := (List.getElem?_eq_some_iff.mp e).1
    have := congrArg (fun l => l[i]?) h.cols
    rw [List.getElem?_map, e, List.getElem?_take, if_pos hi] at this
    exact this.symm
  refine ⟨l6, fun s hs => ⟨?_, h.lot s hs, ⟨h.up s hs, fun o ho => ?_, by have := h.few s hs; omega⟩⟩, fun i k s z hk hs hz => ?_, h.nd⟩
  · obtain ⟨i, hi⟩ := List.mem_iff_getElem?.mp hs
    exact pc _ (List.mem_of_getElem? (cl i s hi))
  · obtain ⟨r, hr, e, q⟩ := h.own s hs o ho
    exact ⟨r, by rw [← e]; exact tabOf_mem tn (pm.mem_iff.mpr hr), q⟩
  · obtain ⟨w, r, hr, e, b, a, hb, ha, q⟩ := h.links i k hk
    have h1 := cl i s hs
    have h2 := cl (i + 1) z hz
    rw [hb] at h1; rw [ha] at h2
    cases h1; cases h2
    exact ⟨w, r, by rw [← e]; exact tabOf_mem tn (pm.mem_iff.mpr hr), q⟩
/-- rising numbers below n are at most n -/
theorem up_len : ∀ {ns : List Int} {m n : Int}, ns.Pairwise (fun a b => a < b) → (∀ v ∈ ns, m ≤ v ∧ v < n) → m ≤ n → (ns.length : Int) ≤ n - m
  | [], m, n, _, _, h => by show (0 : Int) ≤ n - m; omega
  | v :: ns, m, n, u, o, _ => by
    rw [List.pairwise_cons] at u
    have hv := o v List.mem_cons_self
    have := up_len (m := v + 1) (n := n) u.2 (fun x hx => ⟨by have := u.1 x hx; omega, (o x (List.mem_cons_of_mem _ hx)).2⟩) (by omega)
    rw [List.length_cons]; omega
end As

/-! ## A15 -/
set_option maxHeartbeats 2000000
namespace As
open PySem PySem.Spec PyProof.Rows L2
theorem tuple_mul1 (l : Addr) (items : Array Value) (n : Nat) (dd : Option Addr) (sl : Array (Option Value)) (u : Tok) :
    Meets (Builtin.«tuple.__mul__» ⟨[.ref l, .int 1 u], []⟩) (fun _ R s => s.heap.get? l = some { cls := .type "tuple", dict := dd, data := .seq items n, slots := sl } ∧
      R (.ok (.ret (Value.ref l))) s) :=
  .of_wp fun prog w A R s h => by
    obtain ⟨hp, g, d, tk, os⟩ := s
    obtain ⟨hl, h⟩ := h
    have f1 := AutoSeq1.idx_int
    wp_walk using wpAny_loadPart' hl
    repeat (first
      | (refine wpAny_ite_false (decide_eq_false (by decide)) ?_; wp_walk using wpAny_loadPart' hl)
      | (refine wpAny_ite_true (decide_eq_true (by simp)) ?_; wp_walk using wpAny_loadPart' hl))
    exact ⟨_, rfl, h⟩
def rRepT1 (K : PySem.W.Frag) : R2 := fun x y H Q => ∃ l xs, x = .ref l ∧ y = .int 1 ∧ SqT K H l xs ∧ Q (.ref l) H
theorem op_repT1 {X : Cx} : OpR X (binaryOp .Mult) (rRepT1 X.K) := by
  intro pins s σ H x y v u Q I rx ry h
  obtain ⟨l, xs, rfl, rfl, hT, q⟩ := h
  cases rx
  obtain ⟨t, rfl⟩ := ry
  obtain ⟨its, r, ⟨⟨cls, dd, data, sl⟩, ho, hc, n, hd⟩, hs⟩ := I.tuple hT
  simp only at hc hd
  subst hc hd
  refine wpAny_binaryOp_repeat_ref (T := "tuple") (U := "int") (by decide) ⟨_, ho, rfl⟩ (fun s' => typeIs_int s' 1 t) noFill_tuple_mul F.fills_int_mul F.slot_int_rmul repeat_tuple F.slot_int_index.lookup
    (call_meets F.slot_int_rmul (typeIs_int s 1 t) F.entry_int_rmul (F.args_int_rmul_2 _ _) (int_rmul_tuple 1 t l its.toArray n dd sl)
      ⟨ho, rfl, ⟨_, ho, rfl⟩, call_meets F.slot_tuple_mul ⟨_, ho, rfl⟩ F.entry_tuple_mul (F.args_tuple_mul_2 _ _) (tuple_mul1 l its.toArray n dd sl t) ⟨ho, ?_⟩⟩)
  exact ⟨.ref l, H, I, rfl, q⟩
end As

/-! ## B11p -/
namespace As
open PySem PySem.Spec PyProof.Rows L2
theorem ne_lst {B : Hp} {D b : Addr} {acc : List V} {o : HO} (hD : B D = some (.lst acc)) (h : B b = some o) (n : ∀ xs, o ≠ .lst xs) : b ≠ D := fun e => by
  subst e; rw [hD] at h; injection h with h; exact n _ h.symm
theorem rem_tup {B : Hp} {D b : Addr} {acc xs : List V} (hD : B D = some (.lst acc)) (h : B b = some (.tup xs)) : rem B D b = some (.tup xs) := by
  rw [rem_ne (ne_lst hD h (fun _ z => nomatch z))]; exact h
theorem getD_str {ws : List Str} {i : Nat} (h : i < ws.length) : (ws.map V.str).getD i .non = .str ws[i] := by
  rw [List.getD_eq_getElem?_getD, List.getElem?_map, List.getElem?_eq_getElem h]; rfl
end As

/-! ## C9 -/
namespace As
open PySem PySem.Spec PyProof.Rows L2
open PySem.W (alike alikeAll)
theorem perm_rows {ρ : Type} {f : ρ → V} {ys zs : List V} (p : ys.Perm zs) : ∀ rs : List ρ, zs = rs.map f → ∃ rs' : List ρ, rs'.Perm rs ∧ ys = rs'.map f := by
  induction p with
  | nil =>
    intro rs e
    cases rs with
    | nil => exact ⟨[], .refl _, rfl⟩
    | cons => cases e
  | cons x _ ih =>
    intro rs e
    cases rs with
    | nil => cases e
    | cons r t =>
      injection e with e1 e2
      obtain ⟨rs', p', e'⟩ := ih t e2
      exact ⟨r :: rs', p'.cons r, by rw [e1, e']; rfl⟩
  | swap x y l =>
    intro rs e
    match rs, e with
    | r :: u :: t, e =>
      injection e with e1 e2
      injection e2 with e2 e3
      exact ⟨u :: r :: t, .swap r u t, by rw [e1, e2, e3]; rfl⟩
  | trans _ _ ih1 ih2 =>
    intro rs e
    obtain ⟨rs', p', e'⟩ := ih2 rs e
    obtain ⟨rs'', p'', e''⟩ := ih1 rs' e'
    exact ⟨rs'', p''.trans p', e''⟩

theorem make_plan {K : PySem.W.Frag} {H : Hp} {C x dx a b : Addr} {cs : List CRow} {ts : List TRow} {R : VK} {E : XK} (nx : H x = none) (nd : H dx = none) (ne : dx ≠ x) (ha : Sq H a (cs.map cv)) (hb : Sq H b (ts.map tv)) (okc : ColsOk H cs) (okt : TabsOk H (cs.map (·.2.1)) ts)
    (q : ∀ H', Same H H' → PlanAt H' C x cs ts → R .non H') : spInit K C (V.ref x :: ([V.ref a, V.ref b] ++ [])) (upd (upd H dx (.own x)) x (.ins C dx [])) R E := by
  have s1 : Same H (upd (upd H dx (.own x)) x (.ins C dx [])) := fun c o e => by rw [upd_ne (ne_of_none e nx), upd_ne (ne_of_none e nd)]; exact e
  exact ⟨x, dx, a, b, cs, ts, rfl, upd_same, ha.same s1, hb.same s1, okc.same s1, okt.same s1, fun H' but pl => q H' (fun c o e => but c o (ne_of_none e nx) (s1 _ _ e)) pl⟩

/-- all that stands but two lists -/
def but2 (H : Hp) (a c : Addr) : Hp := fun b => if b = a ∨ b = c then none else H b
theorem but2_at {H : Hp} {a c b : Addr} (h1 : b ≠ a) (h2 : b ≠ c) : but2 H a c b = H b := if_neg (by rintro (h | h) <;> contradiction)
theorem but2_same {H : Hp} {a c : Addr} : Same (but2 H a c) H := fun b o e => by
  unfold but2 at e
  split at e
  · cases e
  · exact e
theorem but2_gd {H : Hp} {a c : Addr} (st : StAt H a c) : Gd a c (but2 H a c) H := ⟨but2_same, if_pos (.inl rfl), if_pos (.inr rfl), st⟩
theorem but2_sub {H B : Hp} {a c : Addr} (g : Gd a c B H) : Same B (but2 H a c) := fun b o e => by
  rw [but2_at (ne_of_none e g.na) (ne_of_none e g.nc)]; exact g.ex _ _ e
theorem StAt.ne {H : Hp} {a c b : Addr} {o : HO} (st : StAt H a c) (h : H b = some o) (n : ∀ xs, o ≠ .lst xs) : b ≠ a ∧ b ≠ c := by
  obtain ⟨i, z, ks, nac, ea, ec, _⟩ := st
  exact ⟨ne_lst ea h n, ne_lst ec h n⟩
/-- what is no list of the two stands -/
theorem but2_obj {H : Hp} {a c b : Addr} {o : HO} (st : StAt H a c) (h : H b = some o) (n : ∀ xs, o ≠ .lst xs) : but2 H a c b = some o := by
  rw [but2_at (st.ne h n).1 (st.ne h n).2]; exact h
/-- all but tables of code -/
def Sb (H H' : Hp) : Prop := ∀ b o, H b = some o → (∀ ps, o ≠ .tbl ps) → H' b = some o
theorem PlanAt.sub {H B : Hp} {C p : Addr} {cs : List CRow} {ts : List TRow} (h : PlanAt H C p cs ts) (t : ∀ b o, H b = some o → (∀ xs, o ≠ .lst xs) → (∀ ps, o ≠ .tbl ps) → B b = some o) : PlanAt B C p cs ts := by
  obtain ⟨dx, ct, tt, sz, sp, sh, ks, h1, h2, h3, h4, h5, hs, h6⟩ := h
  exact ⟨dx, ct, tt, sz, sp, sh, ks, t _ _ h1 (fun _ z => nomatch z) (fun _ z => nomatch z), t _ _ h2 (fun _ z => nomatch z) (fun _ z => nomatch z), t _ _ h3 (fun _ z => nomatch z) (fun _ z => nomatch z), t _ _ h4 (fun _ z => nomatch z) (fun _ z => nomatch z), t _ _ h5 (fun _ z => nomatch z) (fun _ z => nomatch z), t _ _ hs (fun _ z => nomatch z) (fun _ z => nomatch z),
    paired_imp (fun _ _ r => ⟨r.1, r.2.elim fun q z => ⟨q, z.1, t _ _ z.2 (fun _ z => nomatch z) (fun _ z => nomatch z)⟩⟩) h6⟩
theorem ColsOk.sub {H H' : Hp} {rs : List CRow} (h : ColsOk H rs) (e : Sb H H') : ColsOk H' rs := ⟨fun r hr => e _ _ (h.row r hr) (fun _ z => nomatch z), h.len, h.nm, h.sz, h.nd⟩
theorem TabsOk.sub {H H' : Hp} {cs : List Str} {rs : List TRow} (h : TabsOk H cs rs) (e : Sb H H') : TabsOk H' cs rs := ⟨fun r hr => e _ _ (h.row r hr) (fun _ z => nomatch z), fun r hr => e _ _ (h.prt r hr) (fun _ z => nomatch z), h.len, h.nm, h.two, h.own, h.nd⟩
theorem cut_take {xs : List V} {n : Nat} : cutV xs none (some ((n : Nat) : Int)) = xs.take n := by
  unfold cutV
  rw [HT.sIx_none, HT.sIx_nat, List.drop_zero, Nat.sub_zero]
  by_cases h : n ≤ xs.length
  · rw [Nat.min_eq_left h]
  · rw [Nat.min_eq_right (by omega), List.take_of_length_le (Nat.le_refl _), List.take_of_length_le (by omega)]
theorem alike_lks : ∀ ks : List LK, alikeAll (ks.map lkD) (ks.map lkD) = true
  | [] => by simp [alikeAll]
  | k :: ks => by rw [List.map_cons, alikeAll, alike_lks ks, alike_lk]; rfl
theorem eqv_lks (ks : List LK) : PyData.eqv (.list (ks.map lkD)) (.list (ks.map lkD)) = true := PySem.W.eqv_refl_alike _ (by rw [alike]; exact alike_lks ks)
theorem dp_lks {K : PySem.W.Frag} {H : Hp} : ∀ {ls : List LRow}, (∀ l ∈ ls, LAt H l) → DpAll K H (ls.map lv) ((ls.map (·.2)).map lkD)
  | [], _ => .nil
  | l :: ls, h => .cons (dp_lk (h l List.mem_cons_self)) (dp_lks fun x hx => h x (List.mem_cons_of_mem _ hx))
theorem lay_lks : ∀ {ks : List LK}, (∀ k ∈ ks, PyData.strOk k.1 = true) → PyData.canLayAll0 (ks.map lkD) = true
  | [], _ => by simp [PyData.canLayAll0]
  | k :: ks, h => by
    rw [List.map_cons, PyData.canLayAll0, lay_lk k (h k List.mem_cons_self), lay_lks fun x hx => h x (List.mem_cons_of_mem _ hx)]; rfl
theorem depth_lks : ∀ {ks : List LK}, PyData.depthAll (ks.map lkD) ≤ 2
  | [] => by simp [PyData.depthAll]
  | k :: ks => by
    rw [List.map_cons, PyData.depthAll]
    have h1 := lk_depth k
    have h2 := depth_lks (ks := ks)
    omega
theorem plain_lk {K : PySem.W.Frag} {B : Hp} {ls : List LRow} (h : ∀ l ∈ ls, LAt B l) (ok : ∀ l ∈ ls, PyData.strOk l.2.1 = true) : ∀ x ∈ ls.map lv, Plain K B x := fun x hx => by
  obtain ⟨l, hl, rfl⟩ := List.mem_map.mp hx
  exact ⟨lkD l.2, dp_lk (h l hl), lay_lk _ (ok l hl), lk_depth _⟩
theorem facts_pos {H : Hp} {cs : List CRow} {ts : List TRow} (okc : ColsOk H cs) (okt : TabsOk H (cs.map (·.2.1)) ts) : 0 < (ts.flatMap (factsT cs)).length := by
  obtain ⟨r, hr⟩ : ∃ r, r ∈ ts := by
    match ts, okt.len.1 with
    | r :: t, _ => exact ⟨r, List.mem_cons_self⟩
  have own := okt.own r hr
  have two := okt.two r hr
  refine List.length_pos_of_mem (a := ((r.2.1, r.2.2.2.map fun _ => 0) : FK)) (List.mem_flatMap.mpr ⟨r, hr, ?_⟩)
  obtain ⟨ra, n, qa, ps⟩ := r
  dsimp only at own two
  rcases ps with _ | ⟨x, _ | ⟨y, _ | ⟨z, w⟩⟩⟩
  · simp at two
  · have h := (valV_sz okc (own x (by simp))).2
    show ((n, [0]) : FK) ∈ (ir (sizeI cs x).toNat).map fun v => ((n, [v]) : FK)
    exact List.mem_map.mpr ⟨0, ir_mem.mpr ⟨by omega, by omega⟩, rfl⟩
  · have h := (valV_sz okc (own x (by simp))).2
    have h' := (valV_sz okc (own y (by simp))).2
    show ((n, [0, 0]) : FK) ∈ (ir (sizeI cs x).toNat).flatMap fun v => (ir (sizeI cs y).toNat).map fun o => ((n, [v, o]) : FK)
    exact List.mem_flatMap.mpr ⟨0, ir_mem.mpr ⟨by omega, by omega⟩, List.mem_map.mpr ⟨0, ir_mem.mpr ⟨by omega, by omega⟩, rfl⟩⟩
  · simp at two
theorem facts_max {H : Hp} {cs : List CRow} {ts : List TRow} (okc : ColsOk H cs) (okt : TabsOk H (cs.map (·.2.1)) ts) : (ts.flatMap (factsT cs)).length ≤ 1000 := by
  have h1 := flat_len (f := factsT cs) (m := 36) (l := ts) fun x hx => by
    have h2 : (factsT cs x).length ≤ 6 * firstN cs x.2.2.2 := factsUp_len (sizeI_le okc)
    have h3 : firstN cs x.2.2.2 ≤ 6 := by unfold firstN; have := sizeI_le okc (x.2.2.2.headD ⟨#[]⟩); omega
    omega
  have := okt.len.2
  have h6 : 36 * ts.length ≤ 36 * 8 := Nat.mul_le_mul_left _ this
  omega
theorem looks_max {H : Hp} {cs : List CRow} {ts : List TRow} (okc : ColsOk H cs) (okt : TabsOk H (cs.map (·.2.1)) ts) : (ts.flatMap (looksT cs)).length ≤ 1000 := by
  have h1 := flat_len (f := looksT cs) (m := 12) (l := ts) fun x hx => by
    have h2 : (looksT cs x).length ≤ 6 * x.2.2.2.length := looksUp_len (sizeI_le okc)
    have h3 := (okt.two x hx).2
    omega
  have := okt.len.2
  have h6 : 12 * ts.length ≤ 12 * 8 := Nat.mul_le_mul_left _ this
  omega
theorem rep_either {K : PySem.W.Frag} {H : Hp} {s : Addr} {n k : Int} {R : VK} (hs : H s = some (.tup [.int n])) (hk : k = 1 ∨ k = 2) (q : ∀ p H', Same H H' → H' p = some (.tup (List.replicate k.toNat [V.int n]).flatten) → R (.ref p) H') :
    rRepT1 K (.ref s) (.int k) H R ∨ rRepT K (.ref s) (.int k) H R := by
  rcases hk with rfl | rfl
  · exact .inl ⟨s, _, rfl, rfl, tof hs, q s H (Same.refl H) hs⟩
  · exact .inr ⟨s, 2, _, rfl, rfl, tof hs, (fun z => nomatch z), by decide, by decide, by show 1 ≤ 1000; decide, fun p np => q p _ (same_new np) upd_same⟩
end As

/-! ## B14p -/
namespace As
open PySem PySem.Spec PyProof.Rows L2 TL
theorem ColsOk.perm {H : Hp} {cs cs' : List CRow} (ok : ColsOk H cs) (p : cs'.Perm cs) : ColsOk H cs' :=
  ⟨fun r hr => ok.row r (p.mem_iff.mp hr), by rw [p.length_eq]; exact ok.len, fun r hr => ok.nm r (p.mem_iff.mp hr), fun r hr => ok.sz r (p.mem_iff.mp hr), (p.map _).nodup_iff.mpr ok.nd⟩
theorem TabsOk.cols {H : Hp} {cs cs' : List CRow} {ts : List TRow} (ok : TabsOk H (cs.map (·.2.1)) ts) (p : cs'.Perm cs) : TabsOk H (cs'.map (·.2.1)) ts :=
  ⟨ok.row, ok.prt, ok.len, ok.nm, ok.two, fun r hr x hx => (p.map _).mem_iff.mpr (ok.own r hr x hx), ok.nd⟩
theorem TabsOk.perm {H : Hp} {cs : List Str} {ts ts' : List TRow} (ok : TabsOk H cs ts) (p : ts'.Perm ts) : TabsOk H cs ts' :=
  ⟨fun r hr => ok.row r (p.mem_iff.mp hr), fun r hr => ok.prt r (p.mem_iff.mp hr), by rw [p.length_eq]; exact ok.len, fun r hr => ok.nm r (p.mem_iff.mp hr), fun r hr => ok.two r (p.mem_iff.mp hr), fun r hr => ok.own r (p.mem_iff.mp hr), (p.map _).nodup_iff.mpr ok.nd⟩
theorem plain_col {K : PySem.W.Frag} {B : Hp} {cs : List CRow} (ok : ColsOk B cs) : ∀ x ∈ cs.map cv, Plain K B x := fun x hx => by
  obtain ⟨r, hr, rfl⟩ := List.mem_map.mp hx
  have h := name_ok (ok.nm r hr)
  exact ⟨colD r.2, .tup (tof (ok.row r hr)) (.cons (.str _) (.cons (.int _) .nil)), by simp [colD, PyData.canLay0, PyData.canLayAll0, h], by simp [colD, PyData.depth, PyData.depthAll]⟩
theorem plain_tab {K : PySem.W.Frag} {B : Hp} {cs : List CRow} {ts : List TRow} (okc : ColsOk B cs) (ok : TabsOk B (cs.map (·.2.1)) ts) : ∀ x ∈ ts.map tv, Plain K B x := fun x hx => by
  obtain ⟨r, hr, rfl⟩ := List.mem_map.mp hx
  have h := name_ok (ok.nm r hr)
  have h2 : PyData.canLayAll0 (r.2.2.2.map .str) = true := strs_lay fun y hy => by
    obtain ⟨c, hc, rfl⟩ := List.mem_map.mp (ok.own r hr y hy)
    exact name_ok (okc.nm c hc)
  have h3 := strs_depth (xs := r.2.2.2)
  refine ⟨tabD (tkey r), .tup (tof (ok.row r hr)) (.cons (.str _) (.cons (.tup (tof (ok.prt r hr)) dp_strs) .nil)), ?_, ?_⟩
  · show PyData.canLay0 (.tuple [.str r.2.1, .tuple (r.2.2.2.map .str)]) = true
    simp only [PyData.canLay0, PyData.canLayAll0, h, h2, Bool.and_true]
  · show PyData.depth (.tuple [.str r.2.1, .tuple (r.2.2.2.map .str)]) ≤ 2
    simp only [PyData.depth, PyData.depthAll, h3]
    omega
end As

/-! ## G19 -/
namespace As
open PySem PySem.Spec PyProof.Rows L2 TL
open PySem.W (dataLe AllAlike Sortable dataLt alike)
section
variable {P : Program} {w : World} {K : PySem.W.Frag} {mg : Str → Option Value} {base : Heap}
/-- what stands while an ask is made -/
structure CH (a c : Addr) (B0 : Hp) (n : Int) (cs : List CRow) (path ws : List Str) (la tl as : Addr) (room : Int) (ls : List Str) (ts : List TRow) (ss : List SRow) (ks : List KRow) (H : Hp) : Prop where
  g : Gd a c B0 H
  ft : B0 tl = none
  nt : tl ≠ a ∧ tl ≠ c
  nl : la ≠ a ∧ la ≠ c
  hT : H tl = some (.lst (ts.map tv))
  hL : H la = some (.lst (ls.map V.str))
  ne : la ≠ tl
  hA : H as = some (.tup (weave (ss.map sv) (ks.map kw)))
  ta : ∀ r ∈ ts, TAt H r
  sa : ∀ s ∈ ss, SAt H s
  ka : ∀ k ∈ ks, KAt H k
  rm : room = ls.length + ks.length + 1 - n ∧ 0 ≤ room
  ci : CI cs path ws ls ts ss ks
section
variable {a c : Addr} {B0 : Hp} {n : Int} {cs : List CRow} {path ws : List Str} {la tl as : Addr} {room : Int} {ls : List Str} {ts : List TRow} {ss : List SRow} {ks : List KRow} {H H' : Hp}
theorem CH.fr (x : CH a c B0 n cs path ws la tl as room ls ts ss ks H) (f : Fr a c H H') (st : StAt H' a c) : CH a c B0 n cs path ws la tl as room ls ts ss ks H' := by
  have im : Imm H H' := fun b xs e => f b _ (x.g.st.ne e (fun _ z => nomatch z)).1 (x.g.st.ne e (fun _ z => nomatch z)).2 e
  exact ⟨x.g.fr f st, x.ft, x.nt, x.nl, f _ _ x.nt.1 x.nt.2 x.hT, f _ _ x.nl.1 x.nl.2 x.hL, x.ne, im _ _ x.hA, fun r hr => (x.ta r hr).imm im, fun r hr => (x.sa r hr).imm im, fun r hr => im _ _ (x.ka r hr), x.rm, x.ci⟩
theorem CH.same (x : CH a c B0 n cs path ws la tl as room ls ts ss ks H) (s : Same H H') : CH a c B0 n cs path ws la tl as room ls ts ss ks H' := x.fr (fun _ _ _ _ e => s _ _ e) (x.g.st.same s)
end
theorem fr_of {a c : Addr} {H B' H' : Hp} (s : Same (but2 H a c) B') (g : Gd a c B' H') : Fr a c H H' := fun b o ha hc e => g.ex _ _ (s _ _ (by rw [but2_at ha hc]; exact e))
theorem cut_to {xs : List V} {m : Int} (h : 0 ≤ m) : cutV xs none (some m) = xs.take m.toNat := by
  obtain ⟨k, rfl⟩ : ∃ k : Nat, m = (k : Int) := ⟨m.toNat, by omega⟩
  unfold cutV
  rw [HT.sIx_none, HT.sIx_nat, List.drop_zero, Nat.sub_zero, List.take_eq_take_min, Nat.min_assoc, Nat.min_self, ← List.take_eq_take_min]; rfl
theorem cut_from {xs : List V} {m : Int} (h : 0 ≤ m) (h2 : m ≤ xs.length) : cutV xs (some m) none = xs.drop m.toNat := by
  obtain ⟨k, rfl⟩ : ∃ k : Nat, m = (k : Int) := ⟨m.toNat, by omega⟩
  unfold cutV
  rw [HT.sIx_none, HT.sIx_nat, Nat.min_eq_left (by omega), List.take_of_length_le (by rw [List.length_drop]; omega)]; rfl
theorem plain_tabA {B : Hp} {ts : List TRow} (h : ∀ r ∈ ts, TAt B r) (ok : ∀ r ∈ ts, PyData.strOk r.2.1 = true ∧ ∀ x ∈ r.2.2.2, PyData.strOk x = true) : ∀ x ∈ ts.map tv, Plain K B x := fun x hx => by
  obtain ⟨r, hr, rfl⟩ := List.mem_map.mp hx
  have h1 := (ok r hr).1
  have h2 : PyData.canLayAll0 (r.2.2.2.map .str) = true := strs_lay (ok r hr).2
  have h3 := strs_depth (xs := r.2.2.2)
  refine ⟨tabD (tkey r), .tup (tof (h r hr).1) (.cons (.str _) (.cons (.tup (tof (h r hr).2) dp_strs) .nil)), ?_, ?_⟩
  · show PyData.canLay0 (.tuple [.str r.2.1, .tuple (r.2.2.2.map .str)]) = true
    simp only [PyData.canLay0, PyData.canLayAll0, h1, h2, Bool.and_true]
  · show PyData.depth (.tuple [.str r.2.1, .tuple (r.2.2.2.map .str)]) ≤ 2
    simp only [PyData.depth, PyData.depthAll, h3]
    omega
/-- a walk over a list that is made by an expression: R tells what it gives -/
theorem for_lst_mid {K : PySem.W.Frag} {tl : TE} {g : TG} {tb : TS} {D : Ends} {σ : L2.St} {H : Hp} (R : V → Hp → Prop) (h : ∀ Q : VK, (∀ v H', R v H' → Q v H') → tl σ H Q)
    (k : ∀ v H', R v H' → ∃ a, v = .ref a ∧ (∃ xs, SqL K H' a xs) ∧ ∃ W : Nat → Nat → L2.St → Hp → Prop, (∃ m, W 0 m σ H') ∧ ∀ i m σ H, W i m σ H →
      ((Itl K a).stop i H ∧ D.nx σ H) ∨ ((Itl K a).go i H ∧ ∃ N : L2.St → Hp → Prop, (∀ σ' H', N σ' H' → ∃ m', m' < m ∧ W (i + 1) m' σ' H') ∧ ∀ x H', (Itl K a).yld i H x H' → g x σ H' fun σ2 H2 => tb { D with nx := N, ct := N, bk := D.nx } σ2 H2)) :
    tFor (iList K tl) g tb D σ H := h _ k
theorem TAt.but {a c : Addr} {H : Hp} {r : TRow} (st : StAt H a c) (h : TAt H r) : TAt (but2 H a c) r := ⟨but2_obj st h.1 (fun _ z => nomatch z), but2_obj st h.2 (fun _ z => nomatch z)⟩
def spCase (K : PySem.W.Frag) : Sp := fun vs H Q _ => ∃ (a c : Addr) (n gr : Int) (B : Hp), vs = [.ref a, .int n, .int gr] ∧ Gd a c B H ∧ (1 ≤ n ∧ n ≤ 6) ∧ (1 ≤ gr ∧ gr ≤ 6) ∧
  ∀ (p cl tb as : Addr) (cs : List CRow) (ts : List TRow) (ss : List SRow) (ks : List KRow) (B' H' : Hp), Same B B' → Gd a c B' H' → B' p = some (.tup [.ref cl, .ref tb, .ref as]) → B' cl = some (.lst (cs.map cv)) → ColsOk B' cs → cs.length ≤ 3 → (∀ r ∈ cs, r.2.2 ≤ gr) →
    B' tb = some (.lst (ts.map tv)) → TabsOk B' (cs.map (·.2.1)) ts → AskAt B' as ss ks → AskOk cs ts ss ks → (ss.length : Int) = n → Q (.ref p) H'
abbrev nCase : List Str := ["state", "stops", "greatest", "words", "labels", "columns", "sizes", "tables", "asked", "room", "path", "k", "ones", "lot", "way", "label"]
theorem sc_case : FnScope nCase ["state", "stops", "greatest"] (defScope s_lcase) := ⟨rfl, rfl, rfl, by decide +kernel, rfl, by decide +kernel, by decide +kernel⟩
set_option maxHeartbeats 4000000 in
theorem ok_case {f flb fdr fpi flo fmi : Addr} {fd dlb ddr dpi dlo dmi : FuncData} (D : Df K mg "_law_case" s_lcase ["state", "stops", "greatest"] f fd) (T : Bi mg)
    (Dlb : Df K mg "_law_labels" s_llabels ["state", "many"] flb dlb) (Glb : FnOk P w K mg base CX0 3 flb dlb ["state", "many"] spLabels)
    (Ddr : Df K mg "_law_draw" s_draw ["state", "many"] fdr ddr) (Gdr : FnOk P w K mg base CX0 1 fdr ddr ["state", "many"] spDraw)
    (Dpi : Df K mg "_law_pick" s_pick ["state", "some"] fpi dpi) (Gpi : FnOk P w K mg base CX0 2 fpi dpi ["state", "some"] spPick)
    (Dlo : Df K mg "_law_lot" s_llot ["state", "size"] flo dlo) (Glo : FnOk P w K mg base CX0 2 flo dlo ["state", "size"] spLot)
    (Dmi : Df K mg "_law_shuffled" s_lshuffled ["state", "some"] fmi dmi) (Gmi : FnOk P w K mg base CX0 2 fmi dmi ["state", "some"] (spMixed K)) : FnOk P w K mg base CX0 4 f fd ["state", "stops", "greatest"] (spCase K) := by
  refine D.F.ok sc_case (fun vs H Q E h => ?_) (fun cdv A outer s H vs Q E hr h => ?_)
  · obtain ⟨a, c, n, gr, B, rfl, _⟩ := h; rfl
  · obtain ⟨a, c, n, gr, B, rfl, g, hn, hg, q⟩ := h
    have hr1 : Room 1 _ := hr.mono (by decide)
    have hr2 : Room 2 _ := hr.mono (by decide)
    have hr3 : Room 3 _ := hr.mono (by decide)
    refine ⟨_, pss_cons (ps_asg (pe_tup (pa_cons (pcall Dlb Glb hr3 (pa_cons (pv 0) (pa_cons pe_int pa_nil))) (pa_cons (pcall Dlb Glb hr3 (pa_cons (pv 0) (pa_cons pe_int pa_nil))) pa_nil))) (pg_tup rfl (pgs_cons (pg_name (i := 3) sc_case.nd rfl (Or.inr rfl)) (pgs_cons (pg_name (i := 4) sc_case.nd rfl (Or.inl rfl)) pgs_nil))))
      (pss_cons (ps_set (i := 5) sc_case.nd rfl (Or.inr rfl) (pe_lc (own := [("k", 11)]) (g := gName 11) (tt := tYes) rfl sc_case.nd (pi_range1 rfl T.range (pa_cons (pe_op op_add pe_int (pcall Ddr Gdr hr1 (pa_cons (pv 0) (pa_cons pe_int pa_nil)))) pa_nil)) (blkOk_by (N := nCase) (sc := defScope s_lcase) (by decide +kernel)) (fun _ _ _ _ _ => pg_name (i := 11) sc_case.nd rfl (Or.inl rfl)) (fun _ _ _ _ _ => pts_nil) (fun _ _ _ _ _ => pe_tup (pa_cons (pe_ix (ixL K) (pv 3) (pv 11) (fun _ _ => rfl)) (pa_cons (pe_op op_add pe_int (pcall Ddr Gdr hr1 (pa_cons (pv 0) (pa_cons (pv 2) pa_nil)))) pa_nil)))))
      (pss_cons (ps_asg (pe_tup (pa_cons (pe_callTy (call_dictP rfl) (by rfl) T.dict (by decide +kernel) (pa_cons (pv 5) pa_nil)) (pa_cons (pe_lst pa_nil) (pa_cons (pe_tup pa_nil) (pa_cons (pe_op op_sub pe_int (pv 1)) pa_nil))))) (pg_tup rfl (pgs_cons (pg_name (i := 6) sc_case.nd rfl (Or.inl rfl)) (pgs_cons (pg_name (i := 7) sc_case.nd rfl (Or.inl rfl)) (pgs_cons (pg_name (i := 8) sc_case.nd rfl (Or.inl rfl)) (pgs_cons (pg_name (i := 9) sc_case.nd rfl (Or.inl rfl)) pgs_nil))))))
      (pss_cons (ps_set (i := 10) sc_case.nd rfl (Or.inr rfl) (pe_lc (own := [("k", 11)]) (g := gName 11) (tt := tYes) rfl sc_case.nd (pi_range1 rfl T.range (pa_cons (pv 1) pa_nil)) (blkOk_by (N := nCase) (sc := defScope s_lcase) (by decide +kernel)) (fun _ _ _ _ _ => pg_name (i := 11) sc_case.nd rfl (Or.inl rfl)) (fun _ _ _ _ _ => pts_nil) (fun _ _ _ _ _ => pe_ix (ixT K) (pcall Dpi Gpi hr2 (pa_cons (pv 0) (pa_cons (pv 5) pa_nil))) pe_int (fun _ _ => rfl))))
      (pss_cons (ps_for PassesOwn.never rfl (pi_range1 rfl T.range (pa_cons (pv 1) pa_nil)) (pg_name (i := 11) sc_case.nd rfl (Or.inr rfl))
        (pss_cons (ps_set (i := 12) sc_case.nd rfl (Or.inl rfl) (pe_slice sl_list (pv 4) po_none (po_some (pe_callB (call_min2 rfl) (by rfl) T.min (by decide +kernel) (pa_cons (pv 9) (pa_cons (pcall Dpi Gpi hr2 (pa_cons (pv 0) (pa_cons (pe_lst (pa_cons pe_int (pa_cons pe_int (pa_cons pe_int (pa_cons pe_int pa_nil))))) pa_nil))) pa_nil))))))
        (pss_cons (ps_par (i := 4) (j := 9) rfl sc_case.nd rfl rfl (by decide) rfl rfl (pa_cons (pe_slice sl_list (pv 4) (po_some (pe_callB call_len_seq (by rfl) T.len PySem.boot_len (pa_cons (pv 12) pa_nil))) po_none) (pa_cons (pe_op op_sub (pv 9) (pe_callB call_len_seq (by rfl) T.len PySem.boot_len (pa_cons (pv 12) pa_nil))) pa_nil)) (by rfl))
        (pss_cons (ps_set (i := 7) sc_case.nd rfl (Or.inl rfl) (pe_op op_cat (pv 7) (pe_lc (own := [("label", 15)]) (g := gName 15) (tt := tYes) rfl sc_case.nd (pi_list (pv 12)) (blkOk_by (N := nCase) (sc := defScope s_lcase) (by decide +kernel)) (fun _ _ _ _ _ => pg_name (i := 15) sc_case.nd rfl (Or.inl rfl)) (fun _ _ _ _ _ => pts_nil) (fun _ _ _ _ _ => pe_tup (pa_cons (pv 15) (pa_cons (pe_tup (pa_cons (pe_ix (ixL K) (pv 10) (pv 11) (fun _ _ => rfl)) pa_nil)) pa_nil))))))
        (pss_cons (ps_set (i := 13) sc_case.nd rfl (Or.inl rfl) (pcall Dlo Glo hr2 (pa_cons (pv 0) (pa_cons (pe_dget (hu_of hr) (pv 6) (pe_ix ix_list (pv 10) (pv 11) (fun _ _ => rfl)) (fun _ _ => rfl)) pa_nil))))
        (pss_cons (ps_set (i := 8) sc_case.nd rfl (Or.inl rfl) (pe_op op_catA (pv 8) (pe_tup (pa_cons (pe_tup (pa_cons (pe_ix ix_list (pv 10) (pv 11) (fun _ _ => rfl)) (pa_cons (pv 13) (pa_cons (tupK K (hm := T.tuple) (pe_callB (cr_sortedD (hu64 hr)) (by rfl) T.sorted (by decide +kernel) (pa_cons (pv 12) pa_nil))) pa_nil)))) pa_nil))))
        (pss_one (ps_if (pt_cmpR op_lt (pe_op op_add (pv 11) pe_int) (pv 1) (nomark _))
          (pss_cons (ps_set (i := 14) sc_case.nd rfl (Or.inl rfl) (pcall Ddr Gdr hr1 (pa_cons (pv 0) (pa_cons pe_int pa_nil))))
          (pss_cons (ps_expr (pe_bm PySem.F.plainAttrs_list PySem.F.slot_list_append PySem.F.type_list_append mt_append (pv 7) (pa_cons (pe_tup (pa_cons (pe_ix ix_list (pv 4) pe_int (fun _ _ => rfl)) (pa_cons (pe_ix ix_list (pe_lst (pa_cons (pe_tup (pa_cons (pe_ix ix_list (pv 10) (pv 11) (fun _ _ => rfl)) (pa_cons (pe_ix ix_list (pv 10) (pe_op op_add (pv 11) pe_int) (fun _ _ => rfl)) pa_nil))) (pa_cons (pe_tup (pa_cons (pe_ix ix_list (pv 10) (pe_op op_add (pv 11) pe_int) (fun _ _ => rfl)) (pa_cons (pe_ix ix_list (pv 10) (pv 11) (fun _ _ => rfl)) pa_nil))) pa_nil))) (pv 14) (fun _ _ => rfl)) pa_nil))) pa_nil)))
          (pss_one (ps_par (i := 8) (j := 4) rfl sc_case.nd rfl rfl (by decide) rfl rfl (pa_cons (pe_op op_catA (pv 8) (pe_tup (pa_cons (pe_tup (pa_cons (pe_ix ix_list (pv 4) pe_int (fun _ _ => rfl)) (pa_cons (pv 14) pa_nil))) pa_nil))) (pa_cons (pe_slice sl_list (pv 4) (po_some pe_int) po_none) pa_nil)) (by rfl)))))
          pss_nil))))))))
      (pss_cons (ps_for PassesOwn.never rfl (pi_list (pe_ifExp (pt_cmpR (op_neD (hu64 hr)) (pv 7) (pe_lst pa_nil) (nomark _)) (pe_slice sl_list (pv 4) po_none (po_some (pe_callB (call_min2 rfl) (by rfl) T.min (by decide +kernel) (pa_cons (pe_op op_sub pe_int (pe_callB call_len_seq (by rfl) T.len PySem.boot_len (pa_cons (pv 7) pa_nil))) (pa_cons (pcall Ddr Gdr hr1 (pa_cons (pv 0) (pa_cons pe_int pa_nil))) pa_nil))))) (pe_slice sl_list (pv 4) po_none (po_some pe_int)))) (pg_name (i := 15) sc_case.nd rfl (Or.inl rfl))
        (pss_one (ps_expr (pe_bm PySem.F.plainAttrs_list PySem.F.slot_list_append PySem.F.type_list_append mt_append (pv 7) (pa_cons (pe_tup (pa_cons (pv 15) (pa_cons (tupK K (hm := T.tuple) (pe_lc (own := [("k", 11)]) (g := gName 11) (tt := tYes) rfl sc_case.nd (pi_range1 rfl T.range (pa_cons (pe_op op_add pe_int (pcall Ddr Gdr hr1 (pa_cons (pv 0) (pa_cons pe_int pa_nil)))) pa_nil)) (blkOk_by (N := nCase) (sc := defScope s_lcase) (by decide +kernel)) (fun _ _ _ _ _ => pg_name (i := 11) sc_case.nd rfl (Or.inl rfl)) (fun _ _ _ _ _ => pts_nil) (fun _ _ _ _ _ => pe_ix (ixT K) (pcall Dpi Gpi hr2 (pa_cons (pv 0) (pa_cons (pv 5) pa_nil))) pe_int (fun _ _ => rfl)))) pa_nil))) pa_nil)))))
      (pss_one (ps_ret (pe_tup (pa_cons (pv 5) (pa_cons (pcall Dmi Gmi hr2 (pa_cons (pv 0) (pa_cons (pv 7) pa_nil))) (pa_cons (pv 8) pa_nil))))))))))), ?_⟩
    refine ⟨_, rfl, a, c, 3, B, rfl, g, by decide, by decide, fun wd ws3 B1 H1 s1 g1 nwd hwd lws nw => ?_⟩
    refine ⟨_, rfl, a, c, 8, B1, rfl, g1, by decide, by decide, fun la ws B2 H2 s2 g2 nla hla lw8 nws => ⟨by show 2 ≤ sizeLine; decide, fun t nt => ⟨t, _, rfl, tof upd_same, rfl, _, _, rfl, _, _, rfl, rfl, ?_⟩⟩⟩
    have g3 := g2.new (o := .tup [V.ref wd, V.ref la]) nt
    have hwd2 := s2 _ _ hwd
    have s12 := s1.trans s2
    generalize upd H2 t (.tup [V.ref wd, V.ref la]) = H3 at g3 ⊢
    have lw3 : ws3.length = 3 := by rw [lws]; rfl
    have lw8 : ws.length = 8 := by rw [lw8]; rfl
    -- the columns
    refine ⟨_, rfl, a, c, 3, rfl, g3.st, by decide, by decide, fun r H4 r0 r1 st4 fr4 => ⟨1, r, rfl, rfl, 1 + r, rfl, by omega, by omega, fun D hD => ?_⟩⟩
    have g4 := g3.fr fr4 st4
    refine lc_draw (B := B2) (H1 := H4) (a := a) (c := c) walk_range g4 hD (fun _ _ _ _ => trivial) (Nat.lt_of_le_of_lt (show (1 + r).toNat ≤ 3 by omega) (by decide))
      (fun i acc B => ∃ rs : List CRow, acc = rs.map cv ∧ rs.length = i ∧ (∀ r ∈ rs, B r.1 = some (.tup [.str r.2.1, .int r.2.2])) ∧ rs.map (·.2.1) = ws3.take i ∧ ∀ r ∈ rs, 1 ≤ r.2.2 ∧ r.2.2 ≤ gr)
      ⟨[], rfl, rfl, (fun _ z => nomatch z), rfl, fun _ z => nomatch z⟩ (fun i acc acc0 B' ⟨rs, e, l, h, t, z⟩ hd => ⟨rs, e, l, fun r hr => rem_tup hd (h r hr), t, z⟩) (fun i acc _ ⟨rs, e, l, _⟩ => by rw [e, List.length_map, l]; exact Nat.le_refl _)
      (fun j H5 B5 acc Q1 Q2 hj s5 g5 p5 d5 k1 k2 => ?_) (fun H5 B5 acc s5 g5 d5 p5 => ?_)
    · obtain ⟨rs, rfl, lr, ht, tk, sz⟩ := p5
      have hj' : j < ws3.length := by omega
      refine ⟨rfl, ?_⟩
      refine iteT (B := Q2 H5) ?_
      have gx : (ws3.map V.str)[j]? = some (.str ws3[j]) := by rw [List.getElem?_map, List.getElem?_eq_getElem hj']; rfl
      refine ⟨_, rfl, _, rfl, wd, _, 0 + (j : Int), .str ws3[j], rfl, rfl, lof (g5.ex _ _ (s5 _ _ hwd2)), atI_lt (by omega) (by rw [List.length_map]; omega) (by rw [show (0 + (j : Int)).toNat = j by omega]; exact gx), ?_⟩
      refine ⟨_, rfl, _, rfl, a, c, gr, rfl, g5.st, by omega, by omega, fun r H6 r0 r1 st6 fr6 => ⟨1, r, rfl, rfl, by show 2 ≤ sizeLine; decide, fun t nt => ?_⟩⟩
      have g6 := g5.fr fr6 st6
      have ht' : ∀ r ∈ rs, B5 r.1 = some (.tup [.str r.2.1, .int r.2.2]) := fun r hr => same_rem _ _ (ht r hr)
      refine k1 _ _ (upd B5 t (.tup [.str ws3[j], .int (1 + r)])) (same_new (g6.free nt)) (g6.add nt) ⟨rs ++ [(t, ws3[j], 1 + r)], ?_, ?_, fun x hx => ?_, ?_, fun x hx => ?_⟩
      · rw [List.map_append]; rfl
      · rw [List.length_append, lr]; rfl
      · rcases List.mem_append.mp hx with hx | hx
        · exact same_new (g6.free nt) _ _ (ht' x hx)
        · rw [List.mem_singleton] at hx; subst hx; exact upd_same
      · rw [List.map_append, tk, List.take_succ, List.getElem?_eq_getElem hj']; rfl
      · rcases List.mem_append.mp hx with hx | hx
        · exact sz x hx
        · rw [List.mem_singleton] at hx; subst hx; exact ⟨show 1 ≤ 1 + r by omega, show 1 + r ≤ gr by omega⟩
    obtain ⟨cs, rfl, lcs, ht, tk, csz⟩ := p5
    have okc : ColsOk B5 cs := ⟨fun r hr => same_rem _ _ (ht r hr), ⟨by omega, by omega⟩, fun r hr => nw.nm _ (List.mem_of_mem_take (by rw [← tk]; exact List.mem_map.mpr ⟨r, hr, rfl⟩)), fun r hr => by have := csz r hr; omega, by rw [tk]; exact (List.take_sublist _ _).nodup nw.nd⟩
    have lc3 : cs.length ≤ 3 := by omega
    have s15 := s12.trans s5
    have hcl5 : B5 D = some (.lst (cs.map cv)) := d5
    have hla5 := s5 _ _ hla
    -- sizes, tables, asked, room
    have s05 : Same B5 H5 := g5.ex
    refine ⟨_, rfl, D, cs.map (·.1), colsD cs, rfl, lof (by rw [cols_refs]; exact g5.ex _ _ hcl5), cols_pairs (okc.same g5.ex), fun sz nsz => ?_⟩
    rw [mergeK_cols (okc.same g5.ex)]
    have g6 := g5.add (o := .dK (colsD cs)) nsz
    have s6 : Same B5 (upd B5 sz (.dK (colsD cs))) := same_new (g5.free nsz)
    have hsz6 : (upd B5 sz (.dK (colsD cs))) sz = some (.dK (colsD cs)) := upd_same
    generalize upd B5 sz (.dK (colsD cs)) = B6 at g6 s6 hsz6
    generalize upd H5 sz (.dK (colsD cs)) = H6 at g6 ⊢
    refine ⟨Nat.zero_le _, fun tl ntl => ?_⟩
    have tla := g6.ne_a ntl
    have tlc := g6.ne_c ntl
    have ftl := g6.free ntl
    have g7 := g6.add (o := .lst ([] : List V)) ntl
    have s7 : Same B6 (upd B6 tl (.lst [])) := same_new ftl
    have htl7 : (upd B6 tl (.lst [])) tl = some (.lst []) := upd_same
    generalize upd B6 tl (.lst []) = B7 at g7 s7 htl7
    generalize upd H6 tl (.lst []) = H7 at g7 ⊢
    refine ⟨Nat.zero_le _, fun as nas => ?_⟩
    have g8 := g7.add (o := .tup ([] : List V)) nas
    have s8 : Same B7 (upd B7 as (.tup [])) := same_new (g7.free nas)
    have has8 : (upd B7 as (.tup [])) as = some (.tup []) := upd_same
    generalize upd B7 as (.tup []) = B8 at g8 s8 has8
    generalize upd H7 as (.tup []) = H8 at g8 ⊢
    refine ⟨_, rfl, 9, n, rfl, rfl, by show 4 ≤ sizeLine; decide, fun t nt => ⟨t, _, rfl, tof upd_same, rfl, _, _, rfl, _, _, rfl, _, _, rfl, _, _, rfl, rfl, ?_⟩⟩
    have g9 := g8.new (o := .tup [V.ref sz, V.ref tl, V.ref as, V.int (9 - n)]) nt
    generalize upd H8 t (.tup [V.ref sz, V.ref tl, V.ref as, V.int (9 - n)]) = H9 at g9 ⊢
    -- the path
    have cla : D ≠ a := ne_of_none hcl5 g5.na
    have clc : D ≠ c := ne_of_none hcl5 g5.nc
    have s58 := s6.trans (s7.trans s8)
    have hcl8 := s58 _ _ hcl5
    have pos : 0 < (cs.map cv).length ∧ (cs.map cv).length < 1000000 := by rw [List.length_map]; have := okc.len; omega
    refine ⟨_, rfl, n, rfl, by omega, by omega, fun D2 hD2 => ?_⟩
    refine lc_draw (B := B8) (H1 := H9) (a := a) (c := c) walk_range g9 hD2 (fun _ _ _ _ => trivial) (Nat.lt_of_le_of_lt (show n.toNat ≤ 6 by omega) (by decide))
      (fun i acc _ => ∃ zs : List Str, acc = zs.map V.str ∧ zs.length = i ∧ ∀ x ∈ zs, x ∈ cs.map (·.2.1)) ⟨[], rfl, rfl, fun _ z => nomatch z⟩ (fun _ _ _ _ h _ => h) (fun i acc _ ⟨zs, e, l, _⟩ => by rw [e, List.length_map, l]; exact Nat.le_refl _)
      (fun j H10 B10 acc Q1 Q2 hj s10 g10 p10 d10 k1 k2 => ?_) (fun H10 B10 acc s10 g10 d10 p10 => ?_)
    · obtain ⟨zs, rfl, lz, hz⟩ := p10
      refine ⟨rfl, ?_⟩
      refine iteT (B := Q2 H10) ?_
      refine ⟨_, rfl, _, rfl, a, c, .ref D, rfl, g10.st, .inl ⟨D, _, rfl, cla, clc, g10.ex _ _ (s10 _ _ hcl8), pos.1, pos.2, fun v H11 hv st11 fr11 => ?_⟩⟩
      obtain ⟨r1, hr1', rfl⟩ := List.mem_map.mp hv
      have g11 := g10.fr fr11 st11
      refine ⟨r1.1, _, 0, .str r1.2.1, rfl, rfl, tof (g11.ex _ _ ((s58.trans s10) _ _ (okc.row r1 hr1'))), rfl, k1 _ _ B10 (Same.refl _) g11 ⟨zs ++ [r1.2.1], ?_, ?_, fun x hx => ?_⟩⟩
      · rw [List.map_append]; rfl
      · rw [List.length_append, lz]; rfl
      · rcases List.mem_append.mp hx with hx | hx
        · exact hz x hx
        · rw [List.mem_singleton] at hx; rw [hx]; exact List.mem_map_of_mem hr1'
    obtain ⟨path, rfl, lp, pin⟩ := p10
    have lp : (path.length : Int) = n := by omega
    -- what stands for good: all but the list of tables
    have s510 := s58.trans s10
    have htl10 := s10 _ _ (s8 _ _ htl7)
    have has10 := s10 _ _ has8
    obtain ⟨B0, eB0⟩ : ∃ B0, rem B10 tl = B0 := ⟨_, rfl⟩
    have gB0 : Gd a c B0 H10 := eB0 ▸ g10.less same_rem
    have fB0 : B0 tl = none := eB0 ▸ rem_self
    have sB0 : Same B6 B0 := eB0 ▸ same_into_rem (s7.trans (s8.trans s10)) ftl
    have nlt : la ≠ tl := fun e => by rw [← e] at ftl; rw [s6 _ _ hla5] at ftl; cases ftl
    have nD2t : D2 ≠ tl := fun e => by
      rw [e] at hD2
      have := g9.ex _ _ (s8 _ _ htl7)
      rw [this] at hD2; cases hD2
    have hpl0 : B0 D2 = some (.lst (path.map V.str)) := by rw [← eB0, rem_ne nD2t]; exact d10
    have hsz0 := sB0 _ _ hsz6
    have okc0 : ColsOk B0 cs := okc.same (s6.trans sB0)
    have hcl0 := sB0 _ _ (s6 _ _ hcl5)
    have hla0 := sB0 _ _ (s6 _ _ hla5)
    have lna : la ≠ a ∧ la ≠ c := ⟨ne_of_none hla0 gB0.na, ne_of_none hla0 gB0.nc⟩
    have CH0 : CH a c B0 n cs path ws la tl as (9 - n) ws [] [] [] H10 := ⟨gB0, fB0, ⟨tla, tlc⟩, lna, g10.ex _ _ htl10, gB0.ex _ _ hla0, nlt, g10.ex _ _ has10, (fun _ z => nomatch z), (fun _ z => nomatch z), (fun _ z => nomatch z), ⟨by rw [lw8]; show 9 - n = ((8 : Nat) : Int) + ((0 : Nat) : Int) + 1 - n; omega, by omega⟩, CI.start⟩
    have s10 := s15.trans (s6.trans sB0)
    clear htl10 has10 has8 htl7 s510 s58 hcl8 g10 g9 g8 g7 g6 g5 s7 s8 ntl nas nt nsz hla5 hcl5 s05 g4 fr4 st4 g3
    refine ⟨_, rfl, n, rfl, by omega, by omega, for_range (lo := 0) (n := n.toNat) (fun i σ H' => ∃ (la tl as : Addr) (room : Int) (ls : List Str) (ts : List TRow) (ss : List SRow) (ks : List KRow) (x11 x12 x13 x14 x15 : Option V),
        σ = [some (.ref a), some (.int n), some (.int gr), some (.ref wd), some (.ref la), some (.ref D), some (.ref sz), some (.ref tl), some (.ref as), some (.int room), some (.ref D2), x11, x12, x13, x14, x15] ∧
        CH a c B0 n cs path ws la tl as room ls ts ss ks H' ∧ ss.length = i ∧ (((i : Int) < n → ks.length = i) ∧ ((i : Int) = n → ks.length + 1 = i))) ⟨la, tl, as, 9 - n, ws, [], [], [], none, none, none, none, none, rfl, CH0, rfl, fun _ => rfl, fun z => by omega⟩ ?_ ?_⟩
    · clear CH0 nlt ftl tla tlc hla0 lna hD nla hla fB0
      rintro i σ H1 hi ⟨la, tl, as, room, ls, ts, ss, ks, x11, x12, x13, x14, x15, rfl, ch, sl, kl, -⟩
      have hin : (i : Int) < n := by omega
      have kl := kl hin
      obtain ⟨pk, hpk⟩ : ∃ pk, path[i]? = some pk := ⟨path[i]'(by omega), List.getElem?_eq_getElem (by omega)⟩
      have gpk : (path.map V.str)[i]? = some (.str pk) := by rw [List.getElem?_map, hpk]; rfl
      have lpm : (path.map V.str).length = path.length := List.length_map _
      have atpk : atI (path.map V.str) (0 + (i : Int)) = some (.str pk) := atI_lt (by omega) (by omega) (by rw [show (0 + (i : Int)).toNat = i by omega]; exact gpk)
      have pkc := pin pk (List.mem_of_getElem? hpk)
      have hpl1 := ch.g.ex _ _ hpl0
      -- the tables of one column
      refine ⟨_, rfl, _, rfl, _, rfl, by show 4 ≤ sizeLine; decide, fun L nL => ⟨a, c, .ref L, rfl, (ch.g.new nL).st, .inl ⟨L, _, rfl, ch.g.ne_a nL, ch.g.ne_c nL, upd_same, by show 0 < 4; decide, by show 4 < 1000000; decide, fun v H2 hv st2 fr2 => ?_⟩⟩⟩
      have ch2 := (ch.same (same_new nL)).fr fr2 st2
      obtain ⟨u, rfl, u0, u2⟩ : ∃ u : Int, v = V.int u ∧ 0 ≤ u ∧ u ≤ 2 := by
        simp only [List.mem_cons, List.not_mem_nil, or_false] at hv
        rcases hv with rfl | rfl | rfl | rfl
        · exact ⟨_, rfl, by decide, by decide⟩
        · exact ⟨_, rfl, by decide, by decide⟩
        · exact ⟨_, rfl, by decide, by decide⟩
        · exact ⟨_, rfl, by decide, by decide⟩
      have rm := ch.rm
      refine ⟨room, u, rfl, _, rfl, la, _, rfl, lof ch2.hL, fun on non => ?_⟩
      obtain ⟨m, em, m0, m2, mr⟩ : ∃ m, (if u < room then u else room) = m ∧ 0 ≤ m ∧ m ≤ 2 ∧ m ≤ room := ⟨_, rfl, by split <;> omega, by split <;> omega, by split <;> omega⟩
      rw [em, cut_to m0, ← List.map_take]
      have lol : (ls.take m.toNat).length = m.toNat := by rw [List.length_take]; omega
      have los : ls.take m.toNat ++ ls.drop m.toNat = ls := List.take_append_drop _ _
      have lod : (ls.drop m.toNat).length = ls.length - m.toNat := List.length_drop
      have cut2 : cutV (ls.map V.str) (some (m : Int)) none = (ls.drop m.toNat).map V.str := by rw [cut_from m0 (by rw [List.length_map]; omega), List.map_drop]
      have ci := ch.ci
      rw [← los] at ci
      obtain ⟨os, eos⟩ : ∃ os, ls.take m.toNat = os := ⟨_, rfl⟩
      obtain ⟨l1, el1⟩ : ∃ l1, ls.drop m.toNat = l1 := ⟨_, rfl⟩
      rw [eos, el1] at ci
      rw [eos] at lol ⊢
      rw [el1] at lod cut2
      have olm : (os.map V.str).length = os.length := List.length_map _
      have onn : on ≠ a ∧ on ≠ c := ⟨ch2.g.ne_a non, ch2.g.ne_c non⟩
      have s3 : Same H2 (upd H2 on (.lst (os.map V.str))) := same_new non
      have hon3 : (upd H2 on (.lst (os.map V.str))) on = some (.lst (os.map V.str)) := upd_same
      generalize upd H2 on (.lst (os.map V.str)) = H3 at s3 hon3 ⊢
      have ch3 := ch2.same s3
      -- the labels that are left
      refine ⟨_, rfl, _, rfl, on, _, rfl, .inl (lof hon3), _, rfl, la, _, rfl, lof ch3.hL, fun l2 nl2 => ?_⟩
      have em2 : ((os.map V.str).length : Int) = m := by rw [olm, lol]; omega
      rw [em2, cut2]
      have l2n : l2 ≠ a ∧ l2 ≠ c := ⟨ch3.g.ne_a nl2, ch3.g.ne_c nl2⟩
      have s4 : Same H3 (upd H3 l2 (.lst (l1.map V.str))) := same_new nl2
      have hl4 : (upd H3 l2 (.lst (l1.map V.str))) l2 = some (.lst (l1.map V.str)) := upd_same
      generalize upd H3 l2 (.lst (l1.map V.str)) = H4 at s4 hl4 ⊢
      have ch4 := ch3.same s4
      have hon4 := s4 _ _ hon3
      refine ⟨_, rfl, _, rfl, on, _, rfl, .inl (lof hon4), _, _, rfl, rfl, ⟨_, _, rfl, ?_⟩⟩
      rw [em2]
      -- the tables
      refine ⟨_, rfl, _, rfl, on, rfl, ⟨_, lof hon4⟩, fun D3 nD3 => ?_⟩
      refine lc_new (H1 := H4) (walk_at (K := K) (a := on) (xs := os.map V.str) .non) nD3 (fun H2 s2 => lof (s2 _ _ hon4)) (by rw [olm]; exact Nat.lt_of_le_of_lt (show os.length ≤ 2 by omega) (by decide))
        (fun j acc H' => ∃ rs : List TRow, acc = rs.map tv ∧ (∀ r ∈ rs, TAt H' r) ∧ rs.map (·.2.1) = os.take j ∧ ∀ r ∈ rs, r.2.2.2 = [pk]) ⟨[], rfl, (fun _ z => nomatch z), rfl, fun _ z => nomatch z⟩
        (fun j acc H H' im ⟨rs, e, ra, rt, rp⟩ => ⟨rs, e, fun r hr => (ra r hr).imm im, rt, rp⟩) (fun j H5 acc Q1 Q2 hj s5 ⟨rs, e, ra, rt, rp⟩ k1 k2 => ?_) (fun H5 acc s5 hD5 ⟨rs, e, ra, rt, rp⟩ => ?_)
      · rw [olm] at hj
        subst e
        refine ⟨rfl, ?_⟩
        refine iteT (B := Q2 H5) ?_
        rw [getD_str hj]
        refine ⟨_, rfl, _, rfl, _, rfl, D2, _, 0 + (i : Int), .str pk, rfl, rfl, lof ((ch4.same s5).g.ex _ _ hpl0), atpk, by show 1 ≤ sizeLine; decide, fun t1 n1 => ⟨by show 2 ≤ sizeLine; decide, fun t2 n2 => ?_⟩⟩
        refine k1 _ _ ((same_new n1).trans (same_new n2)) ⟨rs ++ [(t2, os[j], t1, [pk])], by rw [List.map_append]; rfl, fun r hr => ?_, by rw [List.map_append, rt, List.take_succ, List.getElem?_eq_getElem hj]; rfl, fun r hr => ?_⟩
        · rcases List.mem_append.mp hr with hr | hr
          · exact ((ra r hr).imm (imm_new n1)).imm (imm_new n2)
          · rw [List.mem_singleton] at hr; subst hr
            exact ⟨upd_same, same_new n2 _ _ upd_same⟩
        · rcases List.mem_append.mp hr with hr | hr
          · exact rp r hr
          · rw [List.mem_singleton] at hr; subst hr; rfl
      subst e
      rw [olm, List.take_length] at rt
      have rl : rs.length = os.length := by have := congrArg List.length rt; rwa [List.length_map] at this
      have ch5 := ch4.same s5
      have tsl : ts.length + ls.length = 8 := by
        have := congrArg List.length ch.ci.names
        rw [List.length_append, List.length_map, lw8] at this; exact this
      refine ⟨tl, D3, _, _, rfl, rfl, ch5.hT, hD5, by rw [List.length_map, List.length_map]; exact Nat.le_trans (show _ ≤ 10 by omega) (by decide), fun T1 nT1 => ?_⟩
      rw [← List.map_append]
      have s6 : Same H5 (upd H5 T1 (.lst ((ts ++ rs).map tv))) := same_new nT1
      have hT6 : (upd H5 T1 (.lst ((ts ++ rs).map tv))) T1 = some (.lst ((ts ++ rs).map tv)) := upd_same
      have T1n : T1 ≠ a ∧ T1 ≠ c := ⟨ch5.g.ne_a nT1, ch5.g.ne_c nT1⟩
      have T1f : B0 T1 = none := ch5.g.free nT1
      have l2T : l2 ≠ T1 := ne_of_none (s5 _ _ hl4) nT1
      have ra6 : ∀ r ∈ rs, TAt (upd H5 T1 (.lst ((ts ++ rs).map tv))) r := fun r hr => (ra r hr).imm (imm_new nT1)
      have ch6 := ch5.same s6
      have hl6 := s6 _ _ (s5 _ _ hl4)
      have hon6 := s6 _ _ (s5 _ _ hon4)
      generalize upd H5 T1 (.lst ((ts ++ rs).map tv)) = H6 at hT6 ra6 ch6 hl6 hon6 ⊢
      clear s3 s4 s5 s6 ra nT1 nD3 hD5 nl2 non ch5 ch4 ch3 hl4 hon4 hon3 ch2 fr2 st2 nL
      -- the lot
      have psz : valV (colsD cs) (.inr pk) = some (.int (sizeI cs pk)) ∧ 1 ≤ sizeI cs pk ∧ sizeI cs pk ≤ 6 := valV_sz okc0 pkc
      dsimp only [gName]
      refine seq_mid (t := tAsg _ _) (fun σ' H' => ∃ lt : Lot, σ' = [some (.ref a), some (.int n), some (.int gr), some (.ref wd), some (.ref l2), some (.ref D), some (.ref sz), some (.ref T1), some (.ref as), some (.int (room - m)), some (.ref D2), some (.int (0 + (i : Int))), some (.ref on), some (lotV lt), x14, x15] ∧
        CH a c B0 n cs path ws la tl as room ls ts ss ks H' ∧ H' T1 = some (.lst ((ts ++ rs).map tv)) ∧ H' l2 = some (.lst (l1.map V.str)) ∧ H' on = some (.lst (os.map V.str)) ∧ (∀ r ∈ rs, TAt H' r) ∧ ∀ x, lt = some x → H' x.1 = some (.tup (x.2.map V.int)) ∧ LotOk cs pk x.2) (fun D' kk => ?_) (fun σ' H' r => ?_)
      · have fin : ∀ (lt : Lot) H', Fr a c H6 H' → StAt H' a c → (∀ x, lt = some x → H' x.1 = some (.tup (x.2.map V.int)) ∧ LotOk cs pk x.2) → D'.nx [some (.ref a), some (.int n), some (.int gr), some (.ref wd), some (.ref l2), some (.ref D), some (.ref sz), some (.ref T1), some (.ref as), some (.int (room - m)), some (.ref D2), some (.int (0 + (i : Int))), some (.ref on), some (lotV lt), x14, x15] H' :=
          fun lt H' fr st lo => kk _ _ ⟨lt, rfl, ch6.fr fr st, fr _ _ T1n.1 T1n.2 hT6, fr _ _ l2n.1 l2n.2 hl6, fr _ _ onn.1 onn.2 hon6, fun r hr => (ra6 r hr).imm fun b xs e => fr b _ (ch6.g.st.ne e (fun _ z => nomatch z)).1 (ch6.g.st.ne e (fun _ z => nomatch z)).2 e, lo⟩
        have g1 := DGet.k (k := Sum.inr pk) (ch6.g.ex _ _ hsz0)
        rw [psz.1] at g1
        refine ⟨_, rfl, _, rfl, _, rfl, _, rfl, D2, _, 0 + (i : Int), .str pk, rfl, rfl, lof (ch6.g.ex _ _ hpl0), atpk, sz, .int (sizeI cs pk), rfl, g1, ?_⟩
        refine ⟨a, c, sizeI cs pk, but2 H6 a c, rfl, but2_gd ch6.g.st, psz.2.1, psz.2.2, fun H7 g7 => ?_, fun p ns B7 H7 s7 g7 hp7 dl => ?_⟩
        · exact fin none H7 (fr_of (Same.refl _) g7) g7.st (fun _ z => nomatch z)
        · exact fin (some (p, ns)) H7 (fr_of s7 g7) g7.st fun x hx => by cases hx; exact ⟨g7.ex _ _ hp7, dl.ne, dl.up, dl.own, Nat.le_trans dl.len (by decide)⟩
      obtain ⟨lt, rfl, ch7, hT7, hl7, hon7, ra7, lo⟩ := r
      clear ch6 hT6 hl6 hon6 ra6
      -- the stop
      refine seq_mid (t := tAsg _ _) (fun σ' H' => ∃ (as' : Addr) (s : SRow), σ' = [some (.ref a), some (.int n), some (.int gr), some (.ref wd), some (.ref l2), some (.ref D), some (.ref sz), some (.ref T1), some (.ref as'), some (.int (room - m)), some (.ref D2), some (.int (0 + (i : Int))), some (.ref on), some (lotV lt), x14, x15] ∧
        CH a c B0 n cs path ws l2 T1 as' (room - m) l1 (ts ++ rs) (ss ++ [s]) ks H') (fun D' kk => ?_) (fun σ' H' r => ?_)
      · refine ⟨_, rfl, _, rfl, _, rfl, D2, _, 0 + (i : Int), .str pk, rfl, rfl, lof (ch7.g.ex _ _ hpl0), atpk, _, rfl, _, rfl, Str, on, os, V.str, PyData.str, rfl, lof hon7, (fun z hz => ⟨.str _, by simp [PyData.depth]⟩), (fun d hd e he => ?_), .inr fun d hd => ?_, fun so nso => ?_⟩
        · obtain ⟨z, _, rfl⟩ := List.mem_map.mp hd
          obtain ⟨y, _, rfl⟩ := List.mem_map.mp he
          simp [alike]
        · obtain ⟨z, _, rfl⟩ := List.mem_map.mp hd
          exact ⟨(fun z => nomatch z), (fun xs z => nomatch z)⟩
        have s8 := same_new (o := .lst ((os.mergeSort (dataLe false PyData.str)).map V.str)) nso
        have hso : (upd H' so (.lst ((os.mergeSort (dataLe false PyData.str)).map V.str))) so = some (.lst ((sortS os).map V.str)) := upd_same
        generalize upd H' so (.lst ((os.mergeSort (dataLe false PyData.str)).map V.str)) = H8 at s8 hso ⊢
        refine .inl ⟨so, _, rfl, lof hso, fun p1 n1 => ⟨by show 3 ≤ sizeLine; decide, fun p2 n2 => ⟨by show 1 ≤ sizeLine; decide, fun p3 n3 => ?_⟩⟩⟩
        have s9 : Same H8 (upd H8 p1 (.tup ((sortS os).map V.str))) := same_new n1
        have h91 : (upd H8 p1 (.tup ((sortS os).map V.str))) p1 = some (.tup ((sortS os).map V.str)) := upd_same
        generalize upd H8 p1 (.tup ((sortS os).map V.str)) = H9 at s9 h91 n2 n3 ⊢
        have s10 : Same H9 (upd H9 p2 (.tup [.str pk, lotV lt, .ref p1])) := same_new n2
        have h102 : (upd H9 p2 (.tup [.str pk, lotV lt, .ref p1])) p2 = some (.tup [.str pk, lotV lt, .ref p1]) := upd_same
        generalize upd H9 p2 (.tup [.str pk, lotV lt, .ref p1]) = H10 at s10 h102 n3 ⊢
        have s11 : Same H10 (upd H10 p3 (.tup [.ref p2])) := same_new n3
        have h113 : (upd H10 p3 (.tup [.ref p2])) p3 = some (.tup [.ref p2]) := upd_same
        generalize upd H10 p3 (.tup [.ref p2]) = H11 at s11 h113 ⊢
        have sA : Same H' H11 := s8.trans (s9.trans (s10.trans s11))
        have ch11 := ch7.same sA
        have sat : SAt H11 (p2, pk, lt, p1, sortS os) := ⟨s11 _ _ h102, fun x hx => sA _ _ (lo x hx).1, (s10.trans s11) _ _ h91⟩
        have klen : ks.length = ss.length := by omega
        have ew : weave ((ss ++ [((p2, pk, lt, p1, sortS os) : SRow)]).map sv) (ks.map kw) = weave (ss.map sv) (ks.map kw) ++ [V.ref p2] := by
          rw [List.map_append, List.map_singleton, weave_s (by rw [List.length_map, List.length_map]; exact klen.symm)]; rfl
        have fin : ∀ (as' : Addr) H12, Same H11 H12 → H12 as' = some (.tup (weave ((ss ++ [((p2, pk, lt, p1, sortS os) : SRow)]).map sv) (ks.map kw))) → CH a c B0 n cs path ws l2 T1 as' (room - m) l1 (ts ++ rs) (ss ++ [(p2, pk, lt, p1, sortS os)]) ks H12 := fun as' H12 s12 ha => by
          have sB := sA.trans s12
          have x := ch7.same sB
          refine ⟨x.g, T1f, T1n, l2n, sB _ _ hT7, sB _ _ hl7, l2T, ha, fun r hr => ?_, fun z hz => ?_, x.ka, ⟨by rw [lod]; omega, by omega⟩, ci.stop nws.nd (by rw [sl]; exact hpk) pkc rt rp rfl (by omega) fun y hy => (lo y hy).2⟩
          · rcases List.mem_append.mp hr with hr | hr
            · exact x.ta r hr
            · exact (ra7 r hr).imm (same_imm sB)
          · rcases List.mem_append.mp hz with hz | hz
            · exact x.sa z hz
            · rw [List.mem_singleton] at hz; subst hz; exact sat.imm (same_imm s12)
        have wlen : (weave (ss.map sv) (ks.map kw)).length ≤ 20 := by
          have h1 : ∀ {α : Type} (xs ys : List α), (weave xs ys).length ≤ xs.length + ys.length := by
            intro α xs
            induction xs with
            | nil => intro ys; cases ys <;> simp [weave]
            | cons x xs ih =>
              intro ys
              cases ys with
              | nil => simp [weave]
              | cons y ys => simp only [weave, List.length_cons]; have := ih ys; omega
          have := h1 (ss.map sv) (ks.map kw)
          rw [List.length_map, List.length_map] at this
          omega
        refine ⟨as, p3, _, [.ref p2], rfl, rfl, tof ch11.hA, tof h113, Nat.le_trans (show _ ≤ 21 by rw [List.length_singleton]; omega) (by decide), fun e => ?_, (fun _ z => nomatch z), fun ne _ p4 n4 => ?_⟩
        · exact kk _ _ ⟨p3, (p2, pk, lt, p1, sortS os), rfl, fin p3 H11 (Same.refl _) (by rw [ew, e]; exact h113)⟩
        · exact kk _ _ ⟨p4, (p2, pk, lt, p1, sortS os), rfl, fin p4 _ (same_new n4) (by rw [ew]; exact upd_same)⟩
      obtain ⟨as1, s, rfl, ch8⟩ := r
      clear ch7 hT7 hl7 hon7 ra7 lo
      -- the link
      refine ⟨_, rfl, 0 + (i : Int), 1, rfl, rfl, _, rfl, _, _, rfl, rfl, _, rfl, ite2 (fun h => ?_) (fun h => ?_)⟩
      · have hlt : (i : Int) + 1 < n := by have : 0 + (i : Int) + 1 < n := of_decide_eq_true h; omega
        have rm8 := ch8.rm
        have l1n : l1 ≠ [] := fun z => by rw [z] at rm8; simp only [List.length_nil] at rm8; omega
        obtain ⟨l, l3, rfl⟩ : ∃ x y, l1 = x :: y := List.exists_cons_of_ne_nil l1n
        obtain ⟨pk2, hpk2⟩ : ∃ z, path[i + 1]? = some z := ⟨path[i + 1]'(by omega), List.getElem?_eq_getElem (by omega)⟩
        have gpk2 : (path.map V.str)[i + 1]? = some (.str pk2) := by rw [List.getElem?_map, hpk2]; rfl
        have atpk2 : atI (path.map V.str) (0 + (i : Int) + 1) = some (.str pk2) := atI_lt (by omega) (by omega) (by rw [show (0 + (i : Int) + 1).toNat = i + 1 by omega]; exact gpk2)
        have pkc2 := pin pk2 (List.mem_of_getElem? hpk2)
        refine ⟨_, rfl, a, c, 2, rfl, ch8.g.st, by decide, by decide, fun wy H3 w0 w1 st3 fr3 => ?_⟩
        have ch9 := ch8.fr fr3 st3
        clear ch8
        have atl : ∀ {xs : List Str}, atI ((l :: xs).map V.str) 0 = some (.str l) := fun {xs} => atI_lt (by decide) (by rw [List.length_map, List.length_cons]; omega) rfl
        refine ⟨_, rfl, .inl ⟨rfl, _, lof ch9.hT⟩, _, rfl, l2, _, 0, .str l, rfl, rfl, lof ch9.hL, atl, ?_⟩
        have hp9 := ch9.g.ex _ _ hpl0
        refine ⟨_, rfl, _, rfl, D2, _, 0 + (i : Int), .str pk, rfl, rfl, lof hp9, atpk, _, rfl, _, rfl, 0 + (i : Int), 1, rfl, rfl, D2, _, 0 + (i : Int) + 1, .str pk2, rfl, rfl, lof hp9, atpk2, by show 2 ≤ sizeLine; decide, fun t1 n1 => ?_⟩
        have s4 : Same H3 (upd H3 t1 (.tup [.str pk, .str pk2])) := same_new n1
        have h4 : (upd H3 t1 (.tup [.str pk, .str pk2])) t1 = some (.tup [.str pk, .str pk2]) := upd_same
        generalize upd H3 t1 (.tup [.str pk, .str pk2]) = H4 at s4 h4 ⊢
        have hp4 := s4 _ _ hp9
        refine ⟨_, rfl, _, rfl, 0 + (i : Int), 1, rfl, rfl, D2, _, 0 + (i : Int) + 1, .str pk2, rfl, rfl, lof hp4, atpk2, _, rfl, _, rfl, D2, _, 0 + (i : Int), .str pk, rfl, rfl, lof hp4, atpk, by show 2 ≤ sizeLine; decide, fun t2 n2 => ?_⟩
        have s5 : Same H4 (upd H4 t2 (.tup [.str pk2, .str pk])) := same_new n2
        have h5 : (upd H4 t2 (.tup [.str pk2, .str pk])) t2 = some (.tup [.str pk2, .str pk]) := upd_same
        have h45 := s5 _ _ h4
        generalize upd H4 t2 (.tup [.str pk2, .str pk]) = H5 at s5 h5 h45 ⊢
        refine ⟨by show 2 ≤ sizeLine; decide, fun L nL => ?_⟩
        have s6 : Same H5 (upd H5 L (.lst [.ref t1, .ref t2])) := same_new nL
        have h6 : (upd H5 L (.lst [.ref t1, .ref t2])) L = some (.lst [.ref t1, .ref t2]) := upd_same
        have h451 := s6 _ _ h45
        have h452 := s6 _ _ h5
        generalize upd H5 L (.lst [.ref t1, .ref t2]) = H6 at s6 h6 h451 h452 ⊢
        obtain ⟨tq, etq, hq⟩ : ∃ tq, atI [V.ref t1, V.ref t2] wy = some (.ref tq) ∧ H6 tq = some (.tup ((order2 wy pk pk2).map V.str)) := by
          rcases (show wy = 0 ∨ wy = 1 by omega) with rfl | rfl
          · exact ⟨t1, rfl, h451⟩
          · exact ⟨t2, rfl, h452⟩
        refine ⟨_, rfl, L, _, wy, .ref tq, rfl, rfl, lof h6, etq, by show 2 ≤ sizeLine; decide, fun t3 n3 => ?_⟩
        have s7 : Same H6 (upd H6 t3 (.tup [.str l, .ref tq])) := same_new n3
        have h7 : (upd H6 t3 (.tup [.str l, .ref tq])) t3 = some (.tup [.str l, .ref tq]) := upd_same
        have hq7 := s7 _ _ hq
        generalize upd H6 t3 (.tup [.str l, .ref tq]) = H7 at s7 h7 hq7 ⊢
        have ch10 := ch9.same (s4.trans (s5.trans (s6.trans s7)))
        have tl9 : (ts ++ rs).length ≤ 8 := by rw [List.length_append]; omega
        refine ⟨T1, _, .ref t3, rfl, rfl, ch10.hT, by rw [List.length_map]; exact Nat.lt_of_le_of_lt tl9 (by decide), ?_⟩
        have ci9 := ch9.ci
        have sl1 : (ss ++ [s]).length = i + 1 := by rw [List.length_append, sl]; rfl
        obtain ⟨r, er⟩ : ∃ r : TRow, ((t3, l, tq, order2 wy pk pk2) : TRow) = r := ⟨_, rfl⟩
        have er1 : V.ref t3 = tv r := by rw [← er]; rfl
        have im : Imm H7 (upd H7 T1 (.lst ((ts ++ rs).map tv ++ [.ref t3]))) := imm_lst' ch10.hT
        have rat : TAt (upd H7 T1 (.lst ((ts ++ rs).map tv ++ [.ref t3]))) r := by rw [← er]; exact ⟨im _ _ h7, im _ _ hq7⟩
        have gN : Gd a c B0 (upd H7 T1 (.lst ((ts ++ rs).map tv ++ [.ref t3]))) := ch10.g.chg ch10.ft ch10.nt.1 ch10.nt.2
        have hT' : (upd H7 T1 (.lst ((ts ++ rs).map tv ++ [.ref t3]))) T1 = some (.lst ((ts ++ rs ++ [r]).map tv)) := by rw [upd_same, er1]; simp only [List.map_append, List.map_cons, List.map_nil]
        have hL' : (upd H7 T1 (.lst ((ts ++ rs).map tv ++ [.ref t3]))) l2 = some (.lst ((l :: l3).map V.str)) := by rw [upd_ne ch10.ne]; exact ch10.hL
        have hA' := im _ _ ch10.hA
        have ta' : ∀ z ∈ ts ++ rs ++ [r], TAt (upd H7 T1 (.lst ((ts ++ rs).map tv ++ [.ref t3]))) z := fun z hz => by
          rcases List.mem_append.mp hz with hz | hz
          · exact (ch10.ta z hz).imm im
          · rw [List.mem_singleton] at hz; rw [hz]; exact rat
        have sa' : ∀ z ∈ ss ++ [s], SAt (upd H7 T1 (.lst ((ts ++ rs).map tv ++ [.ref t3]))) z := fun z hz => (ch10.sa z hz).imm im
        have ka' : ∀ z ∈ ks, KAt (upd H7 T1 (.lst ((ts ++ rs).map tv ++ [.ref t3]))) z := fun z hz => im _ _ (ch10.ka z hz)
        generalize upd H7 T1 (.lst ((ts ++ rs).map tv ++ [.ref t3])) = H8 at gN hT' hL' hA' ta' sa' ka' ⊢
        refine ⟨_, rfl, _, rfl, l2, _, 0, .str l, rfl, rfl, lof hL', atl, _, rfl, by show 2 ≤ sizeLine; decide, fun t4 n4 => ⟨by show 1 ≤ sizeLine; decide, fun t5 n5 => ?_⟩⟩
        have s9 : Same H8 (upd H8 t4 (.tup [.str l, .int wy])) := same_new n4
        have h9 : (upd H8 t4 (.tup [.str l, .int wy])) t4 = some (.tup [.str l, .int wy]) := upd_same
        generalize upd H8 t4 (.tup [.str l, .int wy]) = H9 at s9 h9 n5 ⊢
        have s10 : Same H9 (upd H9 t5 (.tup [.ref t4])) := same_new n5
        have h10 : (upd H9 t5 (.tup [.ref t4])) t5 = some (.tup [.ref t4]) := upd_same
        generalize upd H9 t5 (.tup [.ref t4]) = H10 at s10 h10 ⊢
        have wl : ((ss ++ [s]).map sv).length = (ks.map kw).length + 1 := by rw [List.length_map, List.length_map]; omega
        have wn := weave_len wl
        have kl' : (ks.map kw).length = ks.length := List.length_map _
        refine ⟨as1, t5, _, [.ref t4], rfl, rfl, tof ((s9.trans s10) _ _ hA'), tof h10, Nat.le_trans (show _ ≤ 20 by rw [wn, List.length_singleton]; omega) (by decide), (fun e => by rw [e] at wn; simp at wn), (fun _ z => nomatch z), fun _ _ p5 np5 => ?_⟩
        have s11 := same_new (o := .tup (weave ((ss ++ [s]).map sv) (ks.map kw) ++ [V.ref t4])) np5
        have h11 : (upd H10 p5 (.tup (weave ((ss ++ [s]).map sv) (ks.map kw) ++ [V.ref t4]))) p5 = some (.tup (weave ((ss ++ [s]).map sv) ((ks ++ [((t4, l, wy) : KRow)]).map kw))) := by rw [upd_same, show (ks ++ [((t4, l, wy) : KRow)]).map kw = ks.map kw ++ [V.ref t4] by rw [List.map_append]; rfl, weave_k wl]
        generalize upd H10 p5 (.tup (weave ((ss ++ [s]).map sv) (ks.map kw) ++ [V.ref t4])) = H11 at s11 h11 ⊢
        have sA := s9.trans (s10.trans s11)
        refine ⟨_, rfl, 1, rfl, l2, _, rfl, lof (sA _ _ hL'), fun l4 n4' => ⟨_, _, rfl, ?_⟩⟩
        rw [show cutV ((l :: l3).map V.str) (some 1) none = l3.map V.str by rw [cut_from (by decide) (by rw [List.length_map, List.length_cons]; omega)]; rfl]
        have s12 := same_new (o := .lst (l3.map V.str)) n4'
        have sB := sA.trans s12
        have gg := gN.same sA
        have im2 := same_imm sB
        refine ⟨l4, T1, p5, room - m, l3, ts ++ rs ++ [r], ss ++ [s], ks ++ [((t4, l, wy) : KRow)], _, _, _, _, _, rfl, ⟨gN.same sB, ch10.ft, ch10.nt, ⟨gg.ne_a n4', gg.ne_c n4'⟩, sB _ _ hT', upd_same, (ne_of_none (sA _ _ hT') n4').symm, s12 _ _ h11, fun z hz => (ta' z hz).imm im2, fun z hz => (sa' z hz).imm im2, fun z hz => ?_, ⟨?_, rm8.2⟩, ?_⟩, sl1, fun _ => ?_, fun z => ?_⟩
        · rcases List.mem_append.mp hz with hz | hz
          · exact im2 _ _ (ka' z hz)
          · rw [List.mem_singleton] at hz; rw [hz]; exact ((s10.trans s11).trans s12) _ _ h9
        · rw [List.length_append, List.length_singleton]
          have := rm8.1
          rw [List.length_cons] at this; omega
        · exact ci9.link nws.nd (by rw [kl]; exact hpk) (by rw [kl]; exact hpk2) pkc pkc2 rfl (by rw [← er]) (by show wy = 0 ∨ wy = 1; omega) (by rw [← er])
        · rw [List.length_append, kl]; rfl
        · omega
      · have hlast : (i : Int) + 1 = n := by have : ¬ (0 + (i : Int) + 1 < n) := fun z => h (decide_eq_true z); omega
        exact ⟨l2, T1, as1, room - m, l1, ts ++ rs, ss ++ [s], ks, _, _, _, _, _, rfl, ch8, by rw [List.length_append, sl]; rfl, fun z => by omega, fun z => by omega⟩
    · rintro σ H1 ⟨la, tl, as, room, ls, ts, ss, ks, x11, x12, x13, x14, x15, rfl, ch, sl, -, kl⟩
      have kl := kl (by omega)
      have tsl : ts.length + ls.length = 8 := by
        have := congrArg List.length ch.ci.names
        rw [List.length_append, List.length_map, lw8] at this; exact this
      have wsn : ∀ {ls' : List Str} {ts' : List TRow}, CI cs path ws ls' ts' ss ks → ∀ r ∈ ts', PyData.strOk r.2.1 = true ∧ ∀ x ∈ r.2.2.2, PyData.strOk x = true := fun ci r hr => by
        refine ⟨name_ok (nws.nm _ (by rw [← ci.names]; exact List.mem_append_left _ (List.mem_map.mpr ⟨r, hr, rfl⟩))), fun x hx => ?_⟩
        obtain ⟨z, hz, rfl⟩ := List.mem_map.mp (ci.part r hr x hx)
        exact name_ok (okc0.nm z hz)
      -- more tables
      dsimp only
      refine for_lst_mid (fun v H' => ∃ (x : Addr) (os rest : List Str), v = .ref x ∧ CH a c B0 n cs path ws la tl as room ls ts ss ks H' ∧ H' x = some (.lst (os.map V.str)) ∧ (x ≠ a ∧ x ≠ c ∧ x ≠ tl) ∧ ls = os ++ rest ∧ ts.length + os.length ≤ 8 ∧ 1 ≤ ts.length + os.length) (fun Q' kk => ?_) (fun v H' r => ?_)
      · refine ⟨_, rfl, Nat.zero_le _, fun e ne => ?_⟩
        have ch1 := ch.same (same_new (o := .lst ([] : List V)) ne)
        have he : (upd H1 e (.lst [])) e = some (.lst []) := upd_same
        generalize upd H1 e (.lst []) = H2 at ch1 he ⊢
        refine ne_nil (B := H2) (plain_tabA ch1.ta (wsn ch1.ci)) (Same.refl _) ch1.hT he ⟨_, rfl, ite2 (fun h => ?_) (fun h => ?_)⟩
        · have tne : 1 ≤ ts.length := by
            rw [Bool.not_eq_true', decide_eq_false_iff_not] at h
            exact List.length_pos_iff.mpr fun z => h (by rw [z]; rfl)
          refine ⟨_, rfl, _, rfl, tl, _, rfl, .inl (lof ch1.hT), 8, _, rfl, rfl, _, rfl, a, c, 3, rfl, ch1.g.st, by decide, by decide, fun u H3 u0 u1 st3 fr3 => ?_⟩
          have ch3 := ch1.fr fr3 st3
          refine ⟨_, _, rfl, _, rfl, la, _, rfl, lof ch3.hL, fun x nx => ?_⟩
          obtain ⟨m, em, m0, m1⟩ : ∃ m, (if u < 8 - ((ts.map tv).length : Int) then u else 8 - ((ts.map tv).length : Int)) = m ∧ 0 ≤ m ∧ m ≤ ls.length := by
            refine ⟨_, rfl, ?_, ?_⟩ <;> rw [List.length_map] <;> split <;> omega
          rw [em, cut_to m0, ← List.map_take]
          refine kk _ _ ⟨x, ls.take m.toNat, ls.drop m.toNat, rfl, ch3.same (same_new nx), upd_same, ⟨ch3.g.ne_a nx, ch3.g.ne_c nx, (ne_of_none ch3.hT nx).symm⟩, (List.take_append_drop _ _).symm, ?_, by omega⟩
          rw [List.length_take]; omega
        · have te : ts = [] := by
            rw [Bool.not_eq_true', decide_eq_false_iff_not, Classical.not_not] at h
            cases ts with
            | nil => rfl
            | cons r t => simp at h
          refine ⟨_, rfl, 1, rfl, la, _, rfl, lof ch1.hL, fun x nx => ?_⟩
          rw [cut_to (by decide), ← List.map_take]
          have l8 : ls.length = 8 := by rw [te] at tsl; simpa using tsl
          refine kk _ _ ⟨x, ls.take 1, ls.drop 1, rfl, ch1.same (same_new nx), upd_same, ⟨ch1.g.ne_a nx, ch1.g.ne_c nx, (ne_of_none ch1.hT nx).symm⟩, (List.take_append_drop _ _).symm, ?_, ?_⟩
          · rw [List.length_take, te]; show 0 + min 1 ls.length ≤ 8; omega
          · rw [List.length_take]; omega
      · obtain ⟨x, os, rest, rfl, ch2, hx, ⟨xa, xc, xt⟩, els, few, one⟩ := r
        have olm : (os.map V.str).length = os.length := List.length_map _
        have rlen : (os ++ rest).length = ls.length := by rw [els]
        refine ⟨x, rfl, ⟨_, lof hx⟩, for_list (K := K) (a := x) (xs := os.map V.str) (fun j σ H' => ∃ (ts' : List TRow) (y11 y15 : Option V),
          σ = [some (.ref a), some (.int n), some (.int gr), some (.ref wd), some (.ref la), some (.ref D), some (.ref sz), some (.ref tl), some (.ref as), some (.int room), some (.ref D2), y11, x12, x13, x14, y15] ∧
          Gd a c B0 H' ∧ H' tl = some (.lst (ts'.map tv)) ∧ H' as = some (.tup (weave (ss.map sv) (ks.map kw))) ∧ (∀ r ∈ ts', TAt H' r) ∧ (∀ z ∈ ss, SAt H' z) ∧ (∀ z ∈ ks, KAt H' z) ∧ H' x = some (.lst (os.map V.str)) ∧ CI cs path ws (os.drop j ++ rest) ts' ss ks ∧ ts'.length = ts.length + j)
          ⟨ts, _, _, rfl, ch2.g, ch2.hT, ch2.hA, ch2.ta, ch2.sa, ch2.ka, hx, by rw [List.drop_zero, ← els]; exact ch2.ci, rfl⟩ (fun j σ H' _ ⟨_, _, _, _, _, _, _, _, _, _, h, _⟩ => lof h) ?_ ?_⟩
        · rintro j v σ H3 hv ⟨ts', y11, y15, rfl, g3, hT3, hA3, ta3, sa3, ka3, hx3, ci3, tl3⟩
          have hj : j < os.length := by have := (List.getElem?_eq_some_iff.mp hv).1; rw [olm] at this; exact this
          have ev : v = .str os[j] := by
            rw [List.getElem?_map, List.getElem?_eq_getElem hj] at hv; exact (Option.some.inj hv).symm
          subst ev
          refine ⟨_, rfl, .inl ⟨rfl, _, lof hT3⟩, _, rfl, _, rfl, a, c, 2, rfl, g3.st, by decide, by decide, fun r H4 r0 r1 st4 fr4 => ⟨1, r, rfl, rfl, 1 + r, rfl, by omega, by omega, fun D3 nD3 => ?_⟩⟩
          have g4 := but2_gd st4
          have hcl4 : but2 H4 a c D = some (.lst (cs.map cv)) := by rw [but2_at cla clc]; exact (g3.fr fr4 st4).ex _ _ hcl0
          have okc4 : ColsOk (but2 H4 a c) cs := okc0.sub fun b o e n => by
            have h := (g3.fr fr4 st4).ex _ _ e
            rw [but2_at (ne_of_none e gB0.na) (ne_of_none e gB0.nc)]; exact h
          refine lc_draw (B := but2 H4 a c) (H1 := H4) (a := a) (c := c) walk_range g4 nD3 (fun _ _ _ _ => trivial) (Nat.lt_of_le_of_lt (show (1 + r).toNat ≤ 2 by omega) (by decide))
            (fun i acc _ => ∃ zs : List Str, acc = zs.map V.str ∧ zs.length = i ∧ ∀ x ∈ zs, x ∈ cs.map (·.2.1)) ⟨[], rfl, rfl, fun _ z => nomatch z⟩ (fun _ _ _ _ h _ => h) (fun i acc _ ⟨zs, e, l, _⟩ => by rw [e, List.length_map, l]; exact Nat.le_refl _)
            (fun i H10 B10 acc Q1 Q2 hi s10 g10 p10 d10 k1 k2 => ?_) (fun H10 B10 acc s10 g10 d10 p10 => ?_)
          · obtain ⟨zs, rfl, lz, hz⟩ := p10
            refine ⟨rfl, ?_⟩
            refine iteT (B := Q2 H10) ?_
            refine ⟨_, rfl, _, rfl, a, c, .ref D, rfl, g10.st, .inl ⟨D, _, rfl, cla, clc, g10.ex _ _ (s10 _ _ hcl4), pos.1, pos.2, fun v H11 hv st11 fr11 => ?_⟩⟩
            obtain ⟨r1, hr1', rfl⟩ := List.mem_map.mp hv
            have g11 := g10.fr fr11 st11
            refine ⟨r1.1, _, 0, .str r1.2.1, rfl, rfl, tof (g11.ex _ _ (s10 _ _ (okc4.row r1 hr1'))), rfl, k1 _ _ B10 (Same.refl _) g11 ⟨zs ++ [r1.2.1], ?_, ?_, fun x hx => ?_⟩⟩
            · rw [List.map_append]; rfl
            · rw [List.length_append, lz]; rfl
            · rcases List.mem_append.mp hx with hx | hx
              · exact hz x hx
              · rw [List.mem_singleton] at hx; rw [hx]; exact List.mem_map_of_mem hr1'
          obtain ⟨zs, rfl, lz, zin⟩ := p10
          have fr := fr_of s10 g10
          have frA : ∀ b o, b ≠ a → b ≠ c → H3 b = some o → H10 b = some o := fun b o ba bc e => fr b o ba bc (fr4 b o ba bc e)
          have imA : Imm H3 H10 := fun b xs e => frA b _ (g3.st.ne e (fun _ z => nomatch z)).1 (g3.st.ne e (fun _ z => nomatch z)).2 e
          refine .inl ⟨D3, _, rfl, lof (g10.ex _ _ d10), fun p np => ⟨by show 2 ≤ sizeLine; decide, fun t nt => ?_⟩⟩
          have s5 : Same H10 (upd H10 p (.tup (zs.map V.str))) := same_new np
          have h5 : (upd H10 p (.tup (zs.map V.str))) p = some (.tup (zs.map V.str)) := upd_same
          generalize upd H10 p (.tup (zs.map V.str)) = H5 at s5 h5 nt ⊢
          have s6 : Same H5 (upd H5 t (.tup [.str os[j], .ref p])) := same_new nt
          have h6 : (upd H5 t (.tup [.str os[j], .ref p])) t = some (.tup [.str os[j], .ref p]) := upd_same
          have h56 := s6 _ _ h5
          generalize upd H5 t (.tup [.str os[j], .ref p]) = H6 at s6 h6 h56 ⊢
          have sS := s5.trans s6
          have g6 : Gd a c B0 H6 := ((g3.fr frA g10.st)).same sS
          have im6 : Imm H3 H6 := fun b xs e => sS _ _ (imA b xs e)
          have hT6 := sS _ _ (frA _ _ ch2.nt.1 ch2.nt.2 hT3)
          refine ⟨tl, _, .ref t, rfl, rfl, hT6, by rw [List.length_map]; exact Nat.lt_of_le_of_lt (show ts'.length ≤ 8 by omega) (by decide), ?_⟩
          have im7 : Imm H6 (upd H6 tl (.lst (ts'.map tv ++ [.ref t]))) := imm_lst' hT6
          have eos : os.drop j = os[j] :: os.drop (j + 1) := List.drop_eq_getElem_cons hj
          rw [eos] at ci3
          refine ⟨ts' ++ [((t, os[j], p, zs) : TRow)], _, _, rfl, g6.chg ch2.ft ch2.nt.1 ch2.nt.2, by rw [upd_same, List.map_append]; rfl, im7 _ _ (im6 _ _ hA3), fun r hr => ?_, fun z hz => ((sa3 z hz).imm im6).imm im7, fun z hz => im7 _ _ (im6 _ _ (ka3 z hz)), by rw [upd_ne xt]; exact sS _ _ (frA _ _ xa xc hx3), ?_, by rw [List.length_append, tl3]; rfl⟩
          · rcases List.mem_append.mp hr with hr | hr
            · exact ((ta3 r hr).imm im6).imm im7
            · rw [List.mem_singleton] at hr; rw [hr]; exact ⟨im7 _ _ h6, im7 _ _ h56⟩
          · exact ci3.more (l := os[j]) rfl ⟨by show 1 ≤ zs.length; omega, by show zs.length ≤ 2; omega⟩ zin
        · rintro σ H3 ⟨ts', y11, y15, rfl, g3, hT3, hA3, ta3, sa3, ka3, hx3, ci3, tl3⟩
          rw [olm, List.drop_length, List.nil_append] at ci3
          rw [olm] at tl3
          have pl : ∀ y ∈ ts'.map tv, Plain K (but2 H3 a c) y := plain_tabA (fun r hr => (ta3 r hr).but g3.st) (wsn ci3)
          refine ⟨_, rfl, _, rfl, _, rfl, a, c, tl, ts'.map tv, but2 H3 a c, rfl, but2_gd g3.st, hT3, by rw [List.length_map]; omega, pl, fun m ys B4 H4 pm s4 g4 nm hm => ?_⟩
          obtain ⟨ts2, pm2, rfl⟩ := perm_rows pm ts' rfl
          refine ⟨_, rfl, by show 3 ≤ sizeLine; decide, fun p np => ?_⟩
          have s5 : Same H4 (upd H4 p (.tup [.ref D, .ref m, .ref as])) := same_new np
          have hp : (upd H4 p (.tup [.ref D, .ref m, .ref as])) p = some (.tup [.ref D, .ref m, .ref as]) := upd_same
          have st5 := g4.st.same s5
          generalize upd H4 p (.tup [.ref D, .ref m, .ref as]) = H5 at s5 hp st5 ⊢
          have fr := fr_of s4 g4
          have im : Imm H3 (but2 H5 a c) := fun b xs e => but2_obj st5 (s5 _ _ (fr b _ (g3.st.ne e (fun _ z => nomatch z)).1 (g3.st.ne e (fun _ z => nomatch z)).2 e)) (fun _ z => nomatch z)
          have g5 : Gd a c B0 H5 := ((g3.fr fr g4.st)).same s5
          have sF : Same B0 (but2 H5 a c) := but2_sub g5
          have nd2 : (ts2.map (·.2.1)).Nodup := by
            rw [(pm2.map _).nodup_iff]
            have := ci3.names ▸ nws.nd
            rw [List.nodup_append] at this; exact this.1
          have sub := fun r (hr : r ∈ ts2) => pm2.mem_iff.mp hr
          refine q p D m as cs ts2 ss ks (but2 H5 a c) H5 (s10.trans sF) (but2_gd st5) (but2_obj st5 hp (fun _ z => nomatch z)) (sF _ _ hcl0) (okc0.same sF) lc3 (fun r hr => (csz r hr).2) ?_ ⟨fun r hr => im _ _ (ta3 r (sub r hr)).1, fun r hr => im _ _ (ta3 r (sub r hr)).2, ⟨by rw [pm2.length_eq]; omega, by rw [pm2.length_eq]; omega⟩, fun r hr => ?_, fun r hr => ci3.two r (sub r hr), fun r hr => ci3.part r (sub r hr), nd2⟩
            ⟨im _ _ hA3, fun z hz => (sa3 z hz).imm im, fun z hz => im _ _ (ka3 z hz), by omega⟩ (ci3.ok nws.nd pm2 (by omega) pin) (by omega)
          · rw [but2_at (ne_of_none hm g4.na) (ne_of_none hm g4.nc)]; exact s5 _ _ (g4.ex _ _ hm)
          · exact nws.nm _ (by rw [← ci3.names]; exact List.mem_append_left _ (List.mem_map.mpr ⟨r, sub r hr, rfl⟩))
end
end As

/-! ## G20 -/
namespace As
open PySem PySem.Spec PyProof.Rows L2 TL
open PySem.W (dataLe AllAlike Sortable dataLt alike)
section
variable {P : Program} {w : World} {K : PySem.W.Frag} {mg : Str → Option Value} {base : Heap}
/-! values that are no rows -/
theorem catAK {X : Cx} (K : PySem.W.Frag) (h : X.K = K := by rfl) : OpR X (binaryOp .Add) (rCatA K) := h ▸ op_catA
theorem slAK {X : Cx} (K : PySem.W.Frag) (h : X.K = K := by rfl) : SlR X (rSlA K) := h ▸ sl_tupA
/-- an expression: R tells what it gives -/
theorem te_mid {te : TE} {σ : L2.St} {H : Hp} {Q : VK} (R : V → Hp → Prop) (h : ∀ Q' : VK, (∀ v H', R v H' → Q' v H') → te σ H Q') (k : ∀ v H', R v H' → Q v H') : te σ H Q := h Q k
structure NB (Pd : Hp → V → Prop) (r : Addr) (us : List V) (H : Hp) (L : List V) : Prop where
  hr : H r = some (.tup us)
  all : ∀ x ∈ L, Pd H x
def Cl (Pd : Hp → V → Prop) : Prop := ∀ H H' x, Same H H' → Pd H x → Pd H' x
theorem NB.same {Pd : Hp → V → Prop} (cl : Cl Pd) {r : Addr} {us : List V} {H H' : Hp} {L : List V} (b : NB Pd r us H L) (s : Same H H') : NB Pd r us H' L := ⟨s _ _ b.hr, fun x hx => cl _ _ _ s (b.all x hx)⟩
theorem NB.snoc {Pd : Hp → V → Prop} {r : Addr} {us : List V} {H : Hp} {L : List V} {x : V} (b : NB Pd r us H L) (h : Pd H x) : NB Pd r us H (L ++ [x]) := ⟨b.hr, fun y hy => by
  rcases List.mem_append.mp hy with hy | hy
  · exact b.all y hy
  · rw [List.mem_singleton] at hy; subst hy; exact h⟩
def OddV (lot : List Int) (H : Hp) (x : V) : Prop := (∃ k, Val H x k) ∧ inI x lot = false
def BadV (ns : List (List Int)) (H : Hp) (x : V) : Prop := Deep1 H x ∧ isRowV H ns x = false
theorem odd_cl {lot : List Int} : Cl (OddV lot) := fun H H' x s h => ⟨h.1.imp fun _ z => z.same s, h.2⟩
theorem bad_cl {ns : List (List Int)} : Cl (BadV ns) := fun H H' x s h => ⟨h.1.same s, by rw [isRowV_same h.1 s]; exact h.2⟩
theorem bad_val {ns : List (List Int)} {H : Hp} {x : V} {k : Kind} (h : Val H x k) (n : k ≠ .tup) : BadV ns H x := by
  rcases h.tupV with ⟨_, e⟩ | ⟨e, _⟩
  · exact ⟨⟨⟨k, h⟩, fun xs z => by rw [e] at z; cases z⟩, by unfold isRowV; rw [e]⟩
  · exact absurd e n
theorem bad_tup {ns : List (List Int)} {H : Hp} {a : Addr} {xs : List V} (h : H a = some (.tup xs)) (d : ∀ y ∈ xs, ∃ k, Val H y k) (no : xs.length ≠ ns.length ∨ ∃ (i : Nat) (x : V) (l : List Int), xs[i]? = some x ∧ ns[i]? = some l ∧ inI x l = false) : BadV ns H (.ref a) := by
  have e : As.tupV H (.ref a) = some xs := tupV_at h
  refine ⟨⟨⟨_, .tup h⟩, fun ys z => by rw [e] at z; cases z; exact d⟩, ?_⟩
  unfold isRowV
  rw [e]
  dsimp only
  rcases no with no | ⟨i, x, l, hx, hl, z⟩
  · rw [decide_eq_false no]; rfl
  · have : (xs.zip ns).all (fun p => inI p.1 p.2) = false := by
      rw [Bool.eq_false_iff]
      intro y
      rw [List.all_eq_true] at y
      have := y (x, l) (List.mem_of_getElem? (i := i) (by rw [List.getElem?_zip_eq_some]; exact ⟨hx, hl⟩))
      rw [z] at this; cases this
    rw [this, Bool.and_false]
theorem inI_no {v : Int} {l : List Int} (h : v ∉ l) : inI (.int v) l = false := by
  unfold inI
  rw [Bool.eq_false_iff]
  intro z
  rw [List.any_eq_true] at z
  obtain ⟨u, hu, e⟩ := z
  rw [beq_iff_eq] at e
  exact h (e ▸ hu)
theorem ints_val {H : Hp} {rs : List Int} : ∀ y ∈ rs.map V.int, ∃ k, Val H y k := fun y hy => by
  obtain ⟨i, _, rfl⟩ := List.mem_map.mp hy
  exact ⟨_, .int i⟩
theorem Val.fr {a c : Addr} {H H' : Hp} {x : V} {k : Kind} (h : Val H x k) (st : StAt H a c) (st' : StAt H' a c) (f : Fr a c H H') : Val H' x k := by
  cases h with
  | non => exact .non
  | bl => exact .bl _
  | int => exact .int _
  | str => exact .str _
  | tup h => exact .tup (f _ _ (st.ne h (fun _ z => nomatch z)).1 (st.ne h (fun _ z => nomatch z)).2 h)
  | dict h => exact .dict (f _ _ (st.ne h (fun _ z => nomatch z)).1 (st.ne h (fun _ z => nomatch z)).2 h)
  | @lst b xs h =>
    obtain ⟨i, z, cs, n, e1, e2, _⟩ := st'
    by_cases ha : b = a
    · rw [ha]; exact .lst e1
    · by_cases hc : b = c
      · rw [hc]; exact .lst e2
      · exact .lst (f _ _ ha hc h)
theorem Val.tupFr {a c : Addr} {H H' : Hp} {x : V} {k : Kind} (h : Val H x k) (st : StAt H a c) (st' : StAt H' a c) (f : Fr a c H H') : As.tupV H' x = As.tupV H x := by
  rcases h.tupV with ⟨n, t⟩ | ⟨n, b, xs, rfl, hb, t⟩
  · rw [t]
    rcases (h.fr st st' f).tupV with ⟨_, t'⟩ | ⟨n', _⟩
    · exact t'
    · exact absurd n' n
  · rw [t]; exact tupV_at (f _ _ (st.ne hb (fun _ z => nomatch z)).1 (st.ne hb (fun _ z => nomatch z)).2 hb)
theorem bad_fr {ns : List (List Int)} {a c : Addr} {H H' : Hp} {x : V} (h : BadV ns H x) (st : StAt H a c) (st' : StAt H' a c) (f : Fr a c H H') : BadV ns H' x := by
  obtain ⟨⟨⟨k, hk⟩, d⟩, no⟩ := h
  have e := hk.tupFr st st' f
  refine ⟨⟨⟨k, hk.fr st st' f⟩, fun xs hx y hy => (d xs (e ▸ hx) y hy).imp fun _ z => z.fr st st' f⟩, ?_⟩
  unfold isRowV at no ⊢
  rw [e]; exact no
def spNotrow : Sp := fun vs H Q _ => ∃ (a c t r : Addr) (ls : List LList) (rs : List Int) (B : Hp), vs = [.ref a, .ref t, .ref r] ∧ Gd a c B H ∧ B t = some (.lst (ls.map lw)) ∧ (∀ l ∈ ls, LlAt B l ∧ l.2 ≠ [] ∧ ∀ v ∈ l.2, 0 ≤ v ∧ v ≤ 5) ∧ B r = some (.tup (rs.map V.int)) ∧ rs.length = ls.length ∧ (1 ≤ rs.length ∧ rs.length ≤ 6) ∧
  ∀ x H', Gd a c B H' → BadV (ls.map (·.2)) H' x → Q x H'
abbrev nNotrow : List Str := ["state", "lots", "line", "at", "odd", "some", "one"]
end
end As

/-! ## E0 -/
namespace As
open PySem PySem.Spec PyProof.Rows L2
open PySem.W (dataLe AllAlike Sortable dataLt alike)
theorem eqvAll_ints : ∀ a b : List Int, PyData.eqvAll (a.map .int) (b.map .int) = decide (a = b) := fun a b => eqvAll_dec (f := PyData.int) (fun x y => by simp only [PyData.eqv]; by_cases h : x = y <;> simp [h])
theorem dp_fks {K : PySem.W.Frag} {H : Hp} : ∀ {fs : List FRow}, (∀ f ∈ fs, FAt H f) → DpAll K H (fs.map fv) ((fs.map (·.2.2)).map fkD)
  | [], _ => .nil
  | f :: _, h => .cons (dp_fk (h f List.mem_cons_self)) (dp_fks fun x hx => h x (List.mem_cons_of_mem _ hx))
theorem lay_fks : ∀ {ks : List FK}, (∀ k ∈ ks, PyData.strOk k.1 = true) → PyData.canLayAll0 (ks.map fkD) = true
  | [], _ => by simp [PyData.canLayAll0]
  | k :: ks, h => by
    simp only [List.map_cons, PyData.canLayAll0, lay_fk k (h k List.mem_cons_self), lay_fks (ks := ks) fun x hx => h x (List.mem_cons_of_mem _ hx), Bool.and_true]
theorem depth_fks : ∀ {ks : List FK}, PyData.depthAll (ks.map fkD) ≤ 2
  | [] => by simp [PyData.depthAll]
  | k :: ks => by
    have h1 := depth_fks (ks := ks)
    have h2 : PyData.depth (fkD k) ≤ 2 := by rcases fk_depth k with h | h <;> omega
    simp only [List.map_cons, PyData.depthAll]
    omega
theorem eqv_fk (a b : FK) : PyData.eqv (fkD a) (fkD b) = decide (a = b) := by
  obtain ⟨x, xs⟩ := a
  obtain ⟨y, ys⟩ := b
  have e : PyData.eqv (fkD (x, xs)) (fkD (y, ys)) = (PyData.eqv (.str x) (.str y) && (PyData.eqvAll (xs.map .int) (ys.map .int) && true)) := by simp only [fkD, PyData.eqv, PyData.eqvAll]
  rw [e, eqv_str, eqvAll_ints]
  by_cases h : x = y
  · subst h
    by_cases h2 : xs = ys
    · subst h2; simp
    · simp [h2]
  · simp [h]
theorem eqv_lk (a b : LK) : PyData.eqv (lkD a) (lkD b) = decide (a = b) := by
  obtain ⟨x, s, v⟩ := a
  obtain ⟨y, t, u⟩ := b
  have e : PyData.eqv (lkD (x, s, v)) (lkD (y, t, u)) = (PyData.eqv (.str x) (.str y) && ((s == t) && ((v == u) && true))) := by simp only [lkD, PyData.eqv, PyData.eqvAll]
  rw [e, eqv_str]
  by_cases h : x = y
  · subst h
    by_cases h2 : s = t
    · subst h2
      by_cases h3 : v = u
      · subst h3; simp
      · simp [h3]
    · simp [h2]
  · simp [h]
/-- two lists of facts compared -/
theorem ne_fks {K : PySem.W.Frag} {H : Hp} {a b : Addr} {fs gs : List FRow} {Q : VK} (ha : H a = some (.lst (fs.map fv))) (hb : H b = some (.lst (gs.map fv))) (fa : ∀ f ∈ fs, FAt H f) (ga : ∀ f ∈ gs, FAt H f) (fo : ∀ f ∈ fs, PyData.strOk f.2.2.1 = true) (go : ∀ f ∈ gs, PyData.strOk f.2.2.1 = true)
    (q : Q (.bl (!decide (fs.map (·.2.2) = gs.map (·.2.2)))) H) : rNeD K (.ref a) (.ref b) H Q := by
  have l1 : ∀ k ∈ fs.map (·.2.2), PyData.strOk k.1 = true := fun k hk => by obtain ⟨f, hf, rfl⟩ := List.mem_map.mp hk; exact fo f hf
  have l2 : ∀ k ∈ gs.map (·.2.2), PyData.strOk k.1 = true := fun k hk => by obtain ⟨f, hf, rfl⟩ := List.mem_map.mp hk; exact go f hf
  exact ⟨_, _, .lst (lof ha) (dp_fks fa), .lst (lof hb) (dp_fks ga), shaped_lst (lay_fks l1) depth_fks, shaped_lst (lay_fks l2) depth_fks, by rw [eqv_lst eqv_fk]; exact q⟩
theorem ne_lks {K : PySem.W.Frag} {H : Hp} {a b : Addr} {fs gs : List LRow} {Q : VK} (ha : H a = some (.lst (fs.map lv))) (hb : H b = some (.lst (gs.map lv))) (fa : ∀ f ∈ fs, LAt H f) (ga : ∀ f ∈ gs, LAt H f) (fo : ∀ f ∈ fs, PyData.strOk f.2.1 = true) (go : ∀ f ∈ gs, PyData.strOk f.2.1 = true)
    (q : Q (.bl (!decide (fs.map (·.2) = gs.map (·.2)))) H) : rNeD K (.ref a) (.ref b) H Q := by
  have l1 : ∀ k ∈ fs.map (·.2), PyData.strOk k.1 = true := fun k hk => by obtain ⟨f, hf, rfl⟩ := List.mem_map.mp hk; exact fo f hf
  have l2 : ∀ k ∈ gs.map (·.2), PyData.strOk k.1 = true := fun k hk => by obtain ⟨f, hf, rfl⟩ := List.mem_map.mp hk; exact go f hf
  exact ⟨_, _, .lst (lof ha) (dp_lks fa), .lst (lof hb) (dp_lks ga), shaped_lst (lay_lks l1) depth_lks, shaped_lst (lay_lks l2) depth_lks, by rw [eqv_lst eqv_lk]; exact q⟩
theorem plain_fk {K : PySem.W.Frag} {B : Hp} {fs : List FRow} (h : ∀ f ∈ fs, FAt B f) (ok : ∀ f ∈ fs, PyData.strOk f.2.2.1 = true) : ∀ x ∈ fs.map fv, Plain K B x := fun x hx => by
  obtain ⟨f, hf, rfl⟩ := List.mem_map.mp hx
  exact ⟨_, dp_fk (h f hf), lay_fk _ (ok f hf), by rcases fk_depth f.2.2 with h | h <;> omega⟩
theorem any_lk {ks : List LK} {k : LK} : ((ks.map lkD).any fun z => PyData.eqv z (lkD k)) = decide (k ∈ ks) := by
  rw [List.any_map]
  induction ks with
  | nil => simp
  | cons a l ih =>
    rw [List.any_cons, ih]
    show (PyData.eqv (lkD a) (lkD k) || _) = _
    rw [eqv_lk]
    by_cases h : a = k
    · subst h; simp
    · have h2 : ¬ k = a := fun z => h z.symm
      simp [h, h2]
end As

/-! ## G21 -/
namespace As
open PySem PySem.Spec PyProof.Rows L2 TL
/-! the facts of a row are facts of the plan, their tables distinct; how many rows -/
theorem tabOf_some {ts : List TRow} {o : Str} {r : TRow} (h : tabOf ts o = some r) : r ∈ ts ∧ r.2.1 = o := by
  unfold tabOf at h
  refine ⟨List.mem_of_find?_eq_some h, ?_⟩
  have h2 := List.find?_some h
  simpa using h2
theorem lot_in {H : Hp} {cs : List CRow} {ts : List TRow} {s : SRow} (okc : ColsOk H cs) (ok : SOk cs ts s) {v : Int} (h : v ∈ lotOf cs s) : 0 ≤ v ∧ v < sizeI cs s.2.1 := by
  unfold lotOf at h
  cases e : s.2.2.1 with
  | none =>
    rw [e] at h
    have := ir_mem.mp h
    have := (valV_sz okc ok.col).2
    omega
  | some x =>
    rw [e] at h
    exact (ok.lot x e).own v h
theorem row_fact {H : Hp} {cs : List CRow} {ts : List TRow} {ss : List SRow} {ks : List KRow} {rs : List Int} (okc : ColsOk H cs) (ok : AskOk cs ts ss ks) (lrs : rs.length = ss.length) (inl : ∀ (i : Nat) v s, rs[i]? = some v → ss[i]? = some s → v ∈ lotOf cs s)
    {k : FK} (hk : k ∈ rowK ss ks rs rs.length) : ∃ r ∈ ts, OfT cs r k := by
  unfold rowK at hk
  rw [List.mem_flatMap] at hk
  obtain ⟨j, hj, hk⟩ := hk
  rw [List.mem_range] at hj
  obtain ⟨s, hs⟩ : ∃ s, ss[j]? = some s := ⟨ss[j]'(by omega), List.getElem?_eq_getElem (by omega)⟩
  obtain ⟨v, hv⟩ : ∃ v, rs[j]? = some v := ⟨rs[j], List.getElem?_eq_getElem hj⟩
  rw [hv] at hk
  dsimp only at hk
  unfold addedK at hk
  rw [hs] at hk
  dsimp only at hk
  have so := ok.so s (List.mem_of_getElem? hs)
  have hv' := lot_in okc so (inl j v s hv hs)
  rcases List.mem_append.mp hk with hk | hk
  · cases j with
    | zero => unfold linkK at hk; cases hk
    | succ i =>
      unfold linkK at hk
      dsimp only at hk
      obtain ⟨z, hz⟩ : ∃ z, ss[i]? = some z := ⟨ss[i]'(by omega), List.getElem?_eq_getElem (by omega)⟩
      obtain ⟨u, hu⟩ : ∃ u, rs[i]? = some u := ⟨rs[i]'(by omega), List.getElem?_eq_getElem (by omega)⟩
      have zo := ok.so z (List.mem_of_getElem? hz)
      have hu' := lot_in okc zo (inl i u z hu hz)
      rw [hu] at hk
      cases e : ks[i]? with
      | none => rw [e] at hk; cases hk
      | some y =>
        rw [e] at hk
        dsimp only at hk
        rw [List.mem_singleton] at hk
        subst hk
        obtain ⟨w, r, hr, hp⟩ := ok.ko i y z s e hz hs
        obtain ⟨rm, rn⟩ := tabOf_some hr
        refine ⟨r, rm, rn.symm, .inr ?_⟩
        unfold order2 at hp ⊢
        rcases w with w | w
        · rw [w, if_pos rfl] at hp
          rw [w, if_pos rfl]
          exact ⟨z.2.1, s.2.1, u, v, hp, rfl, hu', hv'.1, hv'.2⟩
        · rw [w, if_neg (by decide)] at hp
          rw [w, if_neg (by decide)]
          exact ⟨s.2.1, z.2.1, v, u, hp, rfl, hv', hu'.1, hu'.2⟩
  · unfold onesK at hk
    obtain ⟨o, ho, rfl⟩ := List.mem_map.mp hk
    obtain ⟨r, hr, hp⟩ := so.ones.own o ho
    obtain ⟨rm, rn⟩ := tabOf_some hr
    exact ⟨r, rm, rn.symm, .inl ⟨s.2.1, v, hp, rfl, hv'.1, hv'.2⟩⟩
theorem rowK_names {ss : List SRow} {ks : List KRow} {rs : List Int} (kl : ss.length = ks.length + 1) (lrs : rs.length = ss.length) : ∀ i, i ≤ ss.length → ((rowK ss ks rs i).map (·.1)).Perm ((ss.take i).flatMap (·.2.2.2.2) ++ (ks.take (i - 1)).map (·.2.1))
  | 0, _ => by simp [rowK]
  | i + 1, hi => by
    have ih := rowK_names (rs := rs) kl lrs i (by omega)
    obtain ⟨s, hs⟩ : ∃ s, ss[i]? = some s := ⟨ss[i]'(by omega), List.getElem?_eq_getElem (by omega)⟩
    obtain ⟨v, hv⟩ : ∃ v, rs[i]? = some v := ⟨rs[i]'(by omega), List.getElem?_eq_getElem (by omega)⟩
    rw [rowK_succ hv, List.map_append]
    have e1 : (ss.take (i + 1)).flatMap (·.2.2.2.2) = (ss.take i).flatMap (·.2.2.2.2) ++ s.2.2.2.2 := by
      rw [List.take_succ, hs, List.flatMap_append]; simp
    rw [e1]
    have e2 : (addedK ss ks rs i v).map (·.1) = (linkK ks rs i v).map (·.1) ++ s.2.2.2.2 := by
      unfold addedK
      rw [hs, List.map_append]
      congr 1
      unfold onesK
      rw [List.map_map]
      conv => rhs; rw [← List.map_id s.2.2.2.2]
      rfl
    rw [e2]
    have e3 : (ks.take (i + 1 - 1)).map (·.2.1) = (ks.take (i - 1)).map (·.2.1) ++ (linkK ks rs i v).map (·.1) := by
      cases i with
      | zero => simp [linkK]
      | succ j =>
        obtain ⟨u, hu⟩ : ∃ u, rs[j]? = some u := ⟨rs[j]'(by omega), List.getElem?_eq_getElem (by omega)⟩
        obtain ⟨y, hy⟩ : ∃ y, ks[j]? = some y := ⟨ks[j]'(by omega), List.getElem?_eq_getElem (by omega)⟩
        simp [linkK, hu, hy, List.take_succ]
    rw [e3]
    refine (ih.append_right _).trans ?_
    rw [List.append_assoc, List.append_assoc]
    refine List.Perm.append_left _ ?_
    rw [← List.append_assoc]
    exact List.perm_append_comm
theorem rowK_nd {cs : List CRow} {ts : List TRow} {ss : List SRow} {ks : List KRow} {rs : List Int} (ok : AskOk cs ts ss ks) (kl : ss.length = ks.length + 1) (lrs : rs.length = ss.length) : ((rowK ss ks rs rs.length).map (·.1)).Nodup := by
  have h := rowK_names (rs := rs) kl lrs rs.length (by omega)
  rw [h.nodup_iff, lrs, List.take_length, List.take_of_length_le (by omega)]
  exact ok.nd
theorem sizeI_at {cs : List CRow} (nd : (cs.map (·.2.1)).Nodup) {r : CRow} (hr : r ∈ cs) : sizeI cs r.2.1 = r.2.2 := by
  have h : (colsD cs).find? (fun kv => decide (kv.1 = (.inr r.2.1 : Key))) = some (.inr r.2.1, .int r.2.2) := by
    unfold colsD
    rw [List.find?_map]
    have e2 : ((fun kv : Key × V => decide (kv.1 = .inr r.2.1)) ∘ fun x : CRow => ((.inr x.2.1 : Key), V.int x.2.2)) = fun x : CRow => decide (x.2.1 = r.2.1) := by
      funext x
      show decide ((.inr x.2.1 : Key) = .inr r.2.1) = _
      by_cases q : x.2.1 = r.2.1
      · rw [q]; simp
      · rw [decide_eq_false q, decide_eq_false]; intro z; injection z with z; exact q z
    rw [e2]
    have : cs.find? (fun x : CRow => decide (x.2.1 = r.2.1)) = some r := by
      clear e2
      induction cs with
      | nil => cases hr
      | cons x t ih =>
        rw [List.map_cons, List.nodup_cons] at nd
        rw [List.find?_cons]
        rcases List.mem_cons.mp hr with e | e
        · subst e; simp
        · have ne : ¬ x.2.1 = r.2.1 := fun q => nd.1 (q ▸ List.mem_map.mpr ⟨r, e, rfl⟩)
          rw [decide_eq_false ne]
          exact ih nd.2 e
    rw [this]; rfl
  unfold sizeI sizeV valV
  rw [h]; rfl
theorem lot_few {H : Hp} {cs : List CRow} {ts : List TRow} {s : SRow} {gr : Int} (okc : ColsOk H cs) (ok : SOk cs ts s) (h : ∀ r ∈ cs, r.2.2 ≤ gr) : ((lotOf cs s).length : Int) ≤ gr := by
  have vz := (valV_sz okc ok.col).2
  have sg : sizeI cs s.2.1 ≤ gr := by
    obtain ⟨r, hr, e⟩ := List.mem_map.mp ok.col
    rw [← e, sizeI_at okc.nd hr]; exact h r hr
  unfold lotOf
  cases e : s.2.2.1 with
  | none => rw [ir_len]; omega
  | some x =>
    have lo := ok.lot x e
    have := up_len (m := 0) (n := sizeI cs s.2.1) lo.up lo.own (by omega)
    dsimp only; omega
theorem prodI_le {gr : Int} (g0 : 0 ≤ gr) : ∀ (ls : List (List Int)) (m : Int), 0 ≤ m → (∀ l ∈ ls, (l.length : Int) ≤ gr) → ls.foldl (fun m l => m * (l.length : Int)) m ≤ m * gr ^ ls.length
  | [], m, _, _ => by simp
  | l :: ls, m, h, k => by
    have h1 := k l List.mem_cons_self
    have ih := prodI_le g0 ls (m * (l.length : Int)) (Int.mul_nonneg h (by omega)) fun x hx => k x (List.mem_cons_of_mem _ hx)
    rw [List.foldl_cons, List.length_cons]
    refine Int.le_trans ih ?_
    rw [Int.pow_succ, Int.mul_comm (gr ^ ls.length) gr, ← Int.mul_assoc]
    exact Int.mul_le_mul_of_nonneg_right (Int.mul_le_mul_of_nonneg_left h1 h) (Int.pow_nonneg g0)
theorem rows_few {H : Hp} {cs : List CRow} {ts : List TRow} {ss : List SRow} {ks : List KRow} {gr : Int} (okc : ColsOk H cs) (ok : AskOk cs ts ss ks) (g0 : 0 ≤ gr) (h : ∀ r ∈ cs, r.2.2 ≤ gr) : rowsOf cs ss ≤ gr ^ ss.length := by
  have := prodI_le g0 (ss.map (lotOf cs)) 1 (by decide) fun l hl => by
    obtain ⟨s, hs, rfl⟩ := List.mem_map.mp hl
    exact lot_few okc (ok.so s hs) h
  rw [Int.one_mul, List.length_map] at this
  exact this
theorem ne_fksT {K : PySem.W.Frag} {H : Hp} {a b : Addr} {fs gs : List FRow} {Q : VK} (ha : SqT K H a (fs.map fv)) (hb : SqT K H b (gs.map fv)) (fa : ∀ f ∈ fs, FAt H f) (ga : ∀ f ∈ gs, FAt H f) (fo : ∀ k ∈ fs.map (·.2.2), PyData.strOk k.1 = true) (go : ∀ k ∈ gs.map (·.2.2), PyData.strOk k.1 = true)
    (q : Q (.bl (!decide (fs.map (·.2.2) = gs.map (·.2.2)))) H) : rNeD K (.ref a) (.ref b) H Q :=
  ⟨_, _, .tup ha (dp_fks fa), .tup hb (dp_fks ga), shaped_tup (lay_fks fo) depth_fks, shaped_tup (lay_fks go) depth_fks, by rw [eqv_tup eqv_fk]; exact q⟩
theorem due_pairs {K : PySem.W.Frag} {H : Hp} : ∀ {fs : List FRow}, (∀ f ∈ fs, FAt H f) → Paired (fun p (kv : Key × V) => SqT K H p [kV kv.1, kv.2]) (fs.map (·.1)) (fs.map fun f => ((.inr f.2.2.1 : Key), V.ref f.2.1))
  | [], _ => .nil
  | f :: fs, h => .cons (tof (h f List.mem_cons_self).1) (due_pairs fun g hg => h g (List.mem_cons_of_mem _ hg))
theorem deep1_row {H : Hp} {r : Addr} {rs : List Int} (hr : H r = some (.tup (rs.map V.int))) : Deep1 H (.ref r) :=
  ⟨⟨_, .tup hr⟩, fun xs e => by rw [show As.tupV H (.ref r) = _ from tupV_at hr] at e; cases e; exact ints_val⟩
end As

/-! ## D1 -/
namespace As
open PySem PySem.Spec PyProof.Rows L2
open PySem.W (dataLe AllAlike Sortable dataLt alike)
section
variable {P : Program} {w : World} {K : PySem.W.Frag} {mg : Str → Option Value} {base : Heap}
theorem starK {X : Cx} (K : PySem.W.Frag) {e : Expr} {es : List Expr} {te : TE} {t : TA} {p : Pos} (he : PE X e te) (hr : PA X es t) (h : X.K = K := by rfl) (hs : starEach (.Starred e p :: es) X.env = (true, eval e X.env) :: starEach es X.env := by rfl) : PA X (.Starred e p :: es) (StX.tStar K te t) := h ▸ StX.pa_star he hr hs
/-- the tables by name -/
def byName (ts : List TRow) : List TRow := ts.mergeSort (dataLe false fun r : TRow => PyData.str r.2.1)
theorem byName_perm (ts : List TRow) : (byName ts).Perm ts := List.mergeSort_perm _ _
theorem sp_keys {cs : List CRow} {H : Hp} {ts : List TRow} : ∀ {ks : List (Key × V)}, Paired (fun (r : TRow) (kv : Key × V) => kv.1 = .inr r.2.1 ∧ ∃ q, kv.2 = .ref q ∧ H q = some (.tup (spanVs cs r))) ts ks → (ks.map fun kv => kV kv.1) = ts.map fun r => V.str r.2.1 := by
  induction ts with
  | nil => intro ks h; cases h; rfl
  | cons r t ih =>
    intro ks h
    cases h with
    | @cons a kv l1 l2 h1 h2 => rw [List.map_cons, List.map_cons, ih h2, h1.1]; rfl
def spTabNames (C : Addr) : Sp := fun vs H Q _ => ∃ (p : Addr) (cs : List CRow) (ts : List TRow), vs = [.ref p] ∧ PlanAt H C p cs ts ∧ ∀ q H', Same H H' → H q = none → H' q = some (.lst ((byName ts).map fun r => V.str r.2.1)) → Q (.ref q) H'
theorem sc_tnames : FnScope ["self"] ["self"] (defScope s_table_names) := ⟨rfl, rfl, rfl, by decide +kernel, rfl, by decide +kernel, by decide +kernel⟩
theorem ok_tnames {f C : Addr} {fd : FuncData} (F : Fun K "table_names" "Plan.table_names" s_table_names f fd) (T : Bi mg) (L : PlF K C) : FnOk P w K mg base CX0 1 f fd ["self"] (spTabNames C) := by
  refine F.ok sc_tnames (fun vs H Q E h => ?_) (fun cdv A outer s H vs Q E hr h => ?_)
  · obtain ⟨p, cs, ts, rfl, _⟩ := h; rfl
  · obtain ⟨p, cs, ts, rfl, ⟨dx, ct, tt, sz, sp, sh, ks, h1, h2, h3, h4, h5, hs, h6⟩, q⟩ := h
    refine ⟨_, pss_one (ps_ret (pe_callB (cr_sortedD (hu64 hr)) (by rfl) T.sorted (by decide +kernel) (pa_cons (pe_callTy (call_list_dK rfl) (by rfl) T.list boot_list (pa_cons (pe_fld (pv 0) rfl) pa_nil)) pa_nil))), ?_⟩
    refine ⟨_, rfl, p, C, dx, _, _, rfl, h1, L.cl, L.aP, pf_P, sp, ks, rfl, h5, fun l nl => ?_⟩
    rw [sp_keys h6]
    have s1 := same_new (o := .lst (ts.map fun r => V.str r.2.1)) nl
    have hl : (upd H l (.lst (ts.map fun r => V.str r.2.1))) l = some (.lst (ts.map fun r => V.str r.2.1)) := upd_same
    generalize upd H l (.lst (ts.map fun r => V.str r.2.1)) = H1 at s1 hl ⊢
    refine ⟨TRow, l, ts, (fun r => V.str r.2.1), (fun r => PyData.str r.2.1), rfl, lof hl, fun r hr => ⟨.str _, by simp [PyData.depth]⟩, fun d hd e he => ?_, .inr fun d hd => ?_, fun q' nq => q q' _ (same_new' s1 nq) (s1.free nq) upd_same⟩
    · obtain ⟨r, _, rfl⟩ := List.mem_map.mp hd
      obtain ⟨r', _, rfl⟩ := List.mem_map.mp he
      simp [alike]
    · obtain ⟨r, _, rfl⟩ := List.mem_map.mp hd
      exact ⟨(fun z => nomatch z), (fun xs z => nomatch z)⟩
/-! rows -/
abbrev WRow := Addr × List Int
def wv (r : WRow) : V := .ref r.1
def WAt (H : Hp) (r : WRow) : Prop := H r.1 = some (.tup (r.2.map V.int))
theorem WAt.imm {H H' : Hp} {r : WRow} (h : WAt H r) (e : Imm H H') : WAt H' r := e _ _ h
/-- the tuples with one number below each of the sizes -/
def rowsI (ss : List Int) : List (List Int) := ss.foldl (fun rows s => rows.flatMap fun row => (ir s.toNat).map fun v => row ++ [v]) [[]]
theorem rowsI_snoc (ss : List Int) (s : Int) : rowsI (ss ++ [s]) = (rowsI ss).flatMap fun row => (ir s.toNat).map fun v => row ++ [v] := by
  unfold rowsI; rw [List.foldl_append]; rfl
theorem rowsI_len {ss : List Int} (h : ∀ s ∈ ss, s ≤ 6) (h2 : ss.length ≤ 2) : (rowsI ss).length ≤ 36 := by
  rcases ss with _ | ⟨a, _ | ⟨b, _ | ⟨c, r⟩⟩⟩
  · decide
  · have ha := h a (by simp)
    have e : rowsI [a] = [[]].flatMap fun row => (ir a.toNat).map fun v => row ++ [v] := rowsI_snoc [] a
    rw [e]; simp [ir_len]; omega
  · have ha := h a (by simp)
    have hb := h b (by simp)
    have e : rowsI [a, b] = (rowsI [a]).flatMap fun row => (ir b.toNat).map fun v => row ++ [v] := rowsI_snoc [a] b
    have e1 : rowsI [a] = [[]].flatMap fun row => (ir a.toNat).map fun v => row ++ [v] := rowsI_snoc [] a
    have l1 : (rowsI [a]).length ≤ 6 := by rw [e1]; simp [ir_len]; omega
    rw [e]
    have h3 := flat_len (m := 6) (l := rowsI [a]) (f := fun row => (ir b.toNat).map fun v => row ++ [v]) fun x _ => by rw [List.length_map, ir_len]; omega
    omega
  · simp at h2
theorem rowsI_rows : ∀ (ss : List Int) (rows : List (List Int)) (k : Nat), (∀ row ∈ rows, row.length = k) → ∀ row ∈ ss.foldl (fun rows s => rows.flatMap fun row => (ir s.toNat).map fun v => row ++ [v]) rows, row.length = k + ss.length
  | [], rows, k, h, row, hr => h row hr
  | s :: ss, rows, k, h, row, hr => by
    have h2 := rowsI_rows ss (rows.flatMap fun row => (ir s.toNat).map fun v => row ++ [v]) (k + 1) (fun x hx => by
      obtain ⟨r0, h0, hx⟩ := List.mem_flatMap.mp hx
      obtain ⟨v, _, rfl⟩ := List.mem_map.mp hx
      rw [List.length_append, h r0 h0]; rfl) row hr
    rw [h2, List.length_cons]; omega
theorem rowsI_row {ss : List Int} {row : List Int} (h : row ∈ rowsI ss) : row.length = ss.length := by
  have := rowsI_rows ss [[]] 0 (fun r hr => by rw [List.mem_singleton.mp hr]; rfl) row h
  omega
theorem spanI_mem {H : Hp} {cs : List CRow} {ts : List TRow} (okc : ColsOk H cs) (okt : TabsOk H (cs.map (·.2.1)) ts) {r : TRow} (hr : r ∈ ts) {v : Int} (h : v ∈ spanI cs r) : 1 ≤ v ∧ v ≤ 6 := by
  obtain ⟨c, hc, rfl⟩ := List.mem_map.mp h
  exact (valV_sz okc (okt.own r hr c hc)).2
theorem spanI_len {cs : List CRow} {r : TRow} : (spanI cs r).length = r.2.2.2.length := by unfold spanI; rw [List.length_map]
def spAllRows (C : Addr) : Sp := fun vs H Q _ => ∃ (p : Addr) (n : Str) (r : TRow) (cs : List CRow) (ts : List TRow), vs = [.ref p, .str n] ∧ PlanAt H C p cs ts ∧ ColsOk H cs ∧ TabsOk H (cs.map (·.2.1)) ts ∧ tabOf ts n = some r ∧
  ∀ q (rs : List WRow) H', Same H H' → H q = none → H' q = some (.lst (rs.map wv)) → (∀ r ∈ rs, WAt H' r) → rs.map (·.2) = rowsI (spanI cs r) → Q (.ref q) H'
abbrev nAllRows : List Str := ["plan", "table", "rows", "size", "row", "value"]
theorem sc_all_rows : FnScope nAllRows ["plan", "table"] (defScope s_all_rows) := ⟨rfl, rfl, rfl, by decide +kernel, rfl, by decide +kernel, by decide +kernel⟩
theorem ok_all_rows {f fs C : Addr} {fd ds : FuncData} (D : Df K mg "all_rows" s_all_rows ["plan", "table"] f fd) (T : Bi mg) (L : PlF K C) (Fs : Fun K "spans" "Plan.spans" s_spans fs ds) (bs : Binds K ds ["self", "table"] []) (ms : Meth K C "spans" fs) :
    FnOk P w K mg base CX0 2 f fd ["plan", "table"] (spAllRows C) := by
  have Gs : FnOk P w K mg base CX0 1 fs ds ["self", "table"] (spSpans K C) := ok_spans Fs T L
  refine D.F.ok sc_all_rows (fun vs H Q E h => ?_) (fun cdv A outer s H vs Q E hr h => ?_)
  · obtain ⟨p, n, r, cs, ts, rfl, _⟩ := h; rfl
  · obtain ⟨p, n, r, cs, ts, rfl, pl, okc, okt, ht, q⟩ := h
    obtain ⟨dx, ct, tt, sz, sp, sh, ks, h1, _⟩ := id pl
    have hrm : r ∈ ts := List.mem_of_find?_eq_some ht
    have no : (pf ct tt sz sp sh).lookup (Str.ofString "spans") = none := pf_no (by decide +kernel) (by decide +kernel) (by decide +kernel) (by decide +kernel) (by decide +kernel)
    refine ⟨_, pss_cons (ps_set (i := 2) sc_all_rows.nd rfl (Or.inl rfl) (pe_lst (pa_cons (pe_tup pa_nil) pa_nil)))
      (pss_cons (ps_for PassesOwn.never rfl (pi_tup (pe_meth (pv 0) L.cl ms Gs hr bs .nil pass0 (pa_cons (pv 1) pa_nil))) (pg_name (i := 3) sc_all_rows.nd rfl (Or.inr rfl))
        (pss_one (ps_setLc2 (i := 2) (own := [("row", 4), ("value", 5)]) (vs1 := [5]) (g := gName 4) (tt := tYes) (g1 := gName 5) (tt1 := tYes) rfl sc_all_rows.nd rfl rfl (sw_true rfl rfl rfl (by decide +kernel)) (pi_list (pv 2))
          (blkOk_by (N := nAllRows) (sc := defScope s_all_rows) (by decide +kernel)) (by decide) (fun _ _ _ _ _ => pg_name (i := 4) sc_all_rows.nd rfl (Or.inl rfl)) (fun _ _ _ _ _ => pts_nil)
          (fun _ _ _ _ _ => pi_range1 rfl T.range (pa_cons (pv 3) pa_nil)) (fun _ _ _ _ _ => pg_name (i := 5) sc_all_rows.nd rfl (Or.inl rfl)) (fun _ _ _ _ _ => pts_nil)
          (fun _ _ _ _ _ => pe_tup (starK K (pv 4) (pa_cons (pv 5) pa_nil))))))
      (pss_one (ps_ret (pv 2)))), ?_⟩
    refine ⟨by show 0 ≤ sizeLine; decide, fun e0 n0 => ⟨by show 1 ≤ sizeLine; decide, fun l0 nl0 => ?_⟩⟩
    have s1 : Same H (upd (upd H e0 (.tup [])) l0 (.lst [.ref e0])) := (same_new n0).trans (same_new nl0)
    have he0 : (upd (upd H e0 (.tup [])) l0 (.lst [.ref e0])) e0 = some (.tup []) := same_new nl0 _ _ upd_same
    have hl0 : (upd (upd H e0 (.tup [])) l0 (.lst [.ref e0])) l0 = some (.lst [.ref e0]) := upd_same
    have nH : H l0 = none := (same_new n0).free nl0
    generalize upd (upd H e0 (.tup [])) l0 (.lst [.ref e0]) = H1 at s1 he0 hl0 ⊢
    refine ⟨_, rfl, p, dx, _, rfl, s1 _ _ h1, no, _, rfl, p, .str n, cs, ts, rfl, pl.same s1, .inl ⟨n, rfl, fun e => (by rw [ht] at e; cases e), fun r' qs e hqs => ?_⟩⟩
    rw [ht] at e; cases e
    rw [spanVs_ints okc okt hrm] at hqs
    have two := okt.two r hrm
    have slen := spanI_len (cs := cs) (r := r)
    refine ⟨qs, rfl, ⟨_, tof hqs⟩, for_it (walk_tup (xs := (spanI cs r).map V.int)) (fun i σ H2 => ∃ (l : Addr) (rs : List WRow) (x3 x4 x5 : Option V), σ = [some (.ref p), some (.str n), some (.ref l), x3, x4, x5] ∧ Same H1 H2 ∧ H l = none ∧ H2 l = some (.lst (rs.map wv)) ∧ (∀ r ∈ rs, WAt H2 r) ∧ rs.map (·.2) = rowsI ((spanI cs r).take i))
      ⟨l0, [(e0, [])], none, none, none, rfl, Same.refl _, nH, hl0, (fun r hr => by rw [List.mem_singleton.mp hr]; exact he0), rfl⟩ (fun i σ H2 _ ⟨_, _, _, _, _, _, s2, _⟩ => tof (s2 _ _ hqs)) ?_ ?_⟩
    · rintro i x σ H2 H3 hi ⟨l, rs, x3, x4, x5, rfl, s2, nl, hl, fa, key⟩ ⟨rfl, hx⟩
      rw [List.getElem?_map] at hx
      obtain ⟨v, hv, rfl⟩ := Option.map_eq_some_iff.mp hx
      rw [List.length_map] at hi
      obtain ⟨v1, v6⟩ := spanI_mem okc okt hrm (List.mem_of_getElem? hv)
      have tk : (spanI cs r).take (i + 1) = (spanI cs r).take i ++ [v] := by rw [List.take_succ, hv]; rfl
      have rlen : rs.length ≤ 36 := by
        have h := congrArg List.length key
        rw [List.length_map] at h
        rw [h]
        exact rowsI_len (fun s hs => (spanI_mem okc okt hrm (List.mem_of_mem_take hs)).2) (by rw [List.length_take]; omega)
      have rrow : ∀ x ∈ rs, x.2.length ≤ 2 := fun x hx => by
        have h : x.2 ∈ rowsI ((spanI cs r).take i) := by rw [← key]; exact List.mem_map.mpr ⟨x, hx, rfl⟩
        rw [rowsI_row h, List.length_take]; omega
      refine ⟨_, rfl, l, rfl, ⟨_, lof hl⟩, fun D nD => ?_⟩
      have wml : (rs.map wv).length = rs.length := List.length_map _
      refine lc2_out (H1 := H3) (walk_list (K := K) (a := l) (xs := rs.map wv)) nD (fun H4 s4 => lof (s4 _ _ hl)) (fun i acc H' => ∃ gs : List WRow, acc = gs.map wv ∧ (∀ r ∈ gs, WAt H' r) ∧ gs.map (·.2) = (rs.take i).flatMap fun x => (ir v.toNat).map fun u => x.2 ++ [u])
        ⟨[], rfl, (fun _ z => nomatch z), rfl⟩ (fun i acc H H' im ⟨gs, e, fa, k⟩ => ⟨gs, e, fun r hr => (fa r hr).imm im, k⟩) (fun i2 x2 Ha Hb acc Nx hi2 sa hDa ⟨gs, ea, ga, ka⟩ y2 hN => ?_) (fun H4 acc s4 hD4 ⟨gs, ea, ga, ka⟩ => ?_)
      · obtain ⟨rfl, hx2⟩ := y2
        subst ea
        rw [List.getElem?_map] at hx2
        obtain ⟨rr, hrr, rfl⟩ := Option.map_eq_some_iff.mp hx2
        have rrm := List.mem_of_getElem? hrr
        have hrw : WAt Hb rr := sa _ _ (fa rr rrm)
        have tk2 : rs.take (i2 + 1) = rs.take i2 ++ [rr] := by rw [List.take_succ, hrr]; rfl
        have glen : gs.length ≤ 6 * 36 := by
          have h := congrArg List.length ka
          rw [List.length_map] at h
          rw [h]
          have h3 := flat_len (m := 6) (l := rs.take i2) (f := fun x => (ir v.toNat).map fun u => x.2 ++ [u]) fun x _ => by rw [List.length_map, ir_len]; omega
          have h4 := List.length_take_le i2 rs
          have h5 : 6 * (rs.take i2).length ≤ 6 * 36 := Nat.mul_le_mul_left _ (by omega)
          omega
        refine ⟨rfl, ?_⟩
        refine iteT (B := Nx Hb) ?_
        refine ⟨_, rfl, v, rfl, by omega, by omega, ?_⟩
        refine lc_in walk_range hDa (fun _ _ => trivial) (fun j acc H' => ∃ g1 : List WRow, acc = (gs ++ g1).map wv ∧ (∀ r ∈ gs ++ g1, WAt H' r) ∧ g1.map (·.2) = (ir j).map fun u => rr.2 ++ [u])
          ⟨[], by rw [List.append_nil], by rw [List.append_nil]; exact ga, rfl⟩ (fun i acc H H' im ⟨g1, e, fa, k⟩ => ⟨g1, e, fun r hr => (fa r hr).imm im, k⟩) (fun j acc H' hj ⟨g1, e, _, k⟩ => ?_) (fun j o Hc Hd acc Q1 Q2 hj sc hDc ⟨g1, e1, f1, k1⟩ y3 q1 q2 => ?_) (fun H' acc s' hD' ⟨g1, e1, f1, k1⟩ => ?_)
        · have h := congrArg List.length k
          rw [List.length_map, List.length_map, ir_len] at h
          rw [e, List.length_map, List.length_append]
          exact Nat.lt_of_le_of_lt (show gs.length + g1.length ≤ 1000 by omega) (by decide)
        · obtain ⟨ey, eo⟩ := y3
          subst ey
          subst e1
          obtain rfl : o = .int (j : Nat) := by rw [eo]; show V.int (0 + (j : Nat)) = _; rw [Int.zero_add]
          refine ⟨rfl, ?_⟩
          refine iteT (B := Q2 Hd) ?_
          have hrc : WAt Hd rr := sc _ _ (rem_tup hDa hrw)
          have rl := rrow rr rrm
          refine ⟨_, rfl, rr.1, _, rfl, .inl (tof hrc), _, rfl, ?_, fun t nt => ?_⟩
          · rw [List.length_append, List.length_map]; exact Nat.le_trans (show rr.2.length + 1 ≤ 3 by omega) (by decide)
          · refine q1 _ _ (same_new nt) ⟨g1 ++ [(t, rr.2 ++ [(j : Int)])], ?_, fun x hx => ?_, ?_⟩
            · rw [← List.append_assoc, List.map_append (l₁ := gs ++ g1)]; rfl
            · rw [← List.append_assoc] at hx
              rcases List.mem_append.mp hx with hx | hx
              · exact (f1 x hx).imm (imm_new nt)
              · rw [List.mem_singleton] at hx; subst hx
                show (upd Hd t _) t = some (.tup ((rr.2 ++ [(j : Int)]).map V.int))
                rw [upd_same, List.map_append]; rfl
            · rw [List.map_append, k1, ir_succ, List.map_append]; rfl
        · subst e1
          have sH : Same H3 H' := (same_into_rem sa nD).trans s'
          refine hN _ _ sH hD' ⟨gs ++ g1, rfl, f1, ?_⟩
          rw [List.map_append, ka, k1, tk2, List.flatMap_append, List.flatMap_cons, List.flatMap_nil, List.append_nil]
      · subst ea
        rw [wml, List.take_length] at ka
        refine ⟨D, gs, _, _, _, rfl, s2.trans s4, (s1.trans s2).free nD, hD4, ga, ?_⟩
        rw [ka, tk, rowsI_snoc, ← key, List.flatMap_map]
    · rintro σ H2 ⟨l, rs, x3, x4, x5, rfl, s2, nl, hl, fa, key⟩
      rw [List.length_map, List.take_length] at key
      exact ⟨_, rfl, q l rs H2 (s1.trans s2) nl hl fa key⟩
end
end As

/-! ## G23 -/
namespace As
open PySem PySem.Spec PyProof.Rows L2 TL
/-! rows with their facts -/
def rowsL (ls : List (List Int)) : List (List Int) := ls.foldl (fun rows l => rows.flatMap fun row => l.map fun v => row ++ [v]) [[]]
theorem rowsL_snoc (ls : List (List Int)) (l : List Int) : rowsL (ls ++ [l]) = (rowsL ls).flatMap fun row => l.map fun v => row ++ [v] := by
  unfold rowsL; rw [List.foldl_append]; rfl
theorem rev_ind {α : Type} {P : List α → Prop} (h0 : P []) (h1 : ∀ l x, P l → P (l ++ [x])) : ∀ l, P l := fun l => by
  have : ∀ n (l : List α), l.length = n → P l := by
    intro n
    induction n with
    | zero => intro l h; rw [List.length_eq_zero_iff] at h; rw [h]; exact h0
    | succ n ih =>
      intro l h
      have hne : l ≠ [] := fun z => by rw [z] at h; cases h
      rw [← List.dropLast_concat_getLast hne]
      exact h1 _ _ (ih _ (by rw [List.length_dropLast, h]; rfl))
  exact this _ l rfl
theorem rowsL_len {ls : List (List Int)} : ∀ r ∈ rowsL ls, r.length = ls.length := by
  refine rev_ind (P := fun ls => ∀ r ∈ rowsL ls, r.length = ls.length) (fun r hr => ?_) (fun ls l ih r hr => ?_) ls
  · have : r ∈ ([[]] : List (List Int)) := hr
    rw [List.mem_singleton] at this; rw [this]; rfl
  · rw [rowsL_snoc, List.mem_flatMap] at hr
    obtain ⟨s, hs, hr⟩ := hr
    obtain ⟨v, _, rfl⟩ := List.mem_map.mp hr
    rw [List.length_append, List.length_append, ih s hs]; rfl
theorem rowsL_in {ls : List (List Int)} : ∀ r ∈ rowsL ls, ∀ (i : Nat) v l, r[i]? = some v → ls[i]? = some l → v ∈ l := by
  refine rev_ind (P := fun ls => ∀ r ∈ rowsL ls, ∀ (i : Nat) v l, r[i]? = some v → ls[i]? = some l → v ∈ l) (fun r hr i v l _ h => by simp at h) (fun ls l ih r hr i v l' hv hl => ?_) ls
  rw [rowsL_snoc, List.mem_flatMap] at hr
  obtain ⟨s, hs, hr⟩ := hr
  obtain ⟨u, hu, rfl⟩ := List.mem_map.mp hr
  have sl := rowsL_len s hs
  by_cases hi : i < ls.length
  · rw [List.getElem?_append_left (by omega)] at hv hl
    exact ih s hs i v l' hv hl
  · have := (List.getElem?_eq_some_iff.mp hl).1
    rw [List.length_append, List.length_singleton] at this
    have e : i = ls.length := by omega
    subst e
    rw [List.getElem?_concat_length] at hl
    rw [← sl, List.getElem?_concat_length] at hv
    cases hl; cases hv
    exact hu
def lenL (ls : List (List Int)) : Nat := ls.foldl (fun m l => m * l.length) 1
theorem lenL_snoc (ls : List (List Int)) (l : List Int) : lenL (ls ++ [l]) = lenL ls * l.length := by unfold lenL; rw [List.foldl_append]; rfl
theorem rowsL_count (ls : List (List Int)) : (rowsL ls).length = lenL ls := by
  refine rev_ind (P := fun ls => (rowsL ls).length = lenL ls) rfl (fun ls l ih => ?_) ls
  rw [rowsL_snoc, lenL_snoc, ← ih]
  generalize rowsL ls = rs
  induction rs with
  | nil => simp
  | cons r rs ih2 => rw [List.flatMap_cons, List.length_append, ih2, List.length_map, List.length_cons, Nat.succ_mul, Nat.add_comm]
theorem prodI_lenL (ls : List (List Int)) : prodI ls = (lenL ls : Int) := by
  refine rev_ind (P := fun ls => prodI ls = (lenL ls : Int)) rfl (fun ls l ih => ?_) ls
  rw [lenL_snoc, Int.natCast_mul, ← ih]
  unfold prodI; rw [List.foldl_append]; rfl
theorem lenL_take {ls : List (List Int)} (h : ∀ l ∈ ls, 1 ≤ l.length) : ∀ i, lenL (ls.take i) ≤ lenL ls := fun i => by
  have up : ∀ (xs : List (List Int)) (m : Nat), (∀ l ∈ xs, 1 ≤ l.length) → m ≤ xs.foldl (fun m l => m * l.length) m := by
    intro xs
    induction xs with
    | nil => intro m _; exact Nat.le_refl _
    | cons x xs ih =>
      intro m h
      refine Nat.le_trans ?_ (ih (m * x.length) fun l hl => h l (List.mem_cons_of_mem _ hl))
      exact Nat.le_mul_of_pos_right m (h x List.mem_cons_self)
  conv => rhs; rw [← List.take_append_drop i ls]
  unfold lenL
  rw [List.foldl_append]
  exact up _ _ fun l hl => h l (List.mem_of_mem_drop hl)
theorem linkK_app {ks : List KRow} {rs xs : List Int} {i : Nat} {v : Int} (h : i ≤ rs.length) : linkK ks (rs ++ xs) i v = linkK ks rs i v := by
  unfold linkK
  cases i with
  | zero => rfl
  | succ j => dsimp only; rw [List.getElem?_append_left (by omega)]
theorem rowK_app {ss : List SRow} {ks : List KRow} {rs xs : List Int} {i : Nat} (h : i ≤ rs.length) : rowK ss ks (rs ++ xs) i = rowK ss ks rs i := by
  induction i with
  | zero => rfl
  | succ j ih =>
    obtain ⟨v, hv⟩ : ∃ v, rs[j]? = some v := ⟨rs[j]'(by omega), List.getElem?_eq_getElem (by omega)⟩
    have hv' : (rs ++ xs)[j]? = some v := by rw [List.getElem?_append_left (by omega)]; exact hv
    rw [rowK_succ hv, rowK_succ hv', ih (by omega)]
    unfold addedK
    rw [linkK_app (by omega)]
theorem rowK_snoc {ss : List SRow} {ks : List KRow} {rs : List Int} {v : Int} : rowK ss ks (rs ++ [v]) (rs.length + 1) = rowK ss ks rs rs.length ++ addedK ss ks rs rs.length v := by
  rw [rowK_succ (v := v) (by rw [List.getElem?_concat_length]), rowK_app (Nat.le_refl _)]
  unfold addedK
  rw [linkK_app (Nat.le_refl _)]
abbrev XRow := Addr × Addr × Addr × List Int × List FRow
def xv (x : XRow) : V := .ref x.1
def xk (x : XRow) : List Int × List FK := (x.2.2.2.1, x.2.2.2.2.map (·.2.2))
structure XAt (H : Hp) (x : XRow) : Prop where
  p : H x.1 = some (.tup [.ref x.2.1, .ref x.2.2.1])
  r : H x.2.1 = some (.tup (x.2.2.2.1.map V.int))
  f : H x.2.2.1 = some (.tup (x.2.2.2.2.map fv))
  fa : ∀ f ∈ x.2.2.2.2, FAt H f
theorem XAt.imm {H H' : Hp} {x : XRow} (h : XAt H x) (e : Imm H H') : XAt H' x := ⟨e _ _ h.p, e _ _ h.r, e _ _ h.f, fun f hf => (h.fa f hf).imm e⟩
section
variable {P : Program} {w : World} {K : PySem.W.Frag} {mg : Str → Option Value} {base : Heap}
def spRwf (C : Addr) : Sp := fun vs H Q _ => ∃ (p a : Addr) (ss : List SRow) (ks : List KRow) (cs : List CRow) (ts : List TRow), vs = [.ref p, .ref a] ∧ PlanAt H C p cs ts ∧ ColsOk H cs ∧ AskAt H a ss ks ∧ ss.length ≤ 6 ∧ (∀ s ∈ ss, SOk cs ts s) ∧ rowsOf cs ss ≤ 5000 ∧
  ∀ t (xs : List XRow) H', Same H H' → H t = none → H' t = some (.lst (xs.map xv)) → (∀ x ∈ xs, XAt H' x) → xs.map xk = (rowsL (ss.map (lotOf cs))).map (fun r => (r, rowK ss ks r r.length)) → Q (.ref t) H'
abbrev nRwf : List Str := ["plan", "ask", "pairs", "at", "lot", "row", "found", "value"]
theorem sc_rwf : FnScope nRwf ["plan", "ask"] (defScope s_rows_with_facts) := ⟨rfl, rfl, rfl, by decide +kernel, rfl, by decide +kernel, by decide +kernel⟩
set_option maxHeartbeats 4000000 in
theorem ok_rwf {f flot ffa C : Addr} {fd dlot dfa : FuncData} (D : Df K mg "rows_with_facts" s_rows_with_facts ["plan", "ask"] f fd) (en : mg "enumerate" = none)
    (Dlot : Df K mg "lots_of" s_lots_of ["plan", "ask"] flot dlot) (Glot : FnOk P w K mg base CX0 2 flot dlot ["plan", "ask"] (spLotsOf C))
    (Dfa : Df K mg "facts_added" s_facts_added ["ask", "at", "row", "value"] ffa dfa) (Gfa : FnOk P w K mg base CX0 2 ffa dfa ["ask", "at", "row", "value"] spAdded) : FnOk P w K mg base CX0 3 f fd ["plan", "ask"] (spRwf C) := by
  refine D.F.ok sc_rwf (fun vs H Q E h => ?_) (fun cdv A outer s H vs Q E hr h => ?_)
  · obtain ⟨p, a, ss, ks, cs, ts, rfl, _⟩ := h; rfl
  · obtain ⟨p, a, ss, ks, cs, ts, rfl, pl, okc, ask, l6, so, few, q⟩ := h
    have hr2 : Room 2 _ := hr.mono (by decide)
    refine ⟨_, pss_cons (ps_set (i := 2) sc_rwf.nd rfl (Or.inl rfl) (pe_lst (pa_cons (pe_tup (pa_cons (pe_tup pa_nil) (pa_cons (pe_tup pa_nil) pa_nil))) pa_nil)))
      (pss_cons (ps_for PassesOwn.never rfl (pi_enum (by rfl) en (pa_cons (pcall Dlot Glot hr2 (pa_cons (pv 0) (pa_cons (pv 1) pa_nil))) pa_nil)) (pg_tup rfl (pgs_cons (pg_name (i := 3) sc_rwf.nd rfl (Or.inr rfl)) (pgs_cons (pg_name (i := 4) sc_rwf.nd rfl (Or.inr rfl)) pgs_nil)))
        (pss_one (ps_setLc2 (i := 2) (own := [("row", 5), ("found", 6), ("value", 7)]) (vs1 := [7]) (g := gTup K 2 (gCons (gName 5) (gCons (gName 6) gNil))) (tt := tYes) (g1 := gName 7) (tt1 := tYes) rfl sc_rwf.nd rfl rfl (sw_true rfl rfl rfl (by decide +kernel)) (pi_list (pv 2))
          (blkOk_by (N := nRwf) (sc := defScope s_rows_with_facts) (by decide +kernel)) (by decide) (fun _ _ _ _ _ => pgT K (pg_tup rfl (pgs_cons (pg_name (i := 5) sc_rwf.nd rfl (Or.inl rfl)) (pgs_cons (pg_name (i := 6) sc_rwf.nd rfl (Or.inl rfl)) pgs_nil)))) (fun _ _ _ _ _ => pts_nil)
          (fun _ _ _ _ _ => piL (K := K) (pv 4)) (fun _ _ _ _ _ => pg_name (i := 7) sc_rwf.nd rfl (Or.inl rfl)) (fun _ _ _ _ _ => pts_nil)
          (fun _ _ _ _ _ => pe_tup (pa_cons (pe_tup (starK K (pv 5) (pa_cons (pv 7) pa_nil))) (pa_cons (pe_tup (starK K (pv 6) (starK K (pcall Dfa Gfa hr2 (pa_cons (pv 1) (pa_cons (pv 3) (pa_cons (pv 5) (pa_cons (pv 7) pa_nil))))) pa_nil))) pa_nil))))))
      (pss_one (ps_ret (pv 2)))), ?_⟩
    refine ⟨Nat.zero_le _, fun e1 n1 => ⟨Nat.zero_le _, fun e2 n2 => ⟨by show 2 ≤ sizeLine; decide, fun e3 n3 => ⟨by show 1 ≤ sizeLine; decide, fun l0 n4 => ?_⟩⟩⟩⟩
    have s1 : Same H (upd H e1 (.tup [])) := same_new n1
    have h1 : (upd H e1 (.tup [])) e1 = some (.tup []) := upd_same
    generalize upd H e1 (.tup []) = H1 at s1 h1 n2 n3 n4 ⊢
    have s2 : Same H1 (upd H1 e2 (.tup [])) := same_new n2
    have h2 : (upd H1 e2 (.tup [])) e2 = some (.tup []) := upd_same
    generalize upd H1 e2 (.tup []) = H2 at s2 h2 n3 n4 ⊢
    have s3 : Same H2 (upd H2 e3 (.tup [.ref e1, .ref e2])) := same_new n3
    have h3 : (upd H2 e3 (.tup [.ref e1, .ref e2])) e3 = some (.tup [.ref e1, .ref e2]) := upd_same
    generalize upd H2 e3 (.tup [.ref e1, .ref e2]) = H3 at s3 h3 n4 ⊢
    have s4 : Same H3 (upd H3 l0 (.lst [.ref e3])) := same_new n4
    have h4 : (upd H3 l0 (.lst [.ref e3])) l0 = some (.lst [.ref e3]) := upd_same
    have sH : Same H H3 := s1.trans (s2.trans s3)
    have nl0 : H l0 = none := sH.free n4
    generalize upd H3 l0 (.lst [.ref e3]) = H4 at s4 h4 ⊢
    have sH4 := sH.trans s4
    have x0 : XAt H4 (e3, e1, e2, [], []) := ⟨s4 _ _ h3, (s2.trans (s3.trans s4)) _ _ h1, (s3.trans s4) _ _ h2, fun _ z => nomatch z⟩
    clear s1 s2 s3 s4 h1 h2 h3 n1 n2 n3 n4
    refine ⟨_, rfl, _, rfl, p, a, ss, ks, cs, ts, rfl, pl.same sH4, okc.same sH4, ask.same sH4, l6, so, fun t ls H5 s5 nt h5 la key => ?_⟩
    have sH5 := sH4.trans s5
    have lls : ls.length = ss.length := by have := congrArg List.length key; rwa [List.length_map, List.length_map] at this
    have lotl : ∀ l ∈ ls, 1 ≤ l.2.length ∧ l.2.length ≤ 100 := fun l hl => by
      have hm : l.2 ∈ ss.map (lotOf cs) := by rw [← key]; exact List.mem_map_of_mem hl
      obtain ⟨z, hz, ez⟩ := List.mem_map.mp hm
      rw [← ez]; exact lotOf_len okc (so z hz)
    have small : ∀ i, (rowsL ((ls.map (·.2)).take i)).length ≤ 5000 := fun i => by
      rw [rowsL_count]
      have h := lenL_take (ls := ls.map (·.2)) (fun l hl => by obtain ⟨z, hz, rfl⟩ := List.mem_map.mp hl; exact (lotl z hz).1) i
      have h2 : (lenL (ls.map (·.2)) : Int) ≤ 5000 := by rw [← prodI_lenL, key]; exact few
      omega
    refine ⟨t, _, rfl, lof h5, for_it walk_enum (fun i σ H2 => ∃ (l : Addr) (xs : List XRow) (x3 x4 x5 x6 x7 : Option V), σ = [some (.ref p), some (.ref a), some (.ref l), x3, x4, x5, x6, x7] ∧ Same H5 H2 ∧ H l = none ∧ H2 l = some (.lst (xs.map xv)) ∧ (∀ x ∈ xs, XAt H2 x) ∧
        xs.map xk = (rowsL ((ls.map (·.2)).take i)).map fun r => (r, rowK ss ks r r.length))
      ⟨l0, [(e3, e1, e2, [], [])], none, none, none, none, none, rfl, Same.refl _, nl0, s5 _ _ h4, (fun x hx => by rw [List.mem_singleton.mp hx]; exact x0.imm (same_imm s5)), rfl⟩ (fun i σ H2 _ ⟨_, _, _, _, _, _, _, _, s', _⟩ => lof (s' _ _ h5)) ?_ ?_⟩
    · rintro i x σ H6 H7 hi ⟨l, xs, x3, x4, x5, x6, x7, rfl, s6, nl, hl, xa, kx⟩ ⟨T1, ya, yb, rfl, nT, rfl, ha, hb⟩
      have ea : ya = .int (i : Nat) := (Option.some.inj ha).symm
      subst ea
      have hb' : (ls.map lw)[i]? = some yb := hb
      rw [List.getElem?_map] at hb'
      obtain ⟨z, hz, rfl⟩ := Option.map_eq_some_iff.mp hb'
      have zm := List.mem_of_getElem? hz
      have hil : i < ls.length := (List.getElem?_eq_some_iff.mp hz).1
      have sT : Same H6 (upd H6 T1 (.tup [.int (i : Nat), lw z])) := same_new nT
      have kT : (upd H6 T1 (.tup [.int (i : Nat), lw z])) T1 = some (.tup [.int (i : Nat), lw z]) := upd_same
      generalize upd H6 T1 (.tup [.int (i : Nat), lw z]) = H7 at sT kT ⊢
      refine ⟨T1, _, rfl, tof kT, rfl, _, _, rfl, _, _, rfl, rfl, ?_⟩
      have s7 := s6.trans sT
      have hl7 := sT _ _ hl
      have xa7 : ∀ x ∈ xs, XAt H7 x := fun x hx => (xa x hx).imm (same_imm sT)
      have hz7 : H7 z.1 = some (.lst (z.2.map V.int)) := s7 _ _ (la z zm)
      have tk : (ls.map (·.2)).take (i + 1) = (ls.map (·.2)).take i ++ [z.2] := by rw [List.take_succ, List.getElem?_map, hz]; rfl
      have xl : xs.length = (rowsL ((ls.map (·.2)).take i)).length := by have := congrArg List.length kx; rwa [List.length_map, List.length_map] at this
      have xsm : xs.length ≤ 5000 := by rw [xl]; exact small i
      have tot : (xs.flatMap fun x => z.2.map fun v => x.2.2.2.1 ++ [v]).length ≤ 5000 := by
        have h := small (i + 1)
        rw [tk, rowsL_snoc] at h
        have e : (rowsL ((ls.map (·.2)).take i)) = xs.map fun x => x.2.2.2.1 := by
          have := congrArg (fun l : List (List Int × List FK) => l.map (·.1)) kx
          rw [List.map_map, List.map_map] at this
          exact (this.trans (List.map_id _)).symm
        rw [e, List.flatMap_map] at h
        exact h
      have row : ∀ x ∈ xs, x.2.2.2.1.length = i ∧ x.2.2.2.2.map (·.2.2) = rowK ss ks x.2.2.2.1 i := fun x hx => by
        have h : xk x ∈ (rowsL ((ls.map (·.2)).take i)).map fun r => (r, rowK ss ks r r.length) := by rw [← kx]; exact List.mem_map_of_mem hx
        obtain ⟨r, hr, e⟩ := List.mem_map.mp h
        have e1 : r = x.2.2.2.1 := congrArg Prod.fst e
        have e2 : rowK ss ks r r.length = x.2.2.2.2.map (·.2.2) := congrArg Prod.snd e
        have rl := rowsL_len r hr
        rw [List.length_take, List.length_map, Nat.min_eq_left (by omega)] at rl
        subst e1
        exact ⟨rl, by rw [← e2, rl]⟩
      refine ⟨_, rfl, l, rfl, ⟨_, lof hl7⟩, fun D nD => ?_⟩
      have wml : (xs.map xv).length = xs.length := List.length_map _
      refine lc2_out (H1 := H7) (walk_list (K := K) (a := l) (xs := xs.map xv)) nD (fun H4 s4 => lof (s4 _ _ hl7)) (fun i2 acc H' => ∃ gs : List XRow, acc = gs.map xv ∧ (∀ x ∈ gs, XAt H' x) ∧ gs.map xk = (xs.take i2).flatMap fun x => z.2.map fun v => (x.2.2.2.1 ++ [v], rowK ss ks (x.2.2.2.1 ++ [v]) (i + 1)))
        ⟨[], rfl, (fun _ z => nomatch z), rfl⟩ (fun i acc H H' im ⟨gs, e, fa, k⟩ => ⟨gs, e, fun r hr => (fa r hr).imm im, k⟩) (fun i2 x2 Ha Hb acc Nx hi2 sa hDa ⟨gs, ea, ga, ka⟩ y2 hN => ?_) (fun H8 acc s8 hD8 ⟨gs, ea, ga, ka⟩ => ?_)
      · obtain ⟨rfl, hx2⟩ := y2
        subst ea
        rw [List.getElem?_map] at hx2
        obtain ⟨x, hx, rfl⟩ := Option.map_eq_some_iff.mp hx2
        have xm := List.mem_of_getElem? hx
        have xat := (xa7 x xm).imm (same_imm sa)
        obtain ⟨rl, rk⟩ := row x xm
        have tk2 : xs.take (i2 + 1) = xs.take i2 ++ [x] := by rw [List.take_succ, hx]; rfl
        have glen : ∀ j ≤ z.2.length, gs.length + j ≤ 5000 := fun j hj => by
          have h := congrArg List.length ka
          rw [List.length_map] at h
          have e : xs = xs.take i2 ++ x :: xs.drop (i2 + 1) := by
            have hlt := (List.getElem?_eq_some_iff.mp hx).1
            have e2 := (List.getElem?_eq_some_iff.mp hx).2
            rw [← e2, ← List.drop_eq_getElem_cons hlt, List.take_append_drop]
          have h2 := tot
          rw [e, List.flatMap_append, List.flatMap_cons, List.length_append, List.length_append, List.length_map] at h2
          have h3 : ((xs.take i2).flatMap fun x => z.2.map fun v => (x.2.2.2.1 ++ [v], rowK ss ks (x.2.2.2.1 ++ [v]) (i + 1))).length = ((xs.take i2).flatMap fun x => z.2.map fun v => x.2.2.2.1 ++ [v]).length := by
            simp only [List.length_flatMap, List.length_map]
          omega
        have flen : x.2.2.2.2.length ≤ 606 := by
          have h := congrArg List.length rk
          rw [List.length_map] at h
          have h2 := rowK_len (ks := ks) (rs := x.2.2.2.1) (fun z hz => (so z hz).ones.len) i
          have h3 : 101 * i ≤ 101 * 6 := Nat.mul_le_mul_left _ (by omega)
          omega
        refine ⟨x.1, _, rfl, tof xat.p, rfl, _, _, rfl, _, _, rfl, rfl, rfl, ?_⟩
        refine iteT (B := Nx Hb) ?_
        have hzb := sa _ _ hz7
        refine ⟨_, rfl, z.1, rfl, ⟨_, lof hzb⟩, ?_⟩
        have zD : z.1 ≠ D := ne_of_none hz7 nD
        refine lc_in (walk_list (K := K) (a := z.1) (xs := z.2.map V.int)) hDa (fun H e => lof (e _ _ (by rw [rem_ne zD]; exact hzb))) (fun j acc H' => ∃ g1 : List XRow, acc = (gs ++ g1).map xv ∧ (∀ r ∈ gs ++ g1, XAt H' r) ∧ g1.map xk = (z.2.take j).map fun v => (x.2.2.2.1 ++ [v], rowK ss ks (x.2.2.2.1 ++ [v]) (i + 1)))
          ⟨[], by rw [List.append_nil], by rw [List.append_nil]; exact ga, rfl⟩ (fun i acc H H' im ⟨g1, e, fa, k⟩ => ⟨g1, e, fun r hr => (fa r hr).imm im, k⟩) (fun j acc H' hj ⟨g1, e, _, k⟩ => ?_) (fun j o Hc Hd acc Q1 Q2 hj sc hDc ⟨g1, e1, f1, k1⟩ y3 q1 q2 => ?_) (fun H' acc s' hD' ⟨g1, e1, f1, k1⟩ => ?_)
        · have h := congrArg List.length k
          rw [List.length_map, List.length_map, List.length_take] at h
          rw [List.length_map] at hj
          have := glen j (by omega)
          rw [e, List.length_map, List.length_append]
          exact Nat.lt_of_le_of_lt (show gs.length + g1.length ≤ 5000 by omega) (by decide)
        · obtain ⟨rfl, eo⟩ := y3
          subst e1
          rw [List.getElem?_map] at eo
          obtain ⟨v, hv, rfl⟩ := Option.map_eq_some_iff.mp eo
          refine ⟨rfl, ?_⟩
          refine iteT (B := Q2 Hd) ?_
          have imc : Imm Hb Hd := fun b ys e => sc _ _ (rem_tup hDa e)
          have xac := xat.imm imc
          have sHc : Same H Hd := fun b o e => by
            have e7 := (sH5.trans (s7.trans sa)) _ _ e
            have bD : b ≠ D := ne_of_none ((sH5.trans s7) _ _ e) nD
            exact sc _ _ (by rw [rem_ne bD]; exact e7)
          refine ⟨_, rfl, x.2.1, _, rfl, .inl (tof xac.r), _, rfl, ?_, fun t1 n1 => ?_⟩
          · rw [List.length_append, List.length_map]; exact Nat.le_trans (show x.2.2.2.1.length + 1 ≤ 10 by omega) (by decide)
          have u1 : Same Hd (upd Hd t1 (.tup (x.2.2.2.1.map V.int ++ [.int v]))) := same_new n1
          have g1' : (upd Hd t1 (.tup (x.2.2.2.1.map V.int ++ [.int v]))) t1 = some (.tup ((x.2.2.2.1 ++ [v]).map V.int)) := by rw [upd_same, List.map_append]; rfl
          generalize upd Hd t1 (.tup (x.2.2.2.1.map V.int ++ [.int v])) = He at u1 g1' ⊢
          have xae := xac.imm (same_imm u1)
          have sHe := sHc.trans u1
          refine ⟨_, rfl, x.2.2.1, _, rfl, .inl (tof xae.f), _, rfl, _, rfl, _, rfl, _, rfl, a, x.2.1, i, v, ss, ks, x.2.2.2.1, rfl, ask.same sHe, xae.r, by omega, by omega, l6, fun z hz => (so z hz).ones.len, fun tt fs2 Hf sf ntt htt fa2 kf2 => ?_⟩
          have fl2 : fs2.length ≤ 101 := by
            have h := congrArg List.length kf2
            rw [List.length_map] at h
            have := addedK_len (ss := ss) (ks := ks) (rs := x.2.2.2.1) (i := i) (v := v) fun z hz => (so z hz).ones.len
            omega
          refine ⟨tt, _, rfl, .inr (lof htt), ?_, fun t2 n2 => ?_⟩
          · rw [List.append_nil, List.length_append, List.length_map, List.length_map]; exact Nat.le_trans (show x.2.2.2.2.length + fs2.length ≤ 1000 by omega) (by decide)
          rw [List.append_nil, ← List.map_append]
          have u2 : Same Hf (upd Hf t2 (.tup ((x.2.2.2.2 ++ fs2).map fv))) := same_new n2
          have g2' : (upd Hf t2 (.tup ((x.2.2.2.2 ++ fs2).map fv))) t2 = some (.tup ((x.2.2.2.2 ++ fs2).map fv)) := upd_same
          have fa3 : ∀ f ∈ x.2.2.2.2 ++ fs2, FAt (upd Hf t2 (.tup ((x.2.2.2.2 ++ fs2).map fv))) f := fun f hf => by
            rcases List.mem_append.mp hf with hf | hf
            · exact (xae.fa f hf).imm (same_imm (sf.trans u2))
            · exact (fa2 f hf).imm (same_imm u2)
          have g1f := (sf.trans u2) _ _ g1'
          generalize upd Hf t2 (.tup ((x.2.2.2.2 ++ fs2).map fv)) = Hg at u2 g2' fa3 g1f ⊢
          refine ⟨by show 2 ≤ sizeLine; decide, fun t3 n3 => ?_⟩
          have u3 : Same Hg (upd Hg t3 (.tup [.ref t1, .ref t2])) := same_new n3
          have new : XAt (upd Hg t3 (.tup [.ref t1, .ref t2])) (t3, t1, t2, x.2.2.2.1 ++ [v], x.2.2.2.2 ++ fs2) := ⟨upd_same, u3 _ _ g1f, u3 _ _ g2', fun f hf => (fa3 f hf).imm (same_imm u3)⟩
          have uA : Same Hd (upd Hg t3 (.tup [.ref t1, .ref t2])) := u1.trans (sf.trans (u2.trans u3))
          refine q1 _ _ uA ⟨g1 ++ [(t3, t1, t2, x.2.2.2.1 ++ [v], x.2.2.2.2 ++ fs2)], ?_, fun y hy => ?_, ?_⟩
          · rw [← List.append_assoc, List.map_append (l₁ := gs ++ g1)]; rfl
          · rw [← List.append_assoc] at hy
            rcases List.mem_append.mp hy with hy | hy
            · exact (f1 y hy).imm (same_imm uA)
            · rw [List.mem_singleton] at hy; subst hy; exact new
          · rw [List.map_append, k1, List.take_succ, hv, List.map_append]
            congr 1
            show [(x.2.2.2.1 ++ [v], (x.2.2.2.2 ++ fs2).map (·.2.2))] = [(x.2.2.2.1 ++ [v], rowK ss ks (x.2.2.2.1 ++ [v]) (i + 1))]
            have e := rowK_snoc (ss := ss) (ks := ks) (rs := x.2.2.2.1) (v := v)
            rw [rl] at e
            rw [e, List.map_append, rk, kf2]
        · subst e1
          rw [List.length_map, List.take_length] at k1
          have sHH : Same H7 H' := (same_into_rem sa nD).trans s'
          refine hN _ _ sHH hD' ⟨gs ++ g1, rfl, f1, ?_⟩
          rw [List.map_append, ka, k1, tk2, List.flatMap_append, List.flatMap_cons, List.flatMap_nil, List.append_nil]
      · subst ea
        rw [wml, List.take_length] at ka
        refine ⟨D, gs, _, _, _, _, _, rfl, s7.trans s8, (sH5.trans s7).free nD, hD8, ga, ?_⟩
        rw [ka, tk, rowsL_snoc]
        have e : (rowsL ((ls.map (·.2)).take i)) = xs.map fun x => x.2.2.2.1 := by
          have := congrArg (fun l : List (List Int × List FK) => l.map (·.1)) kx
          rw [List.map_map, List.map_map] at this
          exact (this.trans (List.map_id _)).symm
        rw [e, List.flatMap_map, List.map_flatMap]
        have : ∀ ys : List XRow, (∀ x ∈ ys, x.2.2.2.1.length = i) → (ys.flatMap fun x => z.2.map fun v => (x.2.2.2.1 ++ [v], rowK ss ks (x.2.2.2.1 ++ [v]) (i + 1))) = ys.flatMap fun a => (z.2.map fun v => a.2.2.2.1 ++ [v]).map fun r => (r, rowK ss ks r r.length) := by
          intro ys
          induction ys with
          | nil => intro _; rfl
          | cons y ys ih =>
            intro hy
            rw [List.flatMap_cons, List.flatMap_cons, ih fun x hx => hy x (List.mem_cons_of_mem _ hx), List.map_map]
            congr 1
            apply List.map_congr_left
            intro v _
            show _ = (y.2.2.2.1 ++ [v], rowK ss ks (y.2.2.2.1 ++ [v]) (y.2.2.2.1 ++ [v]).length)
            rw [List.length_append, List.length_singleton, hy y List.mem_cons_self]
        exact this xs fun x hx => (row x hx).1
    · rintro σ H6 ⟨l, xs, x3, x4, x5, x6, x7, rfl, s6, nl, hl, xa, kx⟩
      rw [List.length_map] at kx
      rw [List.take_of_length_le (by rw [List.length_map]; exact Nat.le_refl _), key] at kx
      exact ⟨_, rfl, q l xs H6 (sH5.trans s6) nl hl xa kx⟩
end
end As

/-! ## F1 -/
namespace As
open PySem PySem.Spec PyProof.Rows L2
open PySem.W (dataLe AllAlike Sortable dataLt alike)
section
variable {P : Program} {w : World} {K : PySem.W.Frag} {mg : Str → Option Value} {base : Heap}
theorem fact_is {cs : List CRow} {ts : List TRow} (nd : (ts.map (·.2.1)).Nodup) {fs : List FRow} (ow : OwnF cs ts fs) {f : FRow} (hf : f ∈ fs) {H : Hp} (h : FAt H f) : isFactV H cs ts (fv f) = true := by
  obtain ⟨r, hr, hk⟩ := ow f hf
  exact isFact_of nd hr h hk
/-- a list, a tuple, or the empty tuple that a default argument is -/
inductive LT (K : PySem.W.Frag) (H : Hp) (l : Addr) : List V → Prop where
  | lst {xs : List V} (h : H l = some (.lst xs)) : LT K H l xs
  | tup {xs : List V} (h : H l = some (.tup xs)) : LT K H l xs
  | emp {o : Obj} {n : Nat} (h : K.lookup l = some o) (hc : o.cls = .type "tuple") (hd : o.data = .seq #[] n) : LT K H l []
theorem LT.same {K : PySem.W.Frag} {H H' : Hp} {l : Addr} {xs : List V} (h : LT K H l xs) (e : Same H H') : LT K H' l xs := by
  cases h with
  | lst h => exact .lst (e _ _ h)
  | tup h => exact .tup (e _ _ h)
  | emp h hc hd => exact .emp h hc hd
theorem LT.or {K : PySem.W.Frag} {H : Hp} {l : Addr} {xs : List V} (h : LT K H l xs) : SqL K H l xs ∨ SqT K H l xs := by
  cases h with
  | lst h => exact .inl (lof h)
  | tup h => exact .inr (tof h)
  | emp h hc hd => exact .inr (.inr ⟨_, _, _, h, hc, hd, Nat.zero_le _, .nil⟩)
def spListX (K : PySem.W.Frag) : Sp := fun vs H Q _ => ∃ a xs, vs = [.ref a] ∧ LT K H a xs ∧ ∀ H', Same H H' → Q (.bl true) H'
theorem ok_listX {f : Addr} {fd : FuncData} (D : Df K mg "is_list" s_is_list ["thing"] f fd) (T : Bi mg) : FnOk P w K mg base CX0 1 f fd ["thing"] (spListX K) := by
  refine D.F.ok sc_list (fun vs H Q E h => ?_) (fun cdv A outer s H vs Q E hr h => ?_)
  · obtain ⟨a, xs, rfl, _⟩ := h; rfl
  · obtain ⟨a, xs, rfl, hs, q⟩ := h
    refine ⟨_, pss_one (ps_ret (pe_callB call_isiT (by rfl) T.isinst (by decide +kernel) (pa_cons (pv 0) (pa_cons (pe_tup (pa_cons (pe_bltn (v := .ty "list") (by rfl) T.list (by decide +kernel) rfl)
      (pa_cons (pe_bltn (v := .ty "tuple") (by rfl) T.tuple (by decide +kernel) rfl) pa_nil))) pa_nil)))), ?_⟩
    refine ⟨_, rfl, by show 2 ≤ sizeLine; decide, fun p hp => ?_⟩
    have s1 : Same H (upd H p (.tup [.ty "list", .ty "tuple"])) := same_new hp
    cases hs.same s1 with
    | lst h => exact ⟨_, p, _, .type "list", _, true, rfl, upd_same, .cons (.ty _) (.cons (.ty _) .nil), .base (.lst h), kany1, q _ s1⟩
    | tup h => exact ⟨_, p, _, .type "tuple", _, true, rfl, upd_same, .cons (.ty _) (.cons (.ty _) .nil), .base (.tup h), kany2, q _ s1⟩
    | emp h hc hd => exact ⟨_, p, _, .type "tuple", _, true, rfl, upd_same, .cons (.ty _) (.cons (.ty _) .nil), .kTuple h hc, kany2, q _ s1⟩
/-- are_facts: a list of facts -/
def spAreF (K : PySem.W.Frag) (C : Addr) : Sp := fun vs H Q _ => ∃ (p l : Addr) (cs : List CRow) (ts : List TRow) (gs : List FRow), vs = [.ref p, .ref l] ∧ PlanAt H C p cs ts ∧ ColsOk H cs ∧ TabsOk H (cs.map (·.2.1)) ts ∧
  LT K H l (gs.map fv) ∧ (∀ f ∈ gs, FAt H f) ∧ OwnF cs ts gs ∧ gs.length ≤ 10000 ∧ ∀ H', Same H H' → Q (.bl true) H'
abbrev nAreF : List Str := ["plan", "thing", "item"]
theorem sc_are_facts : FnScope nAreF ["plan", "thing"] (defScope s_are_facts) := ⟨rfl, rfl, rfl, by decide +kernel, rfl, by decide +kernel, by decide +kernel⟩
theorem ok_are_facts {f fl fi C : Addr} {fd dl di : FuncData} (D : Df K mg "are_facts" s_are_facts ["plan", "thing"] f fd) (T : Bi mg) (Dl : Df K mg "is_list" s_is_list ["thing"] fl dl) (Gl' : FnOk P w K mg base CX0 1 fl dl ["thing"] (spListX K))
    (Di : Df K mg "is_fact" s_is_fact ["plan", "thing"] fi di) (Gi : FnOk P w K mg base CX0 3 fi di ["plan", "thing"] (spIsFact C)) : FnOk P w K mg base CX0 4 f fd ["plan", "thing"] (spAreF K C) := by
  refine D.F.ok sc_are_facts (fun vs H Q E h => ?_) (fun cdv A outer s H vs Q E hr h => ?_)
  · obtain ⟨p, l, cs, ts, gs, rfl, _⟩ := h; rfl
  · obtain ⟨p, l, cs, ts, gs, rfl, pl, okc, okt, hl, fa, ow, len, q⟩ := h
    have hr1 : Room 1 _ := hr.mono (by decide)
    refine ⟨_, pss_one (ps_ret (pe_and (pcall Dl Gl' hr1 (pa_cons (pv 1) pa_nil)) (pe_one (pe_callB (cr_all rfl) (by rfl) T.all (by decide +kernel) (pa_cons (pe_lc (own := [("item", 2)]) (g := gName 2) (tt := tYes) rfl sc_are_facts.nd (pi_either (pi_list (pv 1)) (pi_tup (pv 1)))
        (blkOk_by (N := nAreF) (sc := defScope s_are_facts) (by decide +kernel)) (fun _ _ _ _ _ => pg_name (i := 2) sc_are_facts.nd rfl (Or.inl rfl)) (fun _ _ _ _ _ => pts_nil)
        (fun _ _ _ _ _ => pcall Di Gi hr (pa_cons (pv 0) (pa_cons (pv 2) pa_nil)))) pa_nil))))), ?_⟩
    have lenV : (gs.map fv).length = gs.length := List.length_map _
    refine ⟨_, rfl, l, _, rfl, hl, fun H1 s1 => ⟨true, rfl, iteT ?_⟩⟩
    have len2 : (gs.map fv).length < sizeLine := by rw [lenV]; exact Nat.lt_of_le_of_lt len (by decide)
    rcases (hl.same s1).or with h1 | h1
    · refine .inl ⟨_, rfl, l, rfl, ⟨_, h1⟩, fun D nD => ?_⟩
      refine lc_same (B := H1) walk_list rfl (Same.refl H1) nD (fun H e => e.seq h1) len2 (fun _ => some (.bl true)) (fun x H2 Q1 Q2 hx s2 k1 k2 => ?_) (fun H2 s2 hD2 => ?_)
      · obtain ⟨f, hf, rfl⟩ := List.mem_map.mp hx
        have e2 := s1.trans s2
        have f2 := (fa f hf).imm (same_imm e2)
        refine ⟨rfl, ?_⟩
        refine iteT (B := Q2 H2) ?_
        refine ⟨_, rfl, _, rfl, p, fv f, cs, ts, rfl, pl.same e2, okc.same e2, okt.same e2, deep_f f2, fun H3 s3 => ?_⟩
        rw [fact_is okt.nd ow hf f2]
        exact k1 _ _ rfl s3
      · have e : (gs.map fv).filterMap (fun _ => some (V.bl true)) = (gs.map fun _ => true).map V.bl := by
          rw [filterMap_some, List.map_map, List.map_map]; rfl
        rw [e] at hD2
        refine ⟨D, _, rfl, lof hD2, ?_⟩
        rw [show (gs.map fun _ => true).all id = true from by simp]
        exact q _ (s1.trans s2)
    · refine .inr ⟨_, rfl, l, rfl, ⟨_, h1⟩, fun D nD => ?_⟩
      refine lc_same (B := H1) walk_tup rfl (Same.refl H1) nD (fun H e => same_t e h1) len2 (fun _ => some (.bl true)) (fun x H2 Q1 Q2 hx s2 k1 k2 => ?_) (fun H2 s2 hD2 => ?_)
      · obtain ⟨f, hf, rfl⟩ := List.mem_map.mp hx
        have e2 := s1.trans s2
        have f2 := (fa f hf).imm (same_imm e2)
        refine ⟨rfl, ?_⟩
        refine iteT (B := Q2 H2) ?_
        refine ⟨_, rfl, _, rfl, p, fv f, cs, ts, rfl, pl.same e2, okc.same e2, okt.same e2, deep_f f2, fun H3 s3 => ?_⟩
        rw [fact_is okt.nd ow hf f2]
        exact k1 _ _ rfl s3
      · have e : (gs.map fv).filterMap (fun _ => some (V.bl true)) = (gs.map fun _ => true).map V.bl := by
          rw [filterMap_some, List.map_map, List.map_map]; rfl
        rw [e] at hD2
        refine ⟨D, _, rfl, lof hD2, ?_⟩
        rw [show (gs.map fun _ => true).all id = true from by simp]
        exact q _ (s1.trans s2)
/-- is_look: a look of the plan -/
def spIsLook (C : Addr) : Sp := fun vs H Q _ => ∃ (p : Addr) (l : LRow) (cs : List CRow) (ts : List TRow), vs = [.ref p, lv l] ∧ PlanAt H C p cs ts ∧ ColsOk H cs ∧ TabsOk H (cs.map (·.2.1)) ts ∧ LAt H l ∧ (∃ r ∈ ts, LofT cs r l.2) ∧ ∀ H', Same H H' → Q (.bl true) H'
abbrev nIsLook : List Str := ["plan", "thing", "table", "side", "value", "spans"]
theorem sc_is_look : FnScope nIsLook ["plan", "thing"] (defScope s_is_look) := ⟨rfl, rfl, rfl, by decide +kernel, rfl, by decide +kernel, by decide +kernel⟩
theorem ok_is_look {f fb fs C : Addr} {fd db ds : FuncData} (D : Df K mg "is_look" s_is_look ["plan", "thing"] f fd) (T : Bi mg) (L : PlF K C) (Fs : Fun K "spans" "Plan.spans" s_spans fs ds) (bs : Binds K ds ["self", "table"] []) (ms : Meth K C "spans" fs)
    (Db : Df K mg "is_below" s_is_below ["thing", "bound"] fb db) (Gb : FnOk P w K mg base CX0 2 fb db ["thing", "bound"] (spBelow K)) :
    FnOk P w K mg base CX0 3 f fd ["plan", "thing"] (spIsLook C) := by
  have Gs : FnOk P w K mg base CX0 1 fs ds ["self", "table"] (spSpans K C) := ok_spans Fs T L
  refine D.F.ok sc_is_look (fun vs H Q E h => ?_) (fun cdv A outer s H vs Q E hr h => ?_)
  · obtain ⟨p, l, cs, ts, rfl, _⟩ := h; rfl
  · obtain ⟨p, l, cs, ts, rfl, pl, okc, okt, hl, ⟨r, hr', e1, sd, c, hc, e2, h0, h1⟩, q⟩ := h
    obtain ⟨dx, ct, tt, sz, sp, sh, ks, g1, _⟩ := id pl
    have hr1 : Room 1 _ := hr.mono (by decide)
    refine ⟨_, pss_cons (ps_if (PW.pt (pw_or (pt_not (pt_val (pe_callB call_isi (by rfl) T.isinst (by decide +kernel) (pa_cons (pv 1) (pa_cons (pe_bltn (v := .ty "tuple") (by rfl) T.tuple (by decide +kernel) rfl) pa_nil)))))
          (pw_or1 (pt_cmpR op_ne (pe_callB call_len_seq (by rfl) T.len PySem.boot_len (pa_cons (pv 1) pa_nil)) pe_int (nomark _))))) (pss_one (ps_ret pe_bl)) pss_nil)
      (pss_cons (ps_asg (pv 1) (pg_tup rfl (pgs_cons (pg_name (i := 2) sc_is_look.nd rfl (Or.inl rfl)) (pgs_cons (pg_name (i := 3) sc_is_look.nd rfl (Or.inl rfl)) (pgs_cons (pg_name (i := 4) sc_is_look.nd rfl (Or.inl rfl)) pgs_nil)))))
      (pss_cons (ps_set (i := 5) sc_is_look.nd rfl (Or.inl rfl) (pe_meth (pv 0) L.cl ms Gs hr1 bs .nil pass0 (pa_cons (pv 2) pa_nil)))
      (pss_cons (ps_if (PW.pt (pw_or (pt_cmp (pc_isN (pv 5))) (pw_or1 (pt_not (pt_val (pcall Db Gb hr (pa_cons (pv 3) (pa_cons (pe_callB call_len_seq (by rfl) T.len PySem.boot_len (pa_cons (pv 5) pa_nil)) pa_nil))))))))
        (pss_one (ps_ret pe_bl)) pss_nil)
      (pss_one (ps_ret (pcall Db Gb hr (pa_cons (pv 4) (pa_cons (pe_ix ix_tup (pv 5) (pv 3) (fun _ _ => rfl)) pa_nil)))))))), ?_⟩
    have no : (pf ct tt sz sp sh).lookup (Str.ofString "spans") = none := pf_no (by decide +kernel) (by decide +kernel) (by decide +kernel) (by decide +kernel) (by decide +kernel)
    refine ⟨_, rfl, _, _, _, _, true, rfl, .ty "tuple", (Val.tup hl).ty, kit_tup .tup, true, rfl, iteF ?_⟩
    refine ⟨_, rfl, l.1, _, rfl, .inr (tof hl), rfl, _, rfl, iteF ?_⟩
    refine ⟨_, rfl, l.1, _, rfl, tof hl, rfl, _, _, rfl, _, _, rfl, _, _, rfl, rfl, ?_⟩
    refine ⟨_, rfl, p, dx, _, rfl, g1, no, _, rfl, p, .str l.2.1, cs, ts, rfl, pl, .inl ⟨l.2.1, rfl, fun e => ?_, fun r' qs e hqs => ?_⟩⟩
    · rw [e1, tabOf_of okt.nd hr'] at e; cases e
    rw [e1, tabOf_of okt.nd hr'] at e; cases e
    have sl : (spanVs cs r).length = r.2.2.2.length := by unfold spanVs; rw [List.length_map]
    have hlt := (List.getElem?_eq_some_iff.mp hc).1
    refine ⟨_, rfl, false, rfl, iteF ?_⟩
    refine ⟨_, rfl, _, rfl, qs, _, rfl, .inr (tof hqs), .int l.2.2.1, .int, _, rfl, .int _, ?_⟩
    have b1 : belowV (.int l.2.2.1) ((spanVs cs r).length : Nat) = true := by
      rw [e2, sl]; show decide (0 ≤ (sd : Int) ∧ (sd : Int) < (r.2.2.2.length : Nat)) = true
      exact decide_eq_true ⟨by omega, by omega⟩
    rw [b1]
    refine ⟨true, rfl, iteF ?_⟩
    have hix : atI (spanVs cs r) l.2.2.1 = some (.int (sizeI cs c)) := by
      rw [e2]
      refine atI_lt (by omega) (by rw [sl]; omega) ?_
      rw [show ((sd : Int)).toNat = sd by omega]
      rw [spanVs_ints okc okt hr']; unfold spanI
      rw [List.map_map, List.getElem?_map, hc]; rfl
    refine ⟨_, rfl, _, rfl, _, rfl, qs, _, l.2.2.1, .int (sizeI cs c), rfl, rfl, tof hqs, hix, .int l.2.2.2, .int, _, rfl, .int _, ?_⟩
    have b2 : belowV (.int l.2.2.2) (sizeI cs c) = true := decide_eq_true ⟨h0, h1⟩
    rw [b2]
    exact q _ (Same.refl _)
/-- check_looks: a list of looks of the plan -/
def spCheckL (C : Addr) : Sp := fun vs H Q _ => ∃ (p l : Addr) (ls : List LRow) (cs : List CRow) (ts : List TRow), vs = [.ref p, .ref l] ∧ PlanAt H C p cs ts ∧ ColsOk H cs ∧ TabsOk H (cs.map (·.2.1)) ts ∧ H l = some (.lst (ls.map lv)) ∧ (∀ x ∈ ls, LAt H x) ∧ (∀ x ∈ ls, ∃ r ∈ ts, LofT cs r x.2) ∧ ∀ H', Same H H' → Q .non H'
abbrev nCheckL : List Str := ["plan", "thing", "at", "item"]
theorem sc_check_looks : FnScope nCheckL ["plan", "thing"] (defScope s_check_looks) := ⟨rfl, rfl, rfl, by decide +kernel, rfl, by decide +kernel, by decide +kernel⟩
theorem ok_check_looks {f fl fi C : Addr} {fd dl di : FuncData} (D : Df K mg "check_looks" s_check_looks ["plan", "thing"] f fd) (T : Bi mg) (en : mg "enumerate" = none) (Dl : Df K mg "is_list" s_is_list ["thing"] fl dl) (Gl' : FnOk P w K mg base CX0 1 fl dl ["thing"] (spList K))
    (Di : Df K mg "is_look" s_is_look ["plan", "thing"] fi di) (Gi : FnOk P w K mg base CX0 3 fi di ["plan", "thing"] (spIsLook C)) : FnOk P w K mg base CX0 4 f fd ["plan", "thing"] (spCheckL C) := by
  refine D.F.ok sc_check_looks (fun vs H Q E h => ?_) (fun cdv A outer s H vs Q E hr h => ?_)
  · obtain ⟨p, l, ls, cs, ts, rfl, _⟩ := h; rfl
  · obtain ⟨p, l, ls, cs, ts, rfl, pl, okc, okt, hl, la, ow, q⟩ := h
    have hr1 : Room 1 _ := hr.mono (by decide)
    refine ⟨_, pss_cons (ps_if (pt_not (pt_val (pcall Dl Gl' hr1 (pa_cons (pv 1) pa_nil)))) (pss_one ps_dead) pss_nil)
      (pss_one (ps_for PassesOwn.never rfl (pi_enum (by rfl) en (pa_cons (pv 1) pa_nil)) (pg_tup rfl (pgs_cons (pg_name (i := 2) sc_check_looks.nd rfl (Or.inl rfl)) (pgs_cons (pg_name (i := 3) sc_check_looks.nd rfl (Or.inl rfl)) pgs_nil)))
        (pss_one (ps_if (pt_not (pt_val (pcall Di Gi hr (pa_cons (pv 0) (pa_cons (pv 3) pa_nil))))) (pss_one ps_dead) pss_nil)))), ?_⟩
    refine ⟨_, rfl, l, _, rfl, .inl hl, fun H1 s1 => ⟨true, rfl, iteF ?_⟩⟩
    refine ⟨_, rfl, l, _, rfl, lof (s1 _ _ hl), for_it walk_enum (fun j σ H2 => ∃ x2 x3, σ = [some (.ref p), some (.ref l), x2, x3] ∧ Same H H2) ⟨_, _, rfl, s1⟩ (fun j σ H2 _ ⟨_, _, _, s'⟩ => lof (s' _ _ hl)) ?_ ?_⟩
    · rintro j x σ H2 H3 hj ⟨x2, x3, rfl, s2⟩ ⟨T1, ya, yb, rfl, nT, rfl, ha, hb⟩
      have hb' : (ls.map lv)[j]? = some yb := hb
      rw [List.getElem?_map] at hb'
      obtain ⟨z, hz, rfl⟩ := Option.map_eq_some_iff.mp hb'
      have zm := List.mem_of_getElem? hz
      have s3 := s2.trans (same_new (o := .tup [ya, lv z]) nT)
      have kT : (upd H2 T1 (.tup [ya, lv z])) T1 = some (.tup [ya, lv z]) := upd_same
      generalize upd H2 T1 (.tup [ya, lv z]) = H3 at s3 kT ⊢
      refine ⟨T1, _, rfl, tof kT, rfl, _, _, rfl, _, _, rfl, rfl, ?_⟩
      refine ⟨_, rfl, _, rfl, p, z, cs, ts, rfl, pl.same s3, okc.same s3, okt.same s3, s3 _ _ (la z zm), ow z zm, fun H4 s4 => ⟨true, rfl, iteF ⟨_, _, rfl, s3.trans s4⟩⟩⟩
    · rintro σ H2 ⟨x2, x3, rfl, s2⟩
      exact q _ s2
end
end As

/-! ## F2 -/
namespace As
open PySem PySem.Spec PyProof.Rows L2
open PySem.W (dataLe AllAlike Sortable dataLt alike)
/-- {fact: True for fact in facts} -/
theorem dcn_f {P : Program} {w : World} {J : It} {G : Hp → Prop} {gs : List FRow} {g : TG} {tt : TT} {tk tv : TE} {vs : List Nat} {σ : L2.St} {H1 : Hp} {D : Addr} {Qd : Hp → Prop}
    (wk : Walk J (gs.map fv).length G (YAt (gs.map fv))) (hG : ∀ H, Same H1 H → G H) (hD : H1 D = none) (fa : ∀ f ∈ gs, FAt H1 f) (len : gs.length ≤ 10000)
    (hs : ∀ f H (Q1 : V → V → Hp → Prop) (Q2 : Hp → Prop), f ∈ gs → Same H1 H → (∀ H5, Same H H5 → Q1 (fv f) (.bl true) H5) → g (fv f) (wipe σ vs) H fun σ2 H2 => wipe σ2 vs = wipe σ vs ∧ tt σ2 H2 fun b H3 => if b = true then tk σ2 H3 (fun y H4 => tv σ2 H4 fun z H5 => Q1 y z H5) else Q2 H3)
    (hd : ∀ H (us : List FRow), Same H1 H → H D = some (NDict P w D (us.map fEnt)) → (∀ f ∈ us, f ∈ gs) → (us.map (·.2.2)).Nodup → (∀ k, k ∈ us.map (·.2.2) ↔ k ∈ gs.map (·.2.2)) → us.length ≤ gs.length → Qd H) :
    ∃ W : Nat → Nat → Hp → Prop, (∃ m, W 0 m (upd H1 D (NDict P w D []))) ∧ ∀ i m H, W i m H → (J.stop i H ∧ Qd H) ∨ (J.go i H ∧ ∃ Nx : Hp → Prop, (∀ H', Nx H' → ∃ m', m' < m ∧ W (i + 1) m' H') ∧
      ∀ x H', J.yld i H x H' → g x (wipe σ vs) H' fun σ2 H2 => wipe σ2 vs = wipe σ vs ∧ tt σ2 H2 fun b H3 => if b = true then tk σ2 H3 fun y H4 => tv σ2 H4 fun z H5 => NdTurn P w D Nx y z H5 else Nx H3) := by
  have lenV : (gs.map fv).length = gs.length := List.length_map _
  refine lc_gen (BODY := fun x H' Nx => g x (wipe σ vs) H' fun σ2 H2 => wipe σ2 vs = wipe σ vs ∧ tt σ2 H2 fun b H3 => if b = true then tk σ2 H3 fun y H4 => tv σ2 H4 fun z H5 => NdTurn P w D Nx y z H5 else Nx H3)
    wk (fun i H => Same H1 H ∧ H D = some (NDict P w D ((uniq gs i).map fEnt))) ⟨same_new hD, upd_same⟩ (fun i H _ z => hG H z.1) (fun i x H H' hi z y => ?_) (fun H z => ?_)
  · obtain ⟨rfl, hx⟩ := y
    rw [List.getElem?_map] at hx
    obtain ⟨f, hf, rfl⟩ := Option.map_eq_some_iff.mp hx
    have fm := List.mem_of_getElem? hf
    obtain ⟨s, hd'⟩ := z
    have up := uniq_prop (gs := gs) i (by omega)
    refine hs f H' (fun y z H5 => NdTurn P w D _ y z H5) _ fm s fun H5 s5 => ?_
    refine ⟨(uniq gs i).map fEnt, fkN f.2.2, f.1, rfl, key_f ((fa f fm).imm (same_imm (s.trans s5))), s5 _ _ hd', fun e he => ?_, ?_, same_mut (s.trans s5) hD, ?_⟩
    · obtain ⟨g', hg, rfl⟩ := List.mem_map.mp he
      exact key_f ((fa g' (up.1 g' hg)).imm (same_imm (s.trans s5)))
    · rw [List.length_map]; exact Nat.lt_of_le_of_lt (show (uniq gs i).length ≤ 10000 by have := up.2.2.2; omega) (by decide)
    · rw [upd_same, ndPut_f, ← uniq_succ hf]
  · obtain ⟨s, hd'⟩ := z
    rw [lenV] at hd'
    have up := uniq_prop (gs := gs) gs.length (Nat.le_refl _)
    refine hd H _ s hd' up.1 up.2.1 (fun k => ?_) up.2.2.2
    rw [up.2.2.1 k, List.take_length]
/-- a dict comprehension: R tells what it gives -/
theorem dcn_mid {P : Program} {w : World} {wi : TI} {g : TG} {tt : TT} {tk tv : TE} {vs : List Nat} {σ : L2.St} {H : Hp} {Q : VK} (R : Addr → Hp → Prop) (h : ∀ Q' : VK, (∀ D H', R D H' → Q' (.ref D) H') → tDcN P w wi g tt tk tv vs σ H Q') (k : ∀ D H', R D H' → Q (.ref D) H') : tDcN P w wi g tt tk tv vs σ H Q := by
  refine (show ∀ Q0 : VK, (∀ D H', R D H' → Q0 (.ref D) H') → tDcN P w wi g tt tk tv vs σ H Q0 from h) Q k
structure StF (K : PySem.W.Frag) (S : Addr) : Prop where
  cl : Cls K S
  aP : NoAttr K S (Str.ofString "_plan")
  aE : NoAttr K S (Str.ofString "_present")
  aF : NoAttr K S (Str.ofString "_facts")
theorem sortF_map' {fs : List FRow} : (fs.mergeSort (dataLe false fun r : FRow => fkD r.2.2)).map (·.2.2) = sortF (fs.map (·.2.2)) :=
  PySem.W.sort_maps (r := dataLe false fun r : FRow => fkD r.2.2) (s := dataLe false fkD) (fun r : FRow => r.2.2) fun _ _ _ _ => rfl
section
variable {P : Program} {w : World} {K : PySem.W.Frag} {mg : Str → Option Value} {base : Heap}
def spSInit (P : Program) (w : World) (K : PySem.W.Frag) (C S : Addr) : Sp := fun vs H Q _ => ∃ (s dx p l : Addr) (cs : List CRow) (ts : List TRow) (gs : List FRow), vs = [.ref s, .ref p, .ref l] ∧ H s = some (.ins S dx []) ∧ PlanAt H C p cs ts ∧ ColsOk H cs ∧ TabsOk H (cs.map (·.2.1)) ts ∧
  LT K H l (gs.map fv) ∧ (∀ f ∈ gs, FAt H f) ∧ OwnF cs ts gs ∧ gs.length ≤ 10000 ∧ ∀ H' fs, (∀ c o, c ≠ s → H c = some o → H' c = some o) → StoreAt P w H' S s p fs → (∀ k, k ∈ keysF fs ↔ k ∈ keysF gs) → (∀ f ∈ fs, f ∈ gs) → Q .non H'
abbrev nSInit : List Str := ["self", "plan", "present", "fact"]
theorem sc_Sinit : FnScope nSInit ["self", "plan", "present"] (defScope s_Sinit) := ⟨rfl, rfl, rfl, by decide +kernel, rfl, by decide +kernel, by decide +kernel⟩
theorem ok_Sinit {f fa C S : Addr} {fd da : FuncData} {dvs : List V} (F : FunD K "__init__" "Store.__init__" (defArgs s_Sinit) (defBody s_Sinit) (defScope s_Sinit) dvs [] f fd) (T : Bi mg) (L : StF K S)
    (Da : Df K mg "are_facts" s_are_facts ["plan", "thing"] fa da) (Ga : FnOk P w K mg base CX0 4 fa da ["plan", "thing"] (spAreF K C)) :
    FnOk P w K mg base CX0 5 f fd ["self", "plan", "present"] (spSInit P w K C S) := by
  refine F.ok sc_Sinit (fun vs H Q E h => ?_) (fun cdv A outer s H vs Q E hr h => ?_)
  · obtain ⟨s, dx, p, l, cs, ts, gs, rfl, _⟩ := h; rfl
  · obtain ⟨sa, dx, p, l, cs, ts, gs, rfl, hs, pl, okc, okt, hl, fat, ow, len, q⟩ := h
    have ht := T.tuple
    have hu := hu64 hr
    refine ⟨_, pss_cons (ps_if (pt_not (pt_val (pcall Da Ga hr (pa_cons (pv 1) (pa_cons (pv 2) pa_nil))))) (pss_one ps_dead) pss_nil)
      (pss_cons (ps_fld (pv 0) (pv 1) rfl)
      (pss_cons (ps_fld (pv 0) (pe_dcN (own := [("fact", 3)]) (g := gName 3) (tt := tYes) (show (A.deeper (envOfC (Str.ofString "Store.__init__") (defScope s_Sinit) s.heap.objs.size f cdv)).units + 8 < cLine by have := hr.un; omega) rfl sc_Sinit.nd (pi_either (pi_list (pv 2)) (pi_tup (pv 2))) (blkOk_by (N := nSInit) (sc := defScope s_Sinit) (by decide +kernel))
        (fun _ _ _ _ _ => pg_name (i := 3) sc_Sinit.nd rfl (Or.inl rfl)) (fun _ _ _ _ _ => pts_nil) (fun _ _ _ _ _ => pv 3) (fun _ _ _ _ _ => pe_bl)) rfl)
      (pss_one (ps_fld (pv 0) (tupK K (pe_callB (cr_sortedD hu) (by rfl) T.sorted (by decide +kernel) (pa_cons (pe_callTy (call_listN rfl) (by rfl) T.list (by decide +kernel) (pa_cons (pe_fld (pv 0) rfl) pa_nil)) pa_nil))) rfl)))), ?_⟩
    obtain ⟨B, hB⟩ : ∃ B, rem H sa = B := ⟨_, rfl⟩
    have bs : B sa = none := by rw [← hB]; exact rem_self
    have sHB : Same B H := by rw [← hB]; exact same_rem
    have hlB : LT K B l (gs.map fv) := by
      generalize egs : gs.map fv = xs at hl
      cases hl with
      | lst h => exact .lst (by rw [← hB, rem_ne (ne_ins hs h (fun _ _ _ z => nomatch z))]; exact h)
      | tup h => exact .tup (by rw [← hB, rem_ne (ne_ins hs h (fun _ _ _ z => nomatch z))]; exact h)
      | emp h hc hd => exact .emp h hc hd
    have faB : ∀ f ∈ gs, FAt B f := fun f hf => ⟨by rw [← hB, rem_ne (ne_ins hs (fat f hf).1 (fun _ _ _ z => nomatch z))]; exact (fat f hf).1, by rw [← hB, rem_ne (ne_ins hs (fat f hf).2 (fun _ _ _ z => nomatch z))]; exact (fat f hf).2⟩
    refine ⟨_, rfl, _, rfl, p, l, cs, ts, gs, rfl, pl, okc, okt, hl, fat, ow, len, fun H1 s1 => ⟨true, rfl, iteF ?_⟩⟩
    refine ⟨_, rfl, _, rfl, sa, S, dx, _, rfl, s1 _ _ hs, L.cl, L.aP, Nat.lt_of_le_of_lt (Nat.le_refl 0) (by decide), ?_⟩
    have sB2 : Same B (upd H1 sa (.ins S dx (putF (Str.ofString "_plan") (.ref p) []))) := same_mut (sHB.trans s1) bs
    have hs2 : (upd H1 sa (.ins S dx (putF (Str.ofString "_plan") (.ref p) []))) sa = some (.ins S dx (putF (Str.ofString "_plan") (.ref p) [])) := upd_same
    generalize upd H1 sa (.ins S dx (putF (Str.ofString "_plan") (.ref p) [])) = H2 at sB2 hs2 ⊢
    dsimp only [tSeq, sFld]
    refine dcn_mid (fun D H3 => ∃ us : List FRow, H2 D = none ∧ Same H2 H3 ∧ H3 D = some (NDict P w D (us.map fEnt)) ∧ (∀ f ∈ us, f ∈ gs) ∧ (us.map (·.2.2)).Nodup ∧ (∀ k, k ∈ us.map (·.2.2) ↔ k ∈ gs.map (·.2.2)) ∧ us.length ≤ gs.length) (fun Q' kk => ?_) (fun D H3 ⟨us, nD, s3, hD3, sub, nd, mem, ul⟩ => ?_)
    · rcases (hlB.same sB2).or with h1 | h1
      · refine .inl ⟨_, rfl, l, rfl, ⟨_, h1⟩, fun D nD => ?_⟩
        exact dcn_f (gs := gs) walk_list (fun H e => e.seq h1) nD (fun f hf => (faB f hf).imm (same_imm sB2)) len (fun f H3 Q1 Q2 hf s3 k => ⟨rfl, iteT (B := Q2 H3) ⟨_, rfl, k _ (Same.refl _)⟩⟩) (fun H3 us s3 hD3 sub nd mem ul => kk _ _ ⟨us, nD, s3, hD3, sub, nd, mem, ul⟩)
      · refine .inr ⟨_, rfl, l, rfl, ⟨_, h1⟩, fun D nD => ?_⟩
        exact dcn_f (gs := gs) walk_tup (fun H e => same_t e h1) nD (fun f hf => (faB f hf).imm (same_imm sB2)) len (fun f H3 Q1 Q2 hf s3 k => ⟨rfl, iteT (B := Q2 H3) ⟨_, rfl, k _ (Same.refl _)⟩⟩) (fun H3 us s3 hD3 sub nd mem ul => kk _ _ ⟨us, nD, s3, hD3, sub, nd, mem, ul⟩)
    have nDs : sa ≠ D := ne_of_none hs2 nD
    refine ⟨_, rfl, sa, S, dx, _, rfl, s3 _ _ hs2, L.cl, L.aE, Nat.lt_of_le_of_lt (pfl (Nat.le_refl 0)) (by decide), ?_⟩
    have e4 : upd H3 sa (.ins S dx (putF (Str.ofString "_present") (.ref D) (putF (Str.ofString "_plan") (.ref p) []))) = upd H3 sa (.ins S dx (sf2 p D)) := rfl
    rw [e4]
    have sB4 : Same B (upd H3 sa (.ins S dx (sf2 p D))) := same_mut (sB2.trans s3) bs
    have hs4 : (upd H3 sa (.ins S dx (sf2 p D))) sa = some (.ins S dx (sf2 p D)) := upd_same
    have hD4 : (upd H3 sa (.ins S dx (sf2 p D))) D = some (NDict P w D (us.map fEnt)) := by rw [upd_ne nDs.symm]; exact hD3
    generalize upd H3 sa (.ins S dx (sf2 p D)) = H4 at sB4 hs4 hD4 ⊢
    have fa4 : ∀ f ∈ us, FAt H4 f := fun f hf => (faB f (sub f hf)).imm (same_imm sB4)
    refine ⟨_, rfl, sa, S, dx, _, .ref D, rfl, hs4, L.cl, L.aE, sf2_E, D, us.map fEnt, rfl, hD4, fun e he => ?_, fun p1 np1 => ?_⟩
    · obtain ⟨g', hg, rfl⟩ := List.mem_map.mp he
      exact key_f (fa4 g' hg)
    have el : (us.map fEnt).map (fun e => V.ref e.2.1) = us.map fv := by rw [List.map_map]; rfl
    rw [el]
    have sB5 := sB4.trans (same_new (o := .lst (us.map fv)) np1)
    have s45 : Same H4 (upd H4 p1 (.lst (us.map fv))) := same_new np1
    have hp5 : (upd H4 p1 (.lst (us.map fv))) p1 = some (.lst (us.map fv)) := upd_same
    generalize upd H4 p1 (.lst (us.map fv)) = H5 at sB5 s45 hp5 ⊢
    refine ⟨FRow, p1, us, fv, (fun r => fkD r.2.2), rfl, lof hp5, (fun f hf => ⟨dp_fk ((fa4 f hf).imm (same_imm s45)), ?_⟩), fk_all _ _, fk_sortable _ _, fun S3 nS3 => ?_⟩
    · rcases fk_depth f.2.2 with h | h
      · show (fkD f.2.2).depth ≤ 60; omega
      · show (fkD f.2.2).depth ≤ 60; omega
    refine kTup_seq (.inl upd_same) fun q1 H6 s6 hq6 => ?_
    have s46 := s45.trans ((same_new nS3).trans s6)
    have nq : sa ≠ q1 := fun z => by subst z; rw [s46 _ _ hs4] at hq6; cases hq6
    refine ⟨_, rfl, sa, S, dx, _, rfl, s46 _ _ hs4, L.cl, L.aF, Nat.lt_of_le_of_lt (pfl (pfl (Nat.le_refl 0))) (by decide), ?_⟩
    have pm : (us.mergeSort (dataLe false fun r : FRow => fkD r.2.2)).Perm us := List.mergeSort_perm _ _
    refine q _ (us.mergeSort (dataLe false fun r : FRow => fkD r.2.2)) (fun c o hc e => ?_) ⟨dx, D, q1, us, upd_same, ?_, fun f hf => ?_, by omega, ?_, pm.symm, ?_, ?_⟩ (fun k => ?_) (fun f hf => sub f (pm.mem_iff.mp hf))
    · rw [upd_ne hc]
      exact (sB4.trans s46) _ _ (by rw [← hB, rem_ne hc]; exact e)
    · rw [upd_ne nDs.symm]; exact s46 _ _ hD4
    · exact (faB f (sub f hf)).imm (same_imm (same_mut (sB4.trans s46) bs))
    · rw [upd_ne nq.symm]; exact hq6
    · exact (pm.map _).nodup_iff.mpr nd
    · show List.Pairwise _ (List.map _ _)
      rw [sortF_map']; exact sortF_sorted _
    · show k ∈ List.map _ _ ↔ _
      rw [(pm.map _).mem_iff]; exact mem k
end
end As

/-! ## F3 -/
namespace As
open PySem PySem.Spec PyProof.Rows L2
open PySem.W (dataLe AllAlike Sortable dataLt alike)
section
variable {P : Program} {w : World} {K : PySem.W.Frag} {mg : Str → Option Value} {base : Heap}
/-- check_fact of a fact -/
def spCheckV (C : Addr) : Sp := fun vs H Q _ => ∃ (p : Addr) (f : FRow) (cs : List CRow) (ts : List TRow), vs = [.ref p, fv f] ∧ PlanAt H C p cs ts ∧ ColsOk H cs ∧ TabsOk H (cs.map (·.2.1)) ts ∧ FAt H f ∧ (∃ r ∈ ts, OfT cs r f.2.2) ∧ ∀ H', Same H H' → Q .non H'
theorem ok_checkV {f fi C : Addr} {fd di : FuncData} (D : Df K mg "check_fact" s_check_fact ["plan", "thing"] f fd) (Di : Df K mg "is_fact" s_is_fact ["plan", "thing"] fi di) (Gi : FnOk P w K mg base CX0 3 fi di ["plan", "thing"] (spIsFact C)) :
    FnOk P w K mg base CX0 4 f fd ["plan", "thing"] (spCheckV C) := by
  refine D.F.ok sc_check (fun vs H Q E h => ?_) (fun cdv A outer s H vs Q E hr h => ?_)
  · obtain ⟨p, x, cs, ts, rfl, _⟩ := h; rfl
  · obtain ⟨p, x, cs, ts, rfl, pl, okc, okt, fx, ⟨r, hr', hk⟩, q⟩ := h
    refine ⟨_, pss_one (ps_if (pt_not (pt_val (pcall Di Gi hr (pa_cons (pv 0) (pa_cons (pv 1) pa_nil))))) (pss_one ps_dead) pss_nil), ?_⟩
    refine ⟨_, rfl, _, rfl, p, _, cs, ts, rfl, pl, okc, okt, deep_f fx, fun H' s' => ?_⟩
    rw [isFact_of okt.nd hr' fx hk]
    exact ⟨true, rfl, iteF (q _ s')⟩
def spSeersV (C : Addr) : Sp := fun vs H Q _ => ∃ (p : Addr) (f : FRow) (cs : List CRow) (ts : List TRow), vs = [.ref p, fv f] ∧ PlanAt H C p cs ts ∧ ColsOk H cs ∧ TabsOk H (cs.map (·.2.1)) ts ∧ FAt H f ∧ (∃ r ∈ ts, OfT cs r f.2.2) ∧
  ∀ t (ls : List LRow) H', Same H H' → H' t = some (.tup (ls.map lv)) → (∀ l ∈ ls, LAt H' l) → ls.map (·.2) = sidesOf f.2.2 → Q (.ref t) H'
theorem oft_len {cs : List CRow} {r : TRow} {k : FK} (h : OfT cs r k) : k.2.length = r.2.2.2.length ∧ k.2.length ≤ 2 ∧ 1 ≤ k.2.length := by
  obtain ⟨_, ⟨c1, v, hp, hv, _⟩ | ⟨c1, d, v, o, hp, hv, _⟩⟩ := h <;> rw [hp, hv] <;> simp
/-- the plan of a store -/
theorem sc_Splan : FnScope ["self"] ["self"] (defScope s_Splan) := ⟨rfl, rfl, rfl, by decide +kernel, rfl, by decide +kernel, by decide +kernel⟩
theorem ok_Splan {f S : Addr} {fd : FuncData} (F : Fun K "plan" "Store.plan" s_Splan f fd) (L : StF K S) : FnOk P w K mg base CX0 1 f fd ["self"] (getSp S (Str.ofString "_plan")) := by
  refine F.ok sc_Splan (fun vs H Q E h => ?_) (fun cdv A outer s H vs Q E hr h => ?_)
  · obtain ⟨a, dx, fs, v, rfl, _⟩ := h; rfl
  · obtain ⟨a, dx, fs, v, rfl, ea, l, q⟩ := h
    exact ⟨_, pss_one (ps_ret (pe_fld (pv 0) rfl)), _, rfl, a, S, dx, fs, v, rfl, ea, L.cl, L.aP, l, q⟩
/-- has -/
def spHas (P : Program) (w : World) (C S : Addr) : Sp := fun vs H Q _ => ∃ (s p : Addr) (f : FRow) (fs : List FRow) (cs : List CRow) (ts : List TRow), vs = [.ref s, fv f] ∧ StoreAt P w H S s p fs ∧ PlanAt H C p cs ts ∧ ColsOk H cs ∧ TabsOk H (cs.map (·.2.1)) ts ∧ FAt H f ∧ (∃ r ∈ ts, OfT cs r f.2.2) ∧ ∀ H', Same H H' → Q (.bl (decide (f.2.2 ∈ keysF fs))) H'
theorem sc_has : FnScope ["self", "fact"] ["self", "fact"] (defScope s_has) := ⟨rfl, rfl, rfl, by decide +kernel, rfl, by decide +kernel, by decide +kernel⟩
theorem ok_has {f fc C S : Addr} {fd dc : FuncData} (F : Fun K "has" "Store.has" s_has f fd) (L : StF K S) (Dc : Df K mg "check_fact" s_check_fact ["plan", "thing"] fc dc) (Gc : FnOk P w K mg base CX0 4 fc dc ["plan", "thing"] (spCheckV C)) :
    FnOk P w K mg base CX0 5 f fd ["self", "fact"] (spHas P w C S) := by
  refine F.ok sc_has (fun vs H Q E h => ?_) (fun cdv A outer s H vs Q E hr h => ?_)
  · obtain ⟨s, p, x, fs, cs, ts, rfl, _⟩ := h; rfl
  · obtain ⟨sa, p, x, fs, cs, ts, rfl, ⟨dx, pr, fa, us, h1, h2, h3, h3', h4, h5, h6⟩, pl, okc, okt, fx, ow, q⟩ := h
    refine ⟨_, pss_cons (ps_expr (pcall Dc Gc hr (pa_cons (pe_fld (pv 0) rfl) (pa_cons (pv 1) pa_nil))))
      (pss_one (ps_ret (pe_cmp (pc_inN (show ((A.deeper (envOfC (Str.ofString "Store.has") (defScope s_has) s.heap.objs.size f cdv))).in1.units + 8 < cLine by have := hr.un; show _ + 1 + 8 < _; omega) (pv 1) (pe_fld (pv 0) rfl)) rfl))), ?_⟩
    refine ⟨_, rfl, sa, S, dx, _, _, rfl, h1, L.cl, L.aP, sf_P, _, rfl, p, x, cs, ts, rfl, pl, okc, okt, fx, ow, fun H1 s1 => ?_⟩
    refine ⟨_, rfl, _, rfl, sa, S, dx, _, _, rfl, s1 _ _ h1, L.cl, L.aE, sf_E, x.1, pr, fkN x.2.2, us.map fEnt, rfl, rfl, key_f (fx.imm (same_imm s1)), s1 _ _ h2, fun e he => ?_, ?_⟩
    · obtain ⟨g', hg, rfl⟩ := List.mem_map.mp he
      exact key_f ((h3 g' hg).imm (same_imm s1))
    · rw [if_pos rfl, ndVal_f]
      have e : decide (x.2.2 ∈ us.map (·.2.2)) = decide (x.2.2 ∈ keysF fs) := decide_eq_decide.mpr (h5.map _).mem_iff
      rw [e]
      exact q _ s1
/-- rows of a table -/
def spRows (P : Program) (w : World) (C S : Addr) : Sp := fun vs H Q _ => ∃ (s p : Addr) (n : Str) (fs : List FRow) (cs : List CRow) (ts : List TRow) (r : TRow), vs = [.ref s, .str n] ∧ StoreAt P w H S s p fs ∧ fs.length ≤ 10000 ∧ PlanAt H C p cs ts ∧ tabOf ts n = some r ∧
  ∀ q H', Same H H' → H' q = some (.tup ((fs.filter fun f => decide (f.2.2.1 = n)).map fun f => V.ref f.2.1)) → Q (.ref q) H'
abbrev nRows : List Str := ["self", "table", "name", "row"]
theorem sc_rows : FnScope nRows ["self", "table"] (defScope s_rows) := ⟨rfl, rfl, rfl, by decide +kernel, rfl, by decide +kernel, by decide +kernel⟩
theorem ok_rows {f fs' C S : Addr} {fd ds : FuncData} (F : Fun K "rows" "Store.rows" s_rows f fd) (T : Bi mg) (L : StF K S) (LC : PlF K C) (ms : Meth K C "sides" fs') (Gs : FnOk P w K mg base CX0 2 fs' ds ["self", "table"] (spSides K C)) (bs : Binds K ds ["self", "table"] []) :
    FnOk P w K mg base CX0 3 f fd ["self", "table"] (spRows P w C S) := by
  refine F.ok sc_rows (fun vs H Q E h => ?_) (fun cdv A outer s H vs Q E hr h => ?_)
  · obtain ⟨s, p, x, fs, cs, ts, r, rfl, _⟩ := h; rfl
  · obtain ⟨sa, p, n, fs, cs, ts, r, rfl, st, len, pl, et, q⟩ := h
    have fat := st.fat
    obtain ⟨dx, pr, fa, us, h1, h2, h3, h3', h4, h5, h6⟩ := st
    obtain ⟨dp, ct, tt, sz, sp, sh, ks, g1, _⟩ := id pl
    have ht := T.tuple
    refine ⟨_, pss_cons (ps_if (pt_cmp (pc_isN (pe_meth (pe_fld (pv 0) rfl) LC.cl ms Gs hr bs .nil pass0 (pa_cons (pv 1) pa_nil)))) (pss_one ps_dead) pss_nil)
      (pss_one (ps_ret (tupK K (pe_lc (own := [("name", 2), ("row", 3)]) (g := gTup K 2 (gCons (gName 2) (gCons (gName 3) gNil))) rfl sc_rows.nd (piT K (pe_fld (pv 0) rfl)) (blkOk_by (N := nRows) (sc := defScope s_rows) (by decide +kernel))
        (fun _ _ _ _ _ => pgT K (pg_tup rfl (pgs_cons (pg_name (i := 2) sc_rows.nd rfl (Or.inl rfl)) (pgs_cons (pg_name (i := 3) sc_rows.nd rfl (Or.inl rfl)) pgs_nil)))) (fun _ _ _ _ _ => pts_one (pt_cmpR op_eq (pv 2) (pv 1) (nomark _))) (fun _ _ _ _ _ => pv 3))))), ?_⟩
    have no : (pf ct tt sz sp sh).lookup (Str.ofString "sides") = none := pf_no (by decide +kernel) (by decide +kernel) (by decide +kernel) (by decide +kernel) (by decide +kernel)
    refine ⟨_, rfl, sa, S, dx, _, _, rfl, h1, L.cl, L.aP, sf_P, p, dp, _, rfl, g1, no, _, rfl, p, _, cs, ts, rfl, pl, .inl ⟨n, rfl, ?_⟩⟩
    have ev : sidesV ts n = .int (r.2.2.2.length : Nat) := by unfold sidesV; rw [et]
    rw [ev]
    refine ⟨false, rfl, iteF ?_⟩
    refine ⟨_, rfl, sa, S, dx, _, _, rfl, h1, L.cl, L.aF, sf_F, fa, rfl, ⟨_, tof h4⟩, fun D nD => ?_⟩
    refine lc_fm (v := fv) (u := fun f => V.ref f.2.1) (xs := fs) (fun f => decide (f.2.2.1 = n)) (walk_tup (K := K) (a := fa) (xs := fs.map fv)) nD (fun H' s' => tof (s' _ _ h4)) len (fun x H2 Q1 Q2 hx s2 k1 k2 => ?_) (fun H2 s2 hD2 => ?_)
    · refine ⟨x.1, _, rfl, tof (s2 _ _ (fat x hx).1), rfl, _, _, rfl, _, _, rfl, rfl, rfl, ?_⟩
      refine ⟨_, rfl, _, rfl, rfl, _, rfl, ?_⟩
      by_cases hp : x.2.2.1 = n
      · rw [show decide (V.str x.2.2.1 = V.str n) = true from decide_eq_true (by rw [hp])]
        exact iteT ⟨_, rfl, k1 (decide_eq_true hp) _ (Same.refl _)⟩
      · rw [show decide (V.str x.2.2.1 = V.str n) = false from decide_eq_false fun z => hp (by injection z)]
        exact iteF (k2 (decide_eq_false hp) _ (Same.refl _))
    · exact kTup_seq (.inl hD2) fun q1 H3 s3 h3 => q q1 H3 (s2.trans s3) h3
end
end As

/-! ## F4 -/
namespace As
open PySem PySem.Spec PyProof.Rows L2
open PySem.W (dataLe AllAlike Sortable dataLt alike)
theorem any_fk {ks : List FK} {k : FK} : ((ks.map fkD).any fun z => PyData.eqv z (fkD k)) = decide (k ∈ ks) := by
  rw [List.any_map]
  induction ks with
  | nil => simp
  | cons a l ih =>
    rw [List.any_cons, ih]
    show (PyData.eqv (fkD a) (fkD k) || _) = _
    rw [eqv_fk]
    by_cases h : a = k
    · subst h; simp
    · have h2 : ¬ k = a := fun z => h z.symm
      simp [h, h2]
theorem OwnF.nm {H : Hp} {cs : List CRow} {ts : List TRow} {fs : List FRow} (ow : OwnF cs ts fs) (okt : TabsOk H (cs.map (·.2.1)) ts) : ∀ f ∈ fs, PyData.strOk f.2.2.1 = true := fun f hf => by
  obtain ⟨r, hr, hk⟩ := ow f hf
  rw [hk.1]; exact name_ok (okt.nm r hr)
theorem keys_ok {fs : List FRow} (h : ∀ f ∈ fs, PyData.strOk f.2.2.1 = true) : ∀ k ∈ fs.map (·.2.2), PyData.strOk k.1 = true := fun k hk => by
  obtain ⟨f, hf, rfl⟩ := List.mem_map.mp hk; exact h f hf
def seenR (fs : List FRow) (l : LK) : List V := (fs.filter fun f => seesB l f.2.2).map fun f => V.ref f.2.1
section
variable {P : Program} {w : World} {K : PySem.W.Frag} {mg : Str → Option Value} {base : Heap}
/-- seen -/
def spSeen (P : Program) (w : World) (C S : Addr) : Sp := fun vs H Q _ => ∃ (s p : Addr) (l : LRow) (fs : List FRow) (cs : List CRow) (ts : List TRow), vs = [.ref s, lv l] ∧ StoreAt P w H S s p fs ∧ fs.length ≤ 10000 ∧ PlanAt H C p cs ts ∧ ColsOk H cs ∧ TabsOk H (cs.map (·.2.1)) ts ∧ OwnF cs ts fs ∧ LAt H l ∧ (∃ r ∈ ts, LofT cs r l.2) ∧
  ∀ q H', Same H H' → H' q = some (.tup (seenR fs l.2)) → Q (.ref q) H'
abbrev nSeen : List Str := ["self", "look", "table", "side", "value", "row"]
theorem sc_seen : FnScope nSeen ["self", "look"] (defScope s_seen) := ⟨rfl, rfl, rfl, by decide +kernel, rfl, by decide +kernel, by decide +kernel⟩
theorem ok_seen {f fi fr C S : Addr} {fd di dr : FuncData} (F : Fun K "seen" "Store.seen" s_seen f fd) (T : Bi mg) (L : StF K S) (Di : Df K mg "is_look" s_is_look ["plan", "thing"] fi di) (Gi : FnOk P w K mg base CX0 3 fi di ["plan", "thing"] (spIsLook C))
    (mr : Meth K S "rows" fr) (Gr : FnOk P w K mg base CX0 3 fr dr ["self", "table"] (spRows P w C S)) (br : Binds K dr ["self", "table"] []) : FnOk P w K mg base CX0 4 f fd ["self", "look"] (spSeen P w C S) := by
  refine F.ok sc_seen (fun vs H Q E h => ?_) (fun cdv A outer s H vs Q E hr h => ?_)
  · obtain ⟨s, p, l, fs, cs, ts, rfl, _⟩ := h; rfl
  · obtain ⟨sa, p, l, fs, cs, ts, rfl, st, len, pl, okc, okt, ow, hl, ⟨r, hr', hk⟩, q⟩ := h
    have fat := st.fat
    obtain ⟨dx, pr, fa, us, h1, h2, h3, h3', h4, h5, h6⟩ := id st
    have ht := T.tuple
    refine ⟨_, pss_cons (ps_if (pt_not (pt_val (pcall Di Gi hr (pa_cons (pe_fld (pv 0) rfl) (pa_cons (pv 1) pa_nil))))) (pss_one ps_dead) pss_nil)
      (pss_cons (ps_asg (pv 1) (pg_tup rfl (pgs_cons (pg_name (i := 2) sc_seen.nd rfl (Or.inl rfl)) (pgs_cons (pg_name (i := 3) sc_seen.nd rfl (Or.inr rfl)) (pgs_cons (pg_name (i := 4) sc_seen.nd rfl (Or.inr rfl)) pgs_nil)))))
      (pss_one (ps_ret (tupK K (pe_lc (own := [("row", 5)]) (g := gName 5) rfl sc_seen.nd (piT K (pe_meth (pv 0) L.cl mr Gr hr br .nil pass0 (pa_cons (pv 2) pa_nil))) (blkOk_by (N := nSeen) (sc := defScope s_seen) (by decide +kernel))
        (fun _ _ _ _ _ => pg_name (i := 5) sc_seen.nd rfl (Or.inl rfl)) (fun _ _ _ _ _ => pts_one (pt_cmpR op_eq (pe_ix (ixT K) (pv 5) (pv 3) (fun _ _ => rfl)) (pv 4) (nomark _))) (fun _ _ _ _ _ => pv 5)))))), ?_⟩
    refine ⟨_, rfl, sa, S, dx, _, _, rfl, h1, L.cl, L.aP, sf_P, _, rfl, p, l, cs, ts, rfl, pl, okc, okt, hl, ⟨r, hr', hk⟩, fun H1 s1 => ⟨true, rfl, iteF ?_⟩⟩
    refine ⟨_, rfl, l.1, _, rfl, tof (s1 _ _ hl), rfl, _, _, rfl, _, _, rfl, _, _, rfl, rfl, ?_⟩
    have no : (sf p pr fa).lookup (Str.ofString "rows") = none := sf_no (by decide +kernel) (by decide +kernel) (by decide +kernel)
    refine ⟨_, rfl, sa, dx, _, rfl, s1 _ _ h1, no, _, rfl, sa, p, l.2.1, fs, cs, ts, r, rfl, st.same s1, len, pl.same s1, by rw [hk.1]; exact tabOf_of okt.nd hr', fun q1 H2 s2 hq1 => ?_⟩
    refine ⟨q1, rfl, ⟨_, tof hq1⟩, fun D nD => ?_⟩
    have s12 := s1.trans s2
    refine lc_fm (v := fun f : FRow => V.ref f.2.1) (u := fun f => V.ref f.2.1) (xs := fs.filter fun f => decide (f.2.2.1 = l.2.1)) (fun f => decide (atI f.2.2.2 l.2.2.1 = some l.2.2.2)) (walk_tup (K := K) (a := q1)) nD (fun H' s' => tof (s' _ _ hq1))
      (Nat.le_trans (List.length_filter_le _ _) len) (fun x H3 Q1 Q2 hx s3 k1 k2 => ?_) (fun H3 s3 hD3 => ?_)
    · obtain ⟨hx1, hx2⟩ := List.mem_filter.mp hx
      obtain ⟨rx, hrx, kx⟩ := ow x hx1
      obtain ⟨v, hv⟩ := own_at okt.nd hrx hr' hk kx (of_decide_eq_true hx2).symm
      have fx := (fat x hx1).imm (same_imm (s12.trans s3))
      refine ⟨rfl, _, rfl, _, rfl, x.2.1, _, l.2.2.1, .int v, rfl, rfl, tof fx.2, atI_map hv, _, rfl, rfl, _, rfl, ?_⟩
      rw [hv] at k1 k2
      by_cases e : v = l.2.2.2
      · rw [show decide (V.int v = V.int l.2.2.2) = true from decide_eq_true (by rw [e])]
        exact iteT ⟨_, rfl, k1 (decide_eq_true (by rw [e])) _ (Same.refl _)⟩
      · rw [show decide (V.int v = V.int l.2.2.2) = false from decide_eq_false fun z => e (by injection z)]
        exact iteF (k2 (decide_eq_false fun z => e (by injection z)) _ (Same.refl _))
    · rw [List.filter_filter] at hD3
      have e : (fs.filter fun f => decide (atI f.2.2.2 l.2.2.1 = some l.2.2.2) && decide (f.2.2.1 = l.2.1)) = fs.filter fun f => seesB l.2 f.2.2 := by
        apply List.filter_congr
        intro f _
        unfold seesB
        rw [Bool.and_comm]
        congr 1
        exact decide_eq_decide.mpr ⟨Eq.symm, Eq.symm⟩
      rw [e] at hD3
      exact kTup_seq (.inl hD3) fun q2 H4 s4 h4 => q q2 H4 (s12.trans (s3.trans s4)) h4
theorem make_store {H : Hp} {C S x dx p l : Addr} {cs : List CRow} {ts : List TRow} {gs : List FRow} {R : VK} {E : XK} (nx : H x = none) (nd : H dx = none) (ne : dx ≠ x) (pl : PlanAt H C p cs ts) (okc : ColsOk H cs) (okt : TabsOk H (cs.map (·.2.1)) ts)
    (hl : LT K H l (gs.map fv)) (fa : ∀ f ∈ gs, FAt H f) (ow : OwnF cs ts gs) (len : gs.length ≤ 10000)
    (q : ∀ H' fs, Same H H' → StoreAt P w H' S x p fs → (∀ k, k ∈ keysF fs ↔ k ∈ keysF gs) → (∀ f ∈ fs, f ∈ gs) → R .non H') : spSInit P w K C S (V.ref x :: ([V.ref p, V.ref l] ++ [])) (upd (upd H dx (.own x)) x (.ins S dx [])) R E := by
  have s1 : Same H (upd (upd H dx (.own x)) x (.ins S dx [])) := fun c o e => by rw [upd_ne (ne_of_none e nx), upd_ne (ne_of_none e nd)]; exact e
  exact ⟨x, dx, p, l, cs, ts, gs, rfl, upd_same, pl.same s1, okc.same s1, okt.same s1, hl.same s1, fun f hf => (fa f hf).imm (same_imm s1), ow, len, fun H' fs but st k sub => q H' fs (fun c o e => but c o (ne_of_none e nx) (s1 _ _ e)) st k sub⟩
end
end As

/-! ## F5 -/
namespace As
open PySem PySem.Spec PyProof.Rows L2
open PySem.W (dataLe AllAlike Sortable dataLt alike)
/-- the store's class, as a program names it -/
structure StC (K : PySem.W.Frag) (mg : Str → Option Value) (S fi : Addr) (di : FuncData) : Prop where
  m : mg "Store" = some (.ref S)
  mkr : Mk K S fi
  b : Binds K di ["self", "plan", "present"] []
section
variable {P : Program} {w : World} {K : PySem.W.Frag} {mg : Str → Option Value} {base : Heap}
/-- with_facts, without_facts: facts come as a tuple -/
def spWith (P : Program) (w : World) (C S : Addr) (g : List FK → List FK → FK → Prop) : Sp := fun vs H Q _ => ∃ (s p t : Addr) (gs fs : List FRow) (cs : List CRow) (ts : List TRow), vs = [.ref s, .ref t] ∧ StoreAt P w H S s p fs ∧ fs.length ≤ 5000 ∧ PlanAt H C p cs ts ∧ ColsOk H cs ∧ TabsOk H (cs.map (·.2.1)) ts ∧ OwnF cs ts fs ∧
  H t = some (.tup (gs.map fv)) ∧ (∀ f ∈ gs, FAt H f) ∧ OwnF cs ts gs ∧ gs.length ≤ 5000 ∧
  ∀ s' fs' H', Same H H' → H s' = none → StoreAt P w H' S s' p fs' → (∀ k, k ∈ keysF fs' ↔ g (keysF fs) (keysF gs) k) → (∀ f ∈ fs', f ∈ fs ∨ f ∈ gs) → Q (.ref s') H'
def spStar (sp : Sp) : Sp := fun vs H Q E => ∃ ws rest, vs = ws ++ rest ∧ ws.length = ["self"].length ∧ rest.length ≤ sizeLine ∧ ∀ p : Addr, H p = none → sp (ws ++ [V.ref p]) (upd H p (.tup rest)) Q E
end
end As

/-! ## G24 -/
namespace As
open PySem PySem.Spec PyProof.Rows L2 TL
/-! answers -/
theorem notInNK {X : Cx} (P : Program) (w : World) {i o : Expr} {ty td : TE} (room : X.A.units + 64 < cLine) (hi : PE X i ty) (ho : PE X o td) (hP : X.prog = P := by rfl) (hw : X.w = w := by rfl) : PC X .NotIn i o (tInN P w false ty td) :=
  hP ▸ hw ▸ pc_notInN (show X.A.units + 1 + 8 < cLine by omega) hi ho
theorem truK {X : Cx} (K : PySem.W.Frag) {a : Expr} {ta : TE} (ha : PE X a ta) (he : ∀ whole, isTrue a X.env whole = (do let v ← whole; standAt a.pos; holding [v] (truthy v)) := by intro; rfl) (h : X.K = K := by rfl) :
    PT X a (fun σ H Q => ta σ H fun x H' => ∃ k, TruV K x H' k ∧ Q k H') := h ▸ pt_truth ha he
section
variable {P : Program} {w : World} {K : PySem.W.Frag} {mg : Str → Option Value} {base : Heap}
theorem sc_Sfacts : FnScope ["self"] ["self"] (defScope s_Sfacts) := ⟨rfl, rfl, rfl, by decide +kernel, rfl, by decide +kernel, by decide +kernel⟩
theorem ok_Sfacts {f S : Addr} {fd : FuncData} (F : Fun K "facts" "Store.facts" s_Sfacts f fd) (L : StF K S) : FnOk P w K mg base CX0 1 f fd ["self"] (getSp S (Str.ofString "_facts")) := by
  refine F.ok sc_Sfacts (fun vs H Q E h => ?_) (fun cdv A outer s H vs Q E hr h => ?_)
  · obtain ⟨a, dx, fs, v, rfl, _⟩ := h; rfl
  · obtain ⟨a, dx, fs, v, rfl, ea, l, q⟩ := h
    exact ⟨_, pss_one (ps_ret (pe_fld (pv 0) rfl)), _, rfl, a, S, dx, fs, v, rfl, ea, L.cl, L.aF, l, q⟩
def spPresF (P : Program) (w : World) (S : Addr) : Sp := fun vs H Q _ => ∃ (s p : Addr) (fs : List FRow), vs = [.ref s] ∧ StoreAt P w H S s p fs ∧ fs.length ≤ 10000 ∧
  ∀ d (us : List FRow) H', Same H H' → H' d = some (NDict P w d (us.map fEnt)) → (∀ f ∈ us, FAt H' f) → (∀ k, k ∈ us.map (·.2.2) ↔ k ∈ keysF fs) → us.length ≤ 10000 → Q (.ref d) H'
abbrev nPresf : List Str := ["store", "fact"]
theorem sc_presf : FnScope nPresf ["store"] (defScope s_present_facts) := ⟨rfl, rfl, rfl, by decide +kernel, rfl, by decide +kernel, by decide +kernel⟩
theorem ok_presf {f S pf gf : Addr} {fd df : FuncData} (D : Df K mg "present_facts" s_present_facts ["store"] f fd) (L : StF K S)
    (hp : PropOf K S "facts" pf gf) (Gf : FnOk P w K mg base CX0 1 gf df ["self"] (getSp S (Str.ofString "_facts"))) (bf : Binds K df ["self"] []) : FnOk P w K mg base CX0 3 f fd ["store"] (spPresF P w S) := by
  refine D.F.ok sc_presf (fun vs H Q E h => ?_) (fun cdv A outer s H vs Q E hr h => ?_)
  · obtain ⟨s, p, fs, rfl, _⟩ := h; rfl
  · obtain ⟨sa, p, fs, rfl, st, len, q⟩ := h
    have hu := hu64 hr
    refine ⟨_, pss_one (ps_ret (pe_dcN (own := [("fact", 1)]) (g := gName 1) (tt := tYes) (show (A.deeper (envOfC (Str.ofString "present_facts") (defScope s_present_facts) s.heap.objs.size f cdv)).units + 8 < cLine by have := hr.un; omega) rfl sc_presf.nd (pi_tup (pe_prop (pv 0) L.cl hp Gf hr bf .nil pass0 rfl)) (blkOk_by (N := nPresf) (sc := defScope s_present_facts) (by decide +kernel))
        (fun _ _ _ _ _ => pg_name (i := 1) sc_presf.nd rfl (Or.inl rfl)) (fun _ _ _ _ _ => pts_nil) (fun _ _ _ _ _ => pv 1) (fun _ _ _ _ _ => pe_bl))), ?_⟩
    have fat := st.fat
    obtain ⟨dx, pr, fa, us, h1, h2, h3, h4, h5, h6⟩ := id st
    refine ⟨_, rfl, sa, dx, _, rfl, h1, sa, dx, _, .ref fa, rfl, h1, sf_F, fa, rfl, ⟨_, tof h5⟩, fun D nD => ?_⟩
    refine dcn_f (gs := fs) walk_tup (fun H e => tof (e _ _ h5)) nD fat len (fun f H3 Q1 Q2 hf s3 k => ⟨rfl, iteT (B := Q2 H3) ⟨_, rfl, k _ (Same.refl _)⟩⟩) (fun H3 us s3 hD3 sub nd mem ul => ?_)
    exact q D us H3 s3 hD3 (fun f hf => (fat f (sub f hf)).imm (same_imm s3)) mem (by omega)
def spAbsent (P : Program) (w : World) (K : PySem.W.Frag) : Sp := fun vs H Q _ => ∃ (fa d : Addr) (fs us : List FRow), vs = [.ref fa, .ref d] ∧ SqT K H fa (fs.map fv) ∧ (∀ f ∈ fs, FAt H f) ∧ fs.length ≤ 10000 ∧ H d = some (NDict P w d (us.map fEnt)) ∧ (∀ f ∈ us, FAt H f) ∧
  ∀ t H', Same H H' → H' t = some (.lst ((fs.filter fun f => !decide (f.2.2 ∈ us.map (·.2.2))).map fv)) → Q (.ref t) H'
abbrev nAbsent : List Str := ["found", "present", "fact"]
theorem sc_absent : FnScope nAbsent ["found", "present"] (defScope s_absent_of) := ⟨rfl, rfl, rfl, by decide +kernel, rfl, by decide +kernel, by decide +kernel⟩
theorem ok_absent {f : Addr} {fd : FuncData} (D : Df K mg "absent_of" s_absent_of ["found", "present"] f fd) : FnOk P w K mg base CX0 1 f fd ["found", "present"] (spAbsent P w K) := by
  refine D.F.ok sc_absent (fun vs H Q E h => ?_) (fun cdv A outer s H vs Q E hr h => ?_)
  · obtain ⟨fa, d, fs, us, rfl, _⟩ := h; rfl
  · obtain ⟨fa, d, fs, us, rfl, h1, h2, h3, h4, h5, q⟩ := h
    have hu := hu64 hr
    refine ⟨_, pss_one (ps_ret (pe_lc (own := [("fact", 2)]) (g := gName 2) (tt := tB (tInN P w false (tVar 2) (tVar 1))) rfl sc_absent.nd (pi_tup (pv 0)) (blkOk_by (N := nAbsent) (sc := defScope s_absent_of) (by decide +kernel)) (fun _ _ _ _ _ => pg_name (i := 2) sc_absent.nd rfl (Or.inl rfl)) (fun _ _ _ _ _ => pts_one (pt_cmp (notInNK P w hu (pv 2) (pv 1)))) (fun _ _ _ _ _ => pv 2))), ?_⟩
    refine ⟨_, rfl, fa, rfl, ⟨_, h1⟩, fun D nD => ?_⟩
    refine lc_fm (v := fv) (u := fv) (xs := fs) (fun f => !decide (f.2.2 ∈ us.map (·.2.2))) walk_tup nD (fun H e => same_t e h1) h3 (fun f H2 Q1 Q2 hf s2 k1 k2 => ?_) (fun H2 s2 hD2 => q D H2 s2 hD2)
    refine ⟨rfl, ?_⟩
    refine ⟨_, rfl, _, rfl, f.1, d, fkN f.2.2, us.map fEnt, rfl, rfl, key_f ((h2 f hf).imm (same_imm s2)), s2 _ _ h4, fun e he => ?_, _, rfl, ?_⟩
    · obtain ⟨g', hg, rfl⟩ := List.mem_map.mp he
      exact key_f ((h5 g' hg).imm (same_imm s2))
    rw [if_neg Bool.false_ne_true, ndVal_f]
    cases e : !decide (f.2.2 ∈ us.map (·.2.2)) with
    | true => exact iteT ⟨_, rfl, k1 e _ (Same.refl _)⟩
    | false => exact iteF (k2 e _ (Same.refl _))
def spRowsP (P : Program) (w : World) : Sp := fun vs H Q _ => ∃ (l d : Addr) (xs : List XRow) (us : List FRow), vs = [.ref l, .ref d] ∧ H l = some (.lst (xs.map xv)) ∧ (∀ x ∈ xs, XAt H x ∧ x.2.2.2.2.length ≤ 10000) ∧ xs.length ≤ 10000 ∧ H d = some (NDict P w d (us.map fEnt)) ∧ (∀ f ∈ us, FAt H f) ∧
  ∀ t (ws : List WRow) H', Same H H' → H t = none → H' t = some (.lst (ws.map wv)) → (∀ r ∈ ws, WAt H' r) → ws.map (·.2) = (xs.filter fun x => (x.2.2.2.2.map (·.2.2)).all fun k => decide (k ∈ us.map (·.2.2))).map (·.2.2.2.1) → Q (.ref t) H'
abbrev nRowsp : List Str := ["pairs", "present", "row", "found"]
end
end As

/-! ## D2 -/
namespace As
open PySem PySem.Spec PyProof.Rows L2
open PySem.W (dataLe AllAlike Sortable dataLt alike)
/-! facts by rows -/
theorem factsT_rows {H : Hp} {cs : List CRow} {ts : List TRow} (okt : TabsOk H (cs.map (·.2.1)) ts) {r : TRow} (hr : r ∈ ts) : factsT cs r = (rowsI (spanI cs r)).map fun row => (r.2.1, row) := by
  obtain ⟨ra, n, qa, ps⟩ := r
  have two := okt.two _ hr
  dsimp only at two
  rcases ps with _ | ⟨c, _ | ⟨d, _ | ⟨e, ps⟩⟩⟩
  · simp at two
  · have e1 : rowsI (spanI cs (ra, n, qa, [c])) = [[]].flatMap (fun row => (ir (sizeI cs c).toNat).map fun v => row ++ [v]) := rfl
    have e2 : factsT cs (ra, n, qa, [c]) = (ir (sizeI cs c).toNat).map (fun v => ((n, [v]) : FK)) := rfl
    rw [e1, e2, List.flatMap_cons, List.flatMap_nil, List.append_nil, List.map_map]; rfl
  · have e1 : rowsI (spanI cs (ra, n, qa, [c, d])) = ([[]].flatMap (fun row => (ir (sizeI cs c).toNat).map fun v => row ++ [v])).flatMap (fun row => (ir (sizeI cs d).toNat).map fun v => row ++ [v]) := rfl
    have e2 : factsT cs (ra, n, qa, [c, d]) = (ir (sizeI cs c).toNat).flatMap (fun v => (ir (sizeI cs d).toNat).map fun o => ((n, [v, o]) : FK)) := rfl
    rw [e1, e2, List.flatMap_cons, List.flatMap_nil, List.append_nil, List.map_flatMap, List.flatMap_map]
    congr 1
    funext v
    rw [List.map_map]; rfl
  · simp at two
theorem byName_mem {ts : List TRow} {r : TRow} : r ∈ byName ts ↔ r ∈ ts := (byName_perm ts).mem_iff
theorem byName_le {ts : List TRow} : (byName ts).length = ts.length := (byName_perm ts).length_eq
section
variable {P : Program} {w : World} {K : PySem.W.Frag} {mg : Str → Option Value} {base : Heap}
def spAllFacts (C : Addr) : Sp := fun vs H Q _ => ∃ (p : Addr) (cs : List CRow) (ts : List TRow), vs = [.ref p] ∧ PlanAt H C p cs ts ∧ ColsOk H cs ∧ TabsOk H (cs.map (·.2.1)) ts ∧
  ∀ q (fs : List FRow) H', Same H H' → H q = none → H' q = some (.lst (fs.map fv)) → (∀ r ∈ fs, FAt H' r) → fs.map (·.2.2) = (byName ts).flatMap (factsT cs) → Q (.ref q) H'
abbrev nAllFacts : List Str := ["plan", "table", "row"]
theorem sc_all_facts : FnScope nAllFacts ["plan"] (defScope s_all_facts) := ⟨rfl, rfl, rfl, by decide +kernel, rfl, by decide +kernel, by decide +kernel⟩
theorem ok_all_facts {f ft fw C : Addr} {fd dt dw : FuncData} (D : Df K mg "all_facts" s_all_facts ["plan"] f fd) (L : PlF K C) (Bt : Binds K dt ["self"] []) (mt : Meth K C "table_names" ft) (Gt : FnOk P w K mg base CX0 1 ft dt ["self"] (spTabNames C))
    (Dw : Df K mg "all_rows" s_all_rows ["plan", "table"] fw dw) (Gw : FnOk P w K mg base CX0 2 fw dw ["plan", "table"] (spAllRows C)) : FnOk P w K mg base CX0 3 f fd ["plan"] (spAllFacts C) := by
  refine D.F.ok sc_all_facts (fun vs H Q E h => ?_) (fun cdv A outer s H vs Q E hr h => ?_)
  · obtain ⟨p, cs, ts, rfl, _⟩ := h; rfl
  · obtain ⟨p, cs, ts, rfl, pl, okc, okt, q⟩ := h
    obtain ⟨dx, ct, tt, sz, sp, sh, ks, h1, _⟩ := id pl
    have no : (pf ct tt sz sp sh).lookup (Str.ofString "table_names") = none := pf_no (by decide +kernel) (by decide +kernel) (by decide +kernel) (by decide +kernel) (by decide +kernel)
    refine ⟨_, pss_one (ps_ret (pe_lc2 (own := [("table", 1), ("row", 2)]) (vs1 := [2]) (g := gName 1) (tt := tYes) (g1 := gName 2) (tt1 := tYes) rfl sc_all_facts.nd (pi_list (pe_meth0 (pv 0) L.cl mt Gt (hr.mono (by decide)) Bt .nil pass0))
      (blkOk_by (N := nAllFacts) (sc := defScope s_all_facts) (by decide +kernel)) (by decide) (fun _ _ _ _ _ => pg_name (i := 1) sc_all_facts.nd rfl (Or.inl rfl)) (fun _ _ _ _ _ => pts_nil)
      (fun _ _ _ _ _ => piL K (pcall Dw Gw hr (pa_cons (pv 0) (pa_cons (pv 1) pa_nil)))) (fun _ _ _ _ _ => pg_name (i := 2) sc_all_facts.nd rfl (Or.inl rfl)) (fun _ _ _ _ _ => pts_nil)
      (fun _ _ _ _ _ => pe_tup (pa_cons (pv 1) (pa_cons (pv 2) pa_nil))))), ?_⟩
    refine ⟨_, rfl, p, dx, _, rfl, h1, no, p, cs, ts, rfl, pl, fun l H1 s1 nl hl => ?_⟩
    refine ⟨l, rfl, ⟨_, lof hl⟩, fun D nD => ?_⟩
    have nml : ((byName ts).map fun r => V.str r.2.1).length = ts.length := by rw [List.length_map, byName_le]
    refine lc2_out (H1 := H1) (walk_list (K := K) (a := l) (xs := (byName ts).map fun r => V.str r.2.1)) nD (fun H4 s4 => lof (s4 _ _ hl)) (fun i acc H' => ∃ gs : List FRow, acc = gs.map fv ∧ (∀ r ∈ gs, FAt H' r) ∧ gs.map (·.2.2) = ((byName ts).take i).flatMap (factsT cs))
      ⟨[], rfl, (fun _ z => nomatch z), rfl⟩ (fun i acc H H' im ⟨gs, e, fa, k⟩ => ⟨gs, e, fun r hr => (fa r hr).imm im, k⟩) (fun i2 x2 Ha Hb acc Nx hi2 sa hDa ⟨gs, ea, ga, ka⟩ y2 hN => ?_) (fun H4 acc s4 hD4 ⟨gs, ea, ga, ka⟩ => ?_)
    · obtain ⟨rfl, hx2⟩ := y2
      subst ea
      rw [List.getElem?_map] at hx2
      obtain ⟨r, hrr, rfl⟩ := Option.map_eq_some_iff.mp hx2
      have rm : r ∈ ts := byName_mem.mp (List.mem_of_getElem? hrr)
      have tk2 : (byName ts).take (i2 + 1) = (byName ts).take i2 ++ [r] := by rw [List.take_succ, hrr]; rfl
      have le6 := sizeI_le okc
      have glen : gs.length ≤ 36 * 8 := by
        have h := congrArg List.length ka
        rw [List.length_map] at h
        have h1 := flat_len (f := factsT cs) (m := 36) (l := (byName ts).take i2) fun x hx => by
          have h2 : (factsT cs x).length ≤ 6 * firstN cs x.2.2.2 := factsUp_len le6
          have h3 : firstN cs x.2.2.2 ≤ 6 := by unfold firstN; have := le6 (x.2.2.2.headD ⟨#[]⟩); omega
          omega
        have h4 : ((byName ts).take i2).length ≤ ts.length := by rw [List.length_take, byName_le]; omega
        have h5 := okt.len.2
        have h6 : 36 * ((byName ts).take i2).length ≤ 36 * 8 := Nat.mul_le_mul_left _ (by omega)
        omega
      have sb : Same H Hb := s1.trans sa
      refine ⟨rfl, ?_⟩
      refine iteT (B := Nx Hb) ?_
      refine ⟨_, rfl, _, rfl, p, r.2.1, r, cs, ts, rfl, pl.same sb, okc.same sb, okt.same sb, tabOf_of okt.nd rm, fun lw rs Hc sc nw hw wa kw => ?_⟩
      refine ⟨lw, rfl, ⟨_, lof hw⟩, ?_⟩
      have hDc := sc _ _ hDa
      have lwD : lw ≠ D := fun z => by subst z; rw [hDa] at nw; cases nw
      have rlen : rs.length ≤ 36 := by
        have h := congrArg List.length kw
        rw [List.length_map] at h
        rw [h]
        exact rowsI_len (fun s hs => (spanI_mem okc okt rm hs).2) (by rw [spanI_len]; exact (okt.two r rm).2)
      have wml : (rs.map wv).length = rs.length := List.length_map _
      refine lc_in (walk_list (K := K) (a := lw) (xs := rs.map wv)) hDc (fun H' s' => lof (s' _ _ (by rw [rem_ne lwD]; exact hw))) (fun j acc H' => ∃ g1 : List FRow, acc = (gs ++ g1).map fv ∧ (∀ r ∈ gs ++ g1, FAt H' r) ∧ g1.map (·.2.2) = ((rs.take j).map (·.2)).map fun row => ((r.2.1, row) : FK))
        ⟨[], by rw [List.append_nil], by rw [List.append_nil]; exact fun x hx => (ga x hx).imm (same_imm sc), rfl⟩ (fun i acc H H' im ⟨g1, e, fa, k⟩ => ⟨g1, e, fun r hr => (fa r hr).imm im, k⟩) (fun j acc H' hj ⟨g1, e, _, k⟩ => ?_) (fun j o Hd He acc Q1 Q2 hj sd hDd ⟨g1, e1, f1, k1⟩ y3 q1 q2 => ?_) (fun H' acc s' hD' ⟨g1, e1, f1, k1⟩ => ?_)
      · have h := congrArg List.length k
        rw [List.length_map, List.length_map, List.length_map, List.length_take] at h
        rw [e, List.length_map, List.length_append]
        exact Nat.lt_of_le_of_lt (show gs.length + g1.length ≤ 1000 by omega) (by decide)
      · obtain ⟨rfl, hx3⟩ := y3
        subst e1
        rw [List.getElem?_map] at hx3
        obtain ⟨rw', hrw, rfl⟩ := Option.map_eq_some_iff.mp hx3
        have tk3 : rs.take (j + 1) = rs.take j ++ [rw'] := by rw [List.take_succ, hrw]; rfl
        have hwd : WAt He rw' := sd _ _ (rem_tup hDc (wa rw' (List.mem_of_getElem? hrw)))
        refine ⟨rfl, ?_⟩
        refine iteT (B := Q2 He) ?_
        refine ⟨_, rfl, _, rfl, by show 2 ≤ sizeLine; decide, fun t nt => ?_⟩
        refine q1 _ _ (same_new nt) ⟨g1 ++ [(t, rw'.1, r.2.1, rw'.2)], ?_, fun x hx => ?_, ?_⟩
        · rw [← List.append_assoc, List.map_append (l₁ := gs ++ g1)]; rfl
        · rw [← List.append_assoc] at hx
          rcases List.mem_append.mp hx with hx | hx
          · exact (f1 x hx).imm (imm_new nt)
          · rw [List.mem_singleton] at hx; subst hx
            exact ⟨upd_same, imm_new nt _ _ hwd⟩
        · rw [List.map_append, k1, tk3, List.map_append, List.map_append]; rfl
      · subst e1
        have sH : Same H1 H' := (same_into_rem (sa.trans sc) nD).trans s'
        refine hN _ _ sH hD' ⟨gs ++ g1, rfl, f1, ?_⟩
        rw [wml, List.take_length, kw] at k1
        rw [List.map_append, ka, k1, tk2, List.flatMap_append, List.flatMap_cons, List.flatMap_nil, List.append_nil, factsT_rows okt rm]
    · subst ea
      rw [nml, ← byName_le, List.take_length] at ka
      exact q D gs H4 (s1.trans s4) (s1.free nD) hD4 ga ka
/-! looks -/
def spLooksAt (C : Addr) : Sp := fun vs H Q _ => ∃ (p : Addr) (n : Str) (r : TRow) (cs : List CRow) (ts : List TRow), vs = [.ref p, .str n] ∧ PlanAt H C p cs ts ∧ ColsOk H cs ∧ TabsOk H (cs.map (·.2.1)) ts ∧ tabOf ts n = some r ∧
  ∀ q (ls : List LRow) H', Same H H' → H q = none → H' q = some (.lst (ls.map lv)) → (∀ r ∈ ls, LAt H' r) → ls.map (·.2) = looksT cs r → Q (.ref q) H'
abbrev nLooksAt : List Str := ["plan", "table", "side", "size", "value"]
def spAllLooks (C : Addr) : Sp := fun vs H Q _ => ∃ (p : Addr) (cs : List CRow) (ts : List TRow), vs = [.ref p] ∧ PlanAt H C p cs ts ∧ ColsOk H cs ∧ TabsOk H (cs.map (·.2.1)) ts ∧
  ∀ q (ls : List LRow) H', Same H H' → H q = none → H' q = some (.lst (ls.map lv)) → (∀ r ∈ ls, LAt H' r) → ls.map (·.2) = (byName ts).flatMap (looksT cs) → Q (.ref q) H'
abbrev nAllLooks : List Str := ["plan", "table", "look"]
end
end As

/-! ## G30 -/
namespace As
open PySem PySem.Spec PyProof.Rows L2 TL
/-! check_settling, seen_by -/
def seenL (ls : List LK) (k : FK) : Bool := (sidesOf k).any fun l => decide (l ∈ ls)
theorem filter_ne {α β : Type} {f : α → β} {p : β → Bool} {xs : List α} : ((xs.filter fun x => p (f x)).isEmpty) = !((xs.map f).any p) := by
  induction xs with
  | nil => rfl
  | cons x xs ih =>
    rw [List.filter_cons, List.map_cons, List.any_cons]
    cases e : p (f x) with
    | true => rfl
    | false => rw [if_neg Bool.false_ne_true, ih]; rfl
theorem sides_lenK {k : FK} : (sidesOf k).length = k.2.length := by
  unfold sidesOf sidesUp
  simp
section
variable {P : Program} {w : World} {K : PySem.W.Frag} {mg : Str → Option Value} {base : Heap}
def spCheckL2 (K : PySem.W.Frag) (C : Addr) : Sp := fun vs H Q _ => ∃ (p l : Addr) (ls : List LRow) (cs : List CRow) (ts : List TRow), vs = [.ref p, .ref l] ∧ PlanAt H C p cs ts ∧ ColsOk H cs ∧ TabsOk H (cs.map (·.2.1)) ts ∧ LT K H l (ls.map lv) ∧ (∀ x ∈ ls, LAt H x) ∧ (∀ x ∈ ls, ∃ r ∈ ts, LofT cs r x.2) ∧ ∀ H', Same H H' → Q .non H'
theorem ok_check_looks2 {f fl fi C : Addr} {fd dl di : FuncData} (D : Df K mg "check_looks" s_check_looks ["plan", "thing"] f fd) (T : Bi mg) (en : mg "enumerate" = none) (Dl : Df K mg "is_list" s_is_list ["thing"] fl dl) (Gl' : FnOk P w K mg base CX0 1 fl dl ["thing"] (spListX K))
    (Di : Df K mg "is_look" s_is_look ["plan", "thing"] fi di) (Gi : FnOk P w K mg base CX0 3 fi di ["plan", "thing"] (spIsLook C)) : FnOk P w K mg base CX0 4 f fd ["plan", "thing"] (spCheckL2 K C) := by
  refine D.F.ok sc_check_looks (fun vs H Q E h => ?_) (fun cdv A outer s H vs Q E hr h => ?_)
  · obtain ⟨p, l, ls, cs, ts, rfl, _⟩ := h; rfl
  · obtain ⟨p, l, ls, cs, ts, rfl, pl, okc, okt, hl, la, ow, q⟩ := h
    have hr1 : Room 1 _ := hr.mono (by decide)
    refine ⟨_, pss_cons (ps_if (pt_not (pt_val (pcall Dl Gl' hr1 (pa_cons (pv 1) pa_nil)))) (pss_one ps_dead) pss_nil)
      (pss_one (ps_for PassesOwn.never rfl (pi_either (pi_enum (by rfl) en (pa_cons (pv 1) pa_nil)) (pi_enumT (by rfl) en (pa_cons (pv 1) pa_nil))) (pg_tup rfl (pgs_cons (pg_name (i := 2) sc_check_looks.nd rfl (Or.inl rfl)) (pgs_cons (pg_name (i := 3) sc_check_looks.nd rfl (Or.inl rfl)) pgs_nil)))
        (pss_one (ps_if (pt_not (pt_val (pcall Di Gi hr (pa_cons (pv 0) (pa_cons (pv 3) pa_nil))))) (pss_one ps_dead) pss_nil)))), ?_⟩
    refine ⟨_, rfl, l, _, rfl, hl, fun H1 s1 => ⟨true, rfl, iteF ?_⟩⟩
    rcases hl.or with hl | hl
    · refine .inl ⟨_, rfl, l, _, rfl, s1.seq hl, for_it walk_enum (fun j σ H2 => ∃ x2 x3, σ = [some (.ref p), some (.ref l), x2, x3] ∧ Same H H2) ⟨_, _, rfl, s1⟩ (fun j σ H2 _ ⟨_, _, _, s'⟩ => s'.seq hl) ?_ ?_⟩
      · rintro j x σ H2 H3 hj ⟨x2, x3, rfl, s2⟩ ⟨T1, ya, yb, rfl, nT, rfl, ha, hb⟩
        have hb' : (ls.map lv)[j]? = some yb := hb
        rw [List.getElem?_map] at hb'
        obtain ⟨z, hz, rfl⟩ := Option.map_eq_some_iff.mp hb'
        have zm := List.mem_of_getElem? hz
        have s3 := s2.trans (same_new (o := .tup [ya, lv z]) nT)
        have kT : (upd H2 T1 (.tup [ya, lv z])) T1 = some (.tup [ya, lv z]) := upd_same
        generalize upd H2 T1 (.tup [ya, lv z]) = H3 at s3 kT ⊢
        refine ⟨T1, _, rfl, tof kT, rfl, _, _, rfl, _, _, rfl, rfl, ?_⟩
        refine ⟨_, rfl, _, rfl, p, z, cs, ts, rfl, pl.same s3, okc.same s3, okt.same s3, s3 _ _ (la z zm), ow z zm, fun H4 s4 => ⟨true, rfl, iteF ⟨_, _, rfl, s3.trans s4⟩⟩⟩
      · rintro σ H2 ⟨x2, x3, rfl, s2⟩
        exact q _ s2
    · refine .inr ⟨_, rfl, l, _, rfl, same_t s1 hl, for_it walk_enumT (fun j σ H2 => ∃ x2 x3, σ = [some (.ref p), some (.ref l), x2, x3] ∧ Same H H2) ⟨_, _, rfl, s1⟩ (fun j σ H2 _ ⟨_, _, _, s'⟩ => same_t s' hl) ?_ ?_⟩
      · rintro j x σ H2 H3 hj ⟨x2, x3, rfl, s2⟩ ⟨T1, ya, yb, rfl, nT, rfl, ha, hb⟩
        have hb' : (ls.map lv)[j]? = some yb := hb
        rw [List.getElem?_map] at hb'
        obtain ⟨z, hz, rfl⟩ := Option.map_eq_some_iff.mp hb'
        have zm := List.mem_of_getElem? hz
        have s3 := s2.trans (same_new (o := .tup [ya, lv z]) nT)
        have kT : (upd H2 T1 (.tup [ya, lv z])) T1 = some (.tup [ya, lv z]) := upd_same
        generalize upd H2 T1 (.tup [ya, lv z]) = H3 at s3 kT ⊢
        refine ⟨T1, _, rfl, tof kT, rfl, _, _, rfl, _, _, rfl, rfl, ?_⟩
        refine ⟨_, rfl, _, rfl, p, z, cs, ts, rfl, pl.same s3, okc.same s3, okt.same s3, s3 _ _ (la z zm), ow z zm, fun H4 s4 => ⟨true, rfl, iteF ⟨_, _, rfl, s3.trans s4⟩⟩⟩
      · rintro σ H2 ⟨x2, x3, rfl, s2⟩
        exact q _ s2
def spCheckS (K : PySem.W.Frag) (C : Addr) : Sp := fun vs H Q _ => ∃ (p l a : Addr) (ls : List LRow) (ss : List SRow) (ks : List KRow) (cs : List CRow) (ts : List TRow), vs = [.ref p, .ref l, .ref a] ∧ PlanAt H C p cs ts ∧ ColsOk H cs ∧ TabsOk H (cs.map (·.2.1)) ts ∧ LT K H l (ls.map lv) ∧ (∀ x ∈ ls, LAt H x) ∧ (∀ x ∈ ls, ∃ r ∈ ts, LofT cs r x.2) ∧
  AskAt H a ss ks ∧ AskOk cs ts ss ks ∧ rowsOf cs ss ≤ 5000 ∧ ∀ H', Same H H' → Q .non H'
abbrev nChS : List Str := ["plan", "looks", "ask"]
theorem sc_chs : FnScope nChS ["plan", "looks", "ask"] (defScope s_check_settling) := ⟨rfl, rfl, rfl, by decide +kernel, rfl, by decide +kernel, by decide +kernel⟩
theorem ok_check_s {f fl fa C : Addr} {fd dl da : FuncData} (D : Df K mg "check_settling" s_check_settling ["plan", "looks", "ask"] f fd)
    (Dl : Df K mg "check_looks" s_check_looks ["plan", "thing"] fl dl) (Gl' : FnOk P w K mg base CX0 4 fl dl ["plan", "thing"] (spCheckL2 K C))
    (Da : Df K mg "check_ask" s_check_ask ["plan", "thing"] fa da) (Ga : FnOk P w K mg base CX0 7 fa da ["plan", "thing"] (spCheckAskV C)) : FnOk P w K mg base CX0 8 f fd ["plan", "looks", "ask"] (spCheckS K C) := by
  refine D.F.ok sc_chs (fun vs H Q E h => ?_) (fun cdv A outer s H vs Q E hr h => ?_)
  · obtain ⟨p, l, a, ls, ss, ks, cs, ts, rfl, _⟩ := h; rfl
  · obtain ⟨p, l, a, ls, ss, ks, cs, ts, rfl, pl, okc, okt, hl, la, ow, ask, ok, few, q⟩ := h
    have hr4 : Room 4 _ := hr.mono (by decide)
    have hr7 : Room 7 _ := hr.mono (by decide)
    refine ⟨_, pss_cons (ps_expr (pcall Dl Gl' hr4 (pa_cons (pv 0) (pa_cons (pv 1) pa_nil))))
      (pss_one (ps_expr (pcall Da Ga hr7 (pa_cons (pv 0) (pa_cons (pv 2) pa_nil))))), ?_⟩
    refine ⟨_, rfl, _, rfl, p, l, ls, cs, ts, rfl, pl, okc, okt, hl, la, ow, fun H1 s1 => ?_⟩
    exact ⟨_, rfl, _, rfl, p, a, ss, ks, cs, ts, rfl, pl.same s1, okc.same s1, okt.same s1, ask.same s1, ok, few, fun H2 s2 => q _ (s1.trans s2)⟩
/-- seen_by -/
def spSeenBy (P : Program) (w : World) (K : PySem.W.Frag) (C : Addr) : Sp := fun vs H Q _ => ∃ (p l : Addr) (ls : List LRow) (cs : List CRow) (ts : List TRow), vs = [.ref p, .ref l] ∧ PlanAt H C p cs ts ∧ ColsOk H cs ∧ TabsOk H (cs.map (·.2.1)) ts ∧ LT K H l (ls.map lv) ∧ (∀ x ∈ ls, LAt H x) ∧ ls.length ≤ 10000 ∧
  ∀ d (es : List NEnt) H', Same H H' → H d = none → H' d = some (NDict P w d es) → KeysAt H' es → (∀ k : FK, fkN k ∈ es.map (·.1) ↔ k ∈ (byName ts).flatMap (factsT cs) ∧ seenL (ls.map (·.2)) k = true) → Q (.ref d) H'
abbrev nSeenBy : List Str := ["plan", "looks", "bought", "seen", "fact", "found", "look"]
theorem sc_seen_by : FnScope nSeenBy ["plan", "looks"] (defScope s_seen_by) := ⟨rfl, rfl, rfl, by decide +kernel, rfl, by decide +kernel, by decide +kernel⟩
theorem ok_seen_by {f faf flt C : Addr} {fd daf dlt : FuncData} (D : Df K mg "seen_by" s_seen_by ["plan", "looks"] f fd)
    (Daf : Df K mg "all_facts" s_all_facts ["plan"] faf daf) (Gaf : FnOk P w K mg base CX0 3 faf daf ["plan"] (spAllFacts C))
    (Dlt : Df K mg "looks_that_see" s_looks_that_see ["fact"] flt dlt) (Glt : FnOk P w K mg base CX0 1 flt dlt ["fact"] spLts) : FnOk P w K mg base CX0 4 f fd ["plan", "looks"] (spSeenBy P w K C) := by
  refine D.F.ok sc_seen_by (fun vs H Q E h => ?_) (fun cdv A outer s H vs Q E hr h => ?_)
  · obtain ⟨p, l, ls, cs, ts, rfl, _⟩ := h; rfl
  · obtain ⟨p, l, ls, cs, ts, rfl, pl, okc, okt, hl, la, len, q⟩ := h
    have hu := hu64 hr
    have hr1 : Room 1 _ := hr.mono (by decide)
    refine ⟨_, pss_cons (ps_set (i := 2) sc_seen_by.nd rfl (Or.inr rfl) (pe_dcN (own := [("look", 6)]) (g := gName 6) (tt := tYes) (show (A.deeper (envOfC (Str.ofString "seen_by") (defScope s_seen_by) s.heap.objs.size f cdv)).units + 8 < cLine by have := hr.un; omega) rfl sc_seen_by.nd (pi_either (piL (K := K) (pv 1)) (piT (K := K) (pv 1))) (blkOk_by (N := nSeenBy) (sc := defScope s_seen_by) (by decide +kernel))
          (fun _ _ _ _ _ => pg_name (i := 6) sc_seen_by.nd rfl (Or.inl rfl)) (fun _ _ _ _ _ => pts_nil) (fun _ _ _ _ _ => pv 6) (fun _ _ _ _ _ => pe_bl)))
      (pss_cons (ps_set (i := 3) sc_seen_by.nd rfl (Or.inl rfl) (pe_dnewN P w))
      (pss_cons (ps_for PassesOwn.never rfl (pi_list (pcall Daf Gaf hr (pa_cons (pv 0) pa_nil))) (pg_name (i := 4) sc_seen_by.nd rfl (Or.inl rfl))
        (pss_cons (ps_setLc (i := 5) (own := [("look", 6)]) (g := gName 6) (tt := tB (tInN P w true (tVar 6) (tVar 2))) rfl sc_seen_by.nd rfl rfl (sw_true rfl rfl rfl (by decide +kernel)) (pi_list (pcall Dlt Glt hr1 (pa_cons (pv 4) pa_nil))) (blkOk_by (N := nSeenBy) (sc := defScope s_seen_by) (by decide +kernel)) (fun _ _ _ _ _ => pg_name (i := 6) sc_seen_by.nd rfl (Or.inl rfl)) (fun _ _ _ _ _ => pts_one (pt_cmp (inNK P w hu (pv 6) (pv 2)))) (fun _ _ _ _ _ => pv 6))
        (pss_one (ps_if (truK K (pv 5))
          (pss_one (ps_asg (pe_ix ix_list (pv 5) pe_int (fun _ _ => rfl)) (pg_sub (pv 3) (pv 4) (set_nd P w hu))))
          pss_nil))))
      (pss_one (ps_ret (pv 3))))), ?_⟩
    dsimp only [tSeq, tAsg]
    refine dcn_mid (fun D H3 => ∃ es : List NEnt, H D = none ∧ Same H H3 ∧ H3 D = some (NDict P w D es) ∧ KeysAt H3 es ∧ (∀ k, k ∈ es.map (·.1) ↔ k ∈ ls.map fun x => lkN x.2)) (fun Q' kk => ?_) (fun Db H1 ⟨eb, nDb, s1, hDb, kb, ke⟩ => ?_)
    · have body : ∀ {σ : L2.St} {vs : List Nat}, True := fun {_ _} => trivial
      rcases hl.or with h1 | h1
      · refine .inl ⟨_, rfl, l, rfl, ⟨_, h1⟩, fun D nD => ?_⟩
        exact dcn_n (kf := fun x : LRow => lkN x.2) (ad := fun x => x.1) (gs := ls) walk_list (fun H e => e.seq h1) nD (fun f hf => key_l (la f hf)) len (fun f H3 Q1 Q2 hf s3 k => ⟨rfl, iteT (B := Q2 H3) ⟨_, rfl, k _ (Same.refl _)⟩⟩) (fun H3 us s3 hD3 ka ke ul => kk _ _ ⟨us, nD, s3, hD3, ka, ke⟩)
      · refine .inr ⟨_, rfl, l, rfl, ⟨_, h1⟩, fun D nD => ?_⟩
        exact dcn_n (kf := fun x : LRow => lkN x.2) (ad := fun x => x.1) (gs := ls) walk_tup (fun H e => same_t e h1) nD (fun f hf => key_l (la f hf)) len (fun f H3 Q1 Q2 hf s3 k => ⟨rfl, iteT (B := Q2 H3) ⟨_, rfl, k _ (Same.refl _)⟩⟩) (fun H3 us s3 hD3 ka ke ul => kk _ _ ⟨us, nD, s3, hD3, ka, ke⟩)
    refine fun d nd => ?_
    generalize e2 : upd H1 d (NDict P w d []) = H2
    have s2 : Same H1 H2 := e2 ▸ same_new nd
    have hd2 : H2 d = some (NDict P w d []) := by rw [← e2]; exact upd_same
    have s12 := s1.trans s2
    refine ⟨_, rfl, p, cs, ts, rfl, pl.same s12, okc.same s12, okt.same s12, fun q1 fs H3 s3 nq hq fa kf => ⟨q1, rfl, ⟨_, lof hq⟩, ?_⟩⟩
    have s13 := s2.trans s3
    obtain ⟨B, hB⟩ : ∃ B, rem H3 d = B := ⟨_, rfl⟩
    have Bd : B d = none := by rw [← hB]; exact rem_self
    have sHB : Same H1 B := by rw [← hB]; exact same_into_rem s13 nd
    have sB3 : Same B H3 := by rw [← hB]; exact same_rem
    have hd3 := s3 _ _ hd2
    have qd : q1 ≠ d := fun z => by subst z; rw [hd2] at nq; cases nq
    have hqB : B q1 = some (.lst (fs.map fv)) := by rw [← hB, rem_ne qd]; exact hq
    have nd_ne : ∀ {b : Addr} {xs : List V}, H3 b = some (.tup xs) → b ≠ d := fun {b xs} h z => by
      subst z
      rw [hd3] at h; cases h
    have faB : ∀ f ∈ fs, FAt B f := fun f hf => ⟨by rw [← hB, rem_ne (nd_ne (fa f hf).1)]; exact (fa f hf).1, by rw [← hB, rem_ne (nd_ne (fa f hf).2)]; exact (fa f hf).2⟩
    have hDbB := sHB _ _ hDb
    have kbB := kb.imm (same_imm sHB)
    have sHB2 := s1.trans sHB
    have dH : H d = none := s1.free nd
    have fs1000 : fs.length ≤ 1000 := by
      have h := congrArg List.length kf
      rw [List.length_map, (List.Perm.flatMap_right (factsT cs) (byName_perm ts)).length_eq] at h
      rw [h]; exact facts_max okc okt
    clear hB fa hq nq s13 hd2 s2 s3
    refine for_list (K := K) (a := q1) (xs := fs.map fv) (fun i σ H' => ∃ (es : List NEnt) (x4 x5 : Option V), σ = [some (.ref p), some (.ref l), some (.ref Db), some (.ref d), x4, x5, none] ∧ Same B H' ∧ H' d = some (NDict P w d es) ∧ KeysAt B es ∧ es.length ≤ i ∧ ∀ k : FK, fkN k ∈ es.map (·.1) ↔ k ∈ (fs.take i).map (·.2.2) ∧ seenL (ls.map (·.2)) k = true)
      ⟨[], _, _, rfl, sB3, hd3, (fun _ z => nomatch z), Nat.le_refl _, fun k => by simp⟩ (fun j σ H' _ ⟨_, _, _, _, s, _⟩ => lof (s _ _ hqB)) ?_ ?_
    · rintro i x σ H4 hx ⟨es, x4, x5, rfl, s4, hd4, ka, el, ke4⟩
      rw [List.getElem?_map] at hx
      obtain ⟨g, hg, rfl⟩ := Option.map_eq_some_iff.mp hx
      have gm := List.mem_of_getElem? hg
      have gat := (faB g gm).imm (same_imm s4)
      have gl2 : g.2.2.2.length ≤ 2 := by
        have h : g.2.2 ∈ (byName ts).flatMap (factsT cs) := by rw [← kf]; exact List.mem_map_of_mem gm
        obtain ⟨r, _, hk⟩ := List.mem_flatMap.mp h
        exact (oft_len (factsT_of hk)).2.1
      refine ⟨_, rfl, g, rfl, gat, gl2, fun p1 js H5 s5 np1 hp1 ja key => ⟨p1, rfl, ⟨_, lof hp1⟩, fun D3 nD3 => ?_⟩⟩
      have jlen : js.length ≤ 10000 := by
        have h := congrArg List.length key
        rw [List.length_map, sides_lenK] at h
        omega
      have s45 := s4.trans s5
      refine lc_fm (v := lv) (u := lv) (xs := js) (fun x => decide (x.2 ∈ ls.map (·.2))) walk_list nD3 (fun H e => lof (e _ _ hp1)) jlen (fun x H6 Q1 Q2 hx s6 k1 k2 => ?_) (fun H6 s6 hD6 => ?_)
      · refine ⟨rfl, ?_⟩
        refine ⟨_, rfl, _, rfl, x.1, Db, lkN x.2, eb, rfl, rfl, key_l ((ja x hx).imm (same_imm s6)), (s45.trans s6) _ _ hDbB, kbB.imm (same_imm (s45.trans s6)), _, rfl, ?_⟩
        have e : (ndVal eb (lkN x.2)).isSome = decide (x.2 ∈ ls.map (·.2)) := by
          rw [ndVal_key]
          refine decide_eq_decide.mpr ((ke _).trans ?_)
          rw [show (ls.map fun x => lkN x.2) = (ls.map (·.2)).map lkN by rw [List.map_map]; rfl]
          exact mem_inj (fun _ _ => lkN_inj)
        rw [if_pos rfl, e]
        cases e2 : decide (x.2 ∈ ls.map (·.2)) with
        | true => exact iteT ⟨_, rfl, k1 e2 _ (Same.refl _)⟩
        | false => exact iteF (k2 e2 _ (Same.refl _))
      have s46 := s4.trans (s5.trans s6)
      have emp : ((js.filter fun x => decide (x.2 ∈ ls.map (·.2))).map lv).isEmpty = !seenL (ls.map (·.2)) g.2.2 := by
        rw [show ((js.filter fun x => decide (x.2 ∈ ls.map (·.2))).map lv).isEmpty = (js.filter fun x => decide (x.2 ∈ ls.map (·.2))).isEmpty by cases (js.filter fun x => decide (x.2 ∈ ls.map (·.2))) <;> rfl]
        unfold seenL
        rw [← key]
        exact filter_ne (f := fun x : LRow => x.2) (p := fun z => decide (z ∈ ls.map (·.2)))
      have hd6 := (s5.trans s6) _ _ hd4
      refine ⟨_, rfl, _, .inl ⟨_, lof hD6, rfl⟩, ?_⟩
      rw [emp, Bool.not_not]
      have nx : ∀ k : FK, k ∈ (fs.take (i + 1)).map (·.2.2) ↔ k ∈ (fs.take i).map (·.2.2) ∨ k = g.2.2 := fun k => by
        rw [List.take_succ, hg, List.map_append, List.mem_append]
        simp
      cases e2 : seenL (ls.map (·.2)) g.2.2 with
      | false =>
        refine iteF ⟨es, _, _, rfl, s46, hd6, ka, by omega, fun k => ?_⟩
        rw [ke4, nx]
        constructor
        · rintro ⟨h1, h2⟩; exact ⟨.inl h1, h2⟩
        · rintro ⟨h1 | h1, h2⟩
          · exact ⟨h1, h2⟩
          · subst h1; rw [e2] at h2; cases h2
      | true =>
        rw [e2] at emp
        obtain ⟨j, js', ej⟩ : ∃ j js', (js.filter fun x => decide (x.2 ∈ ls.map (·.2))) = j :: js' := by
          cases e3 : (js.filter fun x => decide (x.2 ∈ ls.map (·.2))) with
          | nil => rw [e3] at emp; cases emp
          | cons j js' => exact ⟨j, js', rfl⟩
        rw [ej] at hD6
        refine iteT ?_
        refine ⟨_, rfl, D3, _, 0, lv j, rfl, rfl, lof hD6, by rw [List.map_cons]; exact atI_zero, _, rfl, _, rfl, d, g.1, es, fkN g.2.2, rfl, rfl, key_f (gat.imm (same_imm (s5.trans s6))), hd6, ka.imm (same_imm s46), ?_, ?_⟩
        · have : i < fs.length := (List.getElem?_eq_some_iff.mp hg).1
          exact Nat.lt_of_le_of_lt (show es.length ≤ 10000 by omega) (by decide)
        refine ⟨_, _, _, rfl, same_mut s46 Bd, upd_same, ndPut_at ka (key_f (faB g gm)), ?_, fun k => ?_⟩
        · have := ndPut_len (es := es) (k := fkN g.2.2) (a := g.1) (v := lv j); omega
        · rw [ndPut_key, ke4, nx]
          constructor
          · rintro (⟨h1, h2⟩ | h)
            · exact ⟨.inl h1, h2⟩
            · have := fkN_inj h; subst this; exact ⟨.inr rfl, e2⟩
          · rintro ⟨h1 | h1, h2⟩
            · exact .inl ⟨h1, h2⟩
            · subst h1; exact .inr rfl
    · rintro σ H4 ⟨es, x4, x5, rfl, s4, hd4, ka, el, ke4⟩
      rw [List.length_map, List.take_length] at ke4
      refine ⟨_, rfl, q d es H4 (sHB2.trans s4) dH hd4 (ka.imm (same_imm s4)) fun k => ?_⟩
      rw [ke4, kf]
end
end As

/-! ## F6 -/
namespace As
open PySem PySem.Spec PyProof.Rows L2
open PySem.W (dataLe AllAlike Sortable dataLt alike)
def rowD (xs : List Int) : PyData := .tuple (xs.map .int)
theorem eqv_row (a b : List Int) : PyData.eqv (rowD a) (rowD b) = decide (a = b) := by
  have e : PyData.eqv (rowD a) (rowD b) = PyData.eqvAll (a.map .int) (b.map .int) := by simp only [rowD, PyData.eqv]
  rw [e, eqvAll_ints]
theorem lay_rows : ∀ {xs : List (List Int)}, PyData.canLayAll0 (xs.map rowD) = true ∧ PyData.depthAll (xs.map rowD) ≤ 2
  | [] => by simp [PyData.canLayAll0, PyData.depthAll]
  | x :: xs => by
    have h := lay_rows (xs := xs)
    have h1 : PyData.canLay0 (rowD x) = true := by simp [rowD, PyData.canLay0, ints_lay.1]
    have h2 : PyData.depth (rowD x) ≤ 2 := by simp [rowD, PyData.depth, ints_lay.2]
    simp only [List.map_cons, PyData.canLayAll0, PyData.depthAll, h1, h.1, Bool.and_true, true_and]
    have := h.2
    omega
def rowsK (fs : List FRow) (l : LK) : List (List Int) := (fs.filter fun f => seesB l f.2.2).map fun f => f.2.2.2
def seenK (ks : List FK) (l : LK) : List (List Int) := (ks.filter fun k => seesB l k).map (·.2)
theorem rows_seen {fs : List FRow} {l : LK} : rowsK fs l = seenK (keysF fs) l := by
  unfold rowsK seenK keysF
  rw [List.filter_map, List.map_map]; rfl
theorem dp_rows {K : PySem.W.Frag} {H : Hp} : ∀ {fs : List FRow}, (∀ f ∈ fs, FAt H f) → DpAll K H (fs.map fun f => V.ref f.2.1) ((fs.map fun f => f.2.2.2).map rowD)
  | [], _ => .nil
  | f :: _, h => .cons (.tup (tof (h f List.mem_cons_self).2) dp_ints) (dp_rows fun x hx => h x (List.mem_cons_of_mem _ hx))
theorem eq_seen {K : PySem.W.Frag} {H : Hp} {a b : Addr} {fs gs : List FRow} {l : LK} {Q : VK} (ha : H a = some (.tup (seenR fs l))) (hb : H b = some (.tup (seenR gs l))) (fa : ∀ f ∈ fs, FAt H f) (ga : ∀ f ∈ gs, FAt H f)
    (q : Q (.bl (decide (seenK (keysF fs) l = seenK (keysF gs) l))) H) : rEqD K (.ref a) (.ref b) H Q := by
  refine ⟨.tuple ((rowsK fs l).map rowD), .tuple ((rowsK gs l).map rowD), .tup (tof ha) (dp_rows fun f hf => fa f (List.mem_filter.mp hf).1), .tup (tof hb) (dp_rows fun f hf => ga f (List.mem_filter.mp hf).1), shaped_tup lay_rows.1 lay_rows.2, shaped_tup lay_rows.1 lay_rows.2, ?_⟩
  rw [eqv_tup eqv_row, rows_seen, rows_seen]; exact q
theorem ne_seen {K : PySem.W.Frag} {H : Hp} {a b : Addr} {fs gs : List FRow} {l : LK} {Q : VK} (ha : H a = some (.tup (seenR fs l))) (hb : H b = some (.tup (seenR gs l))) (fa : ∀ f ∈ fs, FAt H f) (ga : ∀ f ∈ gs, FAt H f)
    (q : Q (.bl (!decide (seenK (keysF fs) l = seenK (keysF gs) l))) H) : rNeD K (.ref a) (.ref b) H Q := by
  refine ⟨.tuple ((rowsK fs l).map rowD), .tuple ((rowsK gs l).map rowD), .tup (tof ha) (dp_rows fun f hf => fa f (List.mem_filter.mp hf).1), .tup (tof hb) (dp_rows fun f hf => ga f (List.mem_filter.mp hf).1), shaped_tup lay_rows.1 lay_rows.2, shaped_tup lay_rows.1 lay_rows.2, ?_⟩
  rw [eqv_tup eqv_row, rows_seen, rows_seen]; exact q
def agreeB (ks ks' : List FK) (ls : List LK) : Bool := ls.all fun l => decide (seenK ks l = seenK ks' l)
section
variable {P : Program} {w : World} {K : PySem.W.Frag} {mg : Str → Option Value} {base : Heap}
/-- two stores of one plan compared -/
def spSEq (P : Program) (w : World) (C S : Addr) : Sp := fun vs H Q _ => ∃ (a b p : Addr) (fs gs : List FRow) (cs : List CRow) (ts : List TRow), vs = [.ref a, .ref b] ∧ StoreAt P w H S a p fs ∧ StoreAt P w H S b p gs ∧ PlanAt H C p cs ts ∧ ColsOk H cs ∧ TabsOk H (cs.map (·.2.1)) ts ∧ OwnF cs ts fs ∧ OwnF cs ts gs ∧
  Q (.bl (decide (keysF fs = keysF gs))) H
theorem sc_Seq : FnScope ["self", "other"] ["self", "other"] (defScope s_Seq) := ⟨rfl, rfl, rfl, by decide +kernel, rfl, by decide +kernel, by decide +kernel⟩
theorem ok_Seq {f fe C S : Addr} {fd de : FuncData} (F : Fun K "__eq__" "Store.__eq__" s_Seq f fd) (T : Bi mg) (L : StF K S) (G : IsC K S) (hS : mg "Store" = some (.ref S)) (Ge : FnOk P w K mg base CX0 1 fe de ["self", "other"] (spEqP C)) (be : Binds K de ["self", "other"] []) (qe : EqC K C fe) :
    FnOk P w K mg base CX0 2 f fd ["self", "other"] (spSEq P w C S) := by
  refine F.ok sc_Seq (fun vs H Q E h => ?_) (fun cdv A outer s H vs Q E hr h => ?_)
  · obtain ⟨a, b, p, fs, gs, cs, ts, rfl, _⟩ := h; rfl
  · obtain ⟨a, b, p, fs, gs, cs, ts, rfl, st, st', pl, okc, okt, ow, ow', q⟩ := h
    have fat := st.fat
    have gat := st'.fat
    obtain ⟨dx, pr, fa, us, h1, h2, h3, h3', h4, h5, h6⟩ := st
    obtain ⟨dx', pr', fa', us', g1, g2, g3, g3', g4, g5, g6⟩ := st'
    obtain ⟨dp, ct, tt, sz, sp, sh, ks, e1, _⟩ := id pl
    refine ⟨_, pss_one (ps_ret (pe_and (pe_callB call_isi (by rfl) T.isinst (by decide +kernel) (pa_cons (pv 1) (pa_cons (pe_glob (v := .ref S) rfl hS rfl) pa_nil)))
      (pe_and (pe_cmpR (op_eqOwn Ge hr be qe) (pe_fld (pv 0) rfl) (pe_fld (pv 1) rfl) (nomark _)) (pe_one (pe_cmpR (op_eqD (hu64 hr)) (pe_fld (pv 0) rfl) (pe_fld (pv 1) rfl) (nomark _)))))), ?_⟩
    refine ⟨_, rfl, _, _, .ref S, _, true, rfl, .own S, .base (.ins g1 L.cl G.ha G.hn G.htk G.hm), kit_self, true, rfl, iteT ?_⟩
    refine ⟨_, rfl, a, S, dx, _, _, rfl, h1, L.cl, L.aP, sf_P, _, rfl, b, S, dx', _, _, rfl, g1, L.cl, L.aP, sf_P, p, p, dp, _, rfl, rfl, e1, .inl ⟨_, _, e1⟩, p, p, cs, ts, rfl, pl, okc, okt, .inl ⟨cs, ts, pl, okc, okt, _, rfl, ?_⟩⟩
    rw [decide_eq_true rfl, decide_eq_true rfl]
    refine ⟨true, rfl, iteT ?_⟩
    refine ⟨_, rfl, a, S, dx, _, _, rfl, h1, L.cl, L.aF, sf_F, _, rfl, b, S, dx', _, _, rfl, g1, L.cl, L.aF, sf_F, ?_⟩
    exact ⟨_, _, .tup (tof h4) (dp_fks fat), .tup (tof g4) (dp_fks gat), shaped_tup (lay_fks (keys_ok (ow.nm okt))) depth_fks, shaped_tup (lay_fks (keys_ok (ow'.nm okt))) depth_fks, by rw [eqv_tup eqv_fk]; exact q⟩
/-- agree -/
def spAgree (P : Program) (w : World) (C S : Addr) : Sp := fun vs H Q _ => ∃ (a b l p : Addr) (fs gs : List FRow) (ls : List LRow) (cs : List CRow) (ts : List TRow), vs = [.ref a, .ref b, .ref l] ∧ StoreAt P w H S a p fs ∧ StoreAt P w H S b p gs ∧ fs.length ≤ 10000 ∧ gs.length ≤ 10000 ∧ PlanAt H C p cs ts ∧ ColsOk H cs ∧ TabsOk H (cs.map (·.2.1)) ts ∧ OwnF cs ts fs ∧ OwnF cs ts gs ∧
  H l = some (.lst (ls.map lv)) ∧ (∀ x ∈ ls, LAt H x) ∧ (∀ x ∈ ls, ∃ r ∈ ts, LofT cs r x.2) ∧ ls.length ≤ 10000 ∧ ∀ H', Same H H' → Q (.bl (agreeB (keysF fs) (keysF gs) (ls.map (·.2)))) H'
abbrev nAgree : List Str := ["one", "other", "looks", "look"]
end
end As

/-! ## G31 -/
namespace As
open PySem PySem.Spec PyProof.Rows L2 TL
/-! settles, open_row -/
theorem factsT_mem {cs : List CRow} {r : TRow} {k : FK} (h : OfT cs r k) : k ∈ factsT cs r := by
  obtain ⟨ra, n, qa, ps⟩ := r
  obtain ⟨kn, kr⟩ := k
  obtain ⟨e, h⟩ := h
  dsimp only at e
  subst e
  unfold factsT firstN factsUp
  rcases h with ⟨c, v, e1, e2, h0, h1⟩ | ⟨c, d, v, o, e1, e2, ⟨h0, h1⟩, h2, h3⟩
  · dsimp only at e1 e2
    subst e1 e2
    exact List.mem_map.mpr ⟨v, ir_mem.mpr ⟨h0, show v < ((sizeI cs c).toNat : Int) by omega⟩, rfl⟩
  · dsimp only at e1 e2
    subst e1 e2
    exact List.mem_flatMap.mpr ⟨v, ir_mem.mpr ⟨h0, show v < ((sizeI cs c).toNat : Int) by omega⟩, List.mem_map.mpr ⟨o, ir_mem.mpr ⟨h2, show o < ((sizeI cs d).toNat : Int) by omega⟩, rfl⟩⟩
theorem lot_atR {cs : List CRow} {ss : List SRow} {rs : List Int} (h : rs ∈ rowsL (ss.map (lotOf cs))) : rs.length = ss.length ∧ ∀ (i : Nat) v s, rs[i]? = some v → ss[i]? = some s → v ∈ lotOf cs s :=
  ⟨by rw [rowsL_len _ h, List.length_map], fun i v s hv hs => rowsL_in _ h i v _ hv (by rw [List.getElem?_map, hs]; rfl)⟩
/-- no other store that agrees can differ at these facts: pr, those that stand; sn, those that are seen -/
def shutB (pr sn : FK → Bool) (ks : List FK) : Bool := if ks.all pr = true then ks.all sn else ks.any fun k => !pr k && sn k
theorem shutB_congr {pr pr' sn sn' : FK → Bool} {ks : List FK} (h : ∀ k ∈ ks, pr k = pr' k) (h2 : ∀ k ∈ ks, sn k = sn' k) : shutB pr sn ks = shutB pr' sn' ks := by
  have e : ∀ {f g : FK → Bool} {l : List FK}, (∀ k ∈ l, f k = g k) → l.all f = l.all g ∧ l.any f = l.any g := fun {f g l} h => by
    induction l with
    | nil => exact ⟨rfl, rfl⟩
    | cons x l ih =>
      have i := ih fun k hk => h k (List.mem_cons_of_mem _ hk)
      rw [List.all_cons, List.all_cons, List.any_cons, List.any_cons, h x List.mem_cons_self, i.1, i.2]
      exact ⟨rfl, rfl⟩
  unfold shutB
  rw [(e h).1, (e h2).1, (e (f := fun k => !pr k && sn k) (g := fun k => !pr' k && sn' k) fun k hk => by rw [h k hk, h2 k hk]).2]
theorem any_filter' {α : Type} {p q : α → Bool} {l : List α} : (l.filter p).any q = l.any fun x => p x && q x := by
  induction l with
  | nil => rfl
  | cons x l ih =>
    rw [List.filter_cons, List.any_cons]
    cases e : p x with
    | true => rw [if_pos rfl, List.any_cons, ih, Bool.true_and]
    | false => rw [if_neg Bool.false_ne_true, ih, Bool.false_and, Bool.false_or]
theorem filter_emp {α : Type} {p : α → Bool} {l : List α} : (l.filter fun x => !p x).isEmpty = l.all p := by
  induction l with
  | nil => rfl
  | cons x l ih =>
    rw [List.filter_cons, List.all_cons]
    cases e : p x with
    | true => rw [if_neg (by simp), ih, Bool.true_and]
    | false => rfl
theorem find_take {α : Type} {p : α → Bool} {x : α} : ∀ {xs : List α} {j : Nat}, (∀ y ∈ xs.take j, p y = false) → xs[j]? = some x → p x = true → xs.find? p = some x
  | [], _, _, h, _ => by simp at h
  | y :: ys, 0, _, h, px => by
    rw [List.getElem?_cons_zero] at h; cases h
    rw [List.find?_cons, px]
  | y :: ys, j + 1, a, h, px => by
    rw [List.find?_cons, a y (by rw [List.take_succ_cons]; exact List.mem_cons_self)]
    exact find_take (fun z hz => a z (by rw [List.take_succ_cons]; exact List.mem_cons_of_mem _ hz)) (by rwa [List.getElem?_cons_succ] at h) px
def openB (have_ : List FK) (ls : List LK) (ks : List FK) : Bool := !shutB (fun k => decide (k ∈ have_)) (seenL ls) ks
def openRows (cs : List CRow) (ss : List SRow) (ks : List KRow) (have_ : List FK) (ls : List LK) : List (List Int) := (rowsL (ss.map (lotOf cs))).filter fun r => openB have_ ls (rowK ss ks r r.length)
section
variable {P : Program} {w : World} {K : PySem.W.Frag} {mg : Str → Option Value} {base : Heap}
def shutN (us : List FRow) (es : List NEnt) (ks : List FK) : Bool := shutB (fun k => decide (k ∈ us.map (·.2.2))) (fun k => decide (fkN k ∈ es.map (·.1))) ks
def spShut (P : Program) (w : World) (K : PySem.W.Frag) : Sp := fun vs H Q _ => ∃ (fa d e : Addr) (fs us : List FRow) (es : List NEnt), vs = [.ref fa, .ref d, .ref e] ∧ SqT K H fa (fs.map fv) ∧ (∀ f ∈ fs, FAt H f) ∧ fs.length ≤ 10000 ∧ H d = some (NDict P w d (us.map fEnt)) ∧ (∀ f ∈ us, FAt H f) ∧ H e = some (NDict P w e es) ∧ KeysAt H es ∧
  ∀ H', Same H H' → Q (.bl (shutN us es (fs.map (·.2.2)))) H'
abbrev nShut : List Str := ["found", "present", "seen", "absent", "fact"]
theorem sc_shut : FnScope nShut ["found", "present", "seen"] (defScope s_is_shut) := ⟨rfl, rfl, rfl, by decide +kernel, rfl, by decide +kernel, by decide +kernel⟩
theorem ok_shut {f fab : Addr} {fd dab : FuncData} (D : Df K mg "is_shut" s_is_shut ["found", "present", "seen"] f fd) (T : Bi mg) (an : mg "any" = none)
    (Dab : Df K mg "absent_of" s_absent_of ["found", "present"] fab dab) (Gab : FnOk P w K mg base CX0 1 fab dab ["found", "present"] (spAbsent P w K)) : FnOk P w K mg base CX0 2 f fd ["found", "present", "seen"] (spShut P w K) := by
  refine D.F.ok sc_shut (fun vs H Q E h => ?_) (fun cdv A outer s H vs Q E hr h => ?_)
  · obtain ⟨fa, d, e, fs, us, es, rfl, _⟩ := h; rfl
  · obtain ⟨fa, d, e, fs, us, es, rfl, hf, fat, len, hd, ua, he, ka, q⟩ := h
    have hu := hu64 hr
    refine ⟨_, pss_cons (ps_set (i := 3) sc_shut.nd rfl (Or.inl rfl) (pcall Dab Gab hr (pa_cons (pv 0) (pa_cons (pv 1) pa_nil))))
      (pss_cons (ps_if (truK K (pv 3))
        (pss_one (ps_ret (pe_callB (cr_any rfl) (by rfl) an (by decide +kernel) (pa_cons (pe_lc (own := [("fact", 4)]) (g := gName 4) (tt := tYes) rfl sc_shut.nd (pi_list (pv 3)) (blkOk_by (N := nShut) (sc := defScope s_is_shut) (by decide +kernel)) (fun _ _ _ _ _ => pg_name (i := 4) sc_shut.nd rfl (Or.inl rfl)) (fun _ _ _ _ _ => pts_nil) (fun _ _ _ _ _ => pe_cmp (inNK P w hu (pv 4) (pv 2)))) pa_nil))))
        pss_nil)
      (pss_one (ps_ret (pe_callB (cr_all rfl) (by rfl) T.all (by decide +kernel) (pa_cons (pe_lc (own := [("fact", 4)]) (g := gName 4) (tt := tYes) rfl sc_shut.nd (piT (K := K) (pv 0)) (blkOk_by (N := nShut) (sc := defScope s_is_shut) (by decide +kernel)) (fun _ _ _ _ _ => pg_name (i := 4) sc_shut.nd rfl (Or.inl rfl)) (fun _ _ _ _ _ => pts_nil) (fun _ _ _ _ _ => pe_cmp (inNK P w hu (pv 4) (pv 2)))) pa_nil))))), ?_⟩
    refine ⟨_, rfl, _, rfl, fa, d, fs, us, rfl, hf, fat, len, hd, ua, fun t H1 s1 ht => ?_⟩
    refine ⟨_, rfl, _, .inl ⟨_, lof ht, rfl⟩, ?_⟩
    have emp : ((fs.filter fun f => !decide (f.2.2 ∈ us.map (·.2.2))).map fv).isEmpty = (fs.map (·.2.2)).all fun k => decide (k ∈ us.map (·.2.2)) := by
      rw [show ((fs.filter fun f => !decide (f.2.2 ∈ us.map (·.2.2))).map fv).isEmpty = (fs.filter fun f => !decide (f.2.2 ∈ us.map (·.2.2))).isEmpty by cases (fs.filter fun f => !decide (f.2.2 ∈ us.map (·.2.2))) <;> rfl]
      rw [filter_emp (p := fun f : FRow => decide (f.2.2 ∈ us.map (·.2.2))), List.all_map]; rfl
    rw [emp]
    have hd1 := s1 _ _ hd
    have he1 := s1 _ _ he
    have ka1 := ka.imm (same_imm s1)
    cases e2 : (fs.map (·.2.2)).all fun k => decide (k ∈ us.map (·.2.2)) with
    | false =>
      refine iteT ?_
      refine ⟨_, rfl, t, rfl, ⟨_, lof ht⟩, fun D nD => ?_⟩
      refine lc_fm (v := fv) (u := fun f : FRow => V.bl (decide (fkN f.2.2 ∈ es.map (·.1)))) (xs := fs.filter fun f => !decide (f.2.2 ∈ us.map (·.2.2))) (fun _ => true) walk_list nD (fun H e => lof (e _ _ ht)) (Nat.le_trans (List.length_filter_le _ _) len) (fun x H2 Q1 Q2 hx s2 k1 k2 => ?_) (fun H2 s2 hD2 => ?_)
      · refine ⟨rfl, iteT (B := Q2 H2) ⟨_, rfl, _, rfl, x.1, e, fkN x.2.2, es, rfl, rfl, key_f ((fat x (List.mem_filter.mp hx).1).imm (same_imm (s1.trans s2))), s2 _ _ he1, ka1.imm (same_imm s2), ?_⟩⟩
        rw [if_pos rfl, ndVal_key]
        exact k1 rfl _ (Same.refl _)
      · refine ⟨D, ((fs.filter fun f => !decide (f.2.2 ∈ us.map (·.2.2))).map fun f : FRow => decide (fkN f.2.2 ∈ es.map (·.1))), rfl, lof (by rw [hD2, List.filter_eq_self.mpr fun _ _ => rfl, List.map_map]; rfl), ?_⟩
        have e3 : (((fs.filter fun f => !decide (f.2.2 ∈ us.map (·.2.2))).map fun f : FRow => decide (fkN f.2.2 ∈ es.map (·.1))).any id) = shutN us es (fs.map (·.2.2)) := by
          unfold shutN shutB
          rw [if_neg (by rw [e2]; exact Bool.false_ne_true), List.any_map, any_filter', List.any_map]; rfl
        rw [e3]
        exact q _ (s1.trans s2)
    | true =>
      refine iteF ?_
      refine ⟨_, rfl, fa, rfl, ⟨_, same_t s1 hf⟩, fun D nD => ?_⟩
      refine lc_fm (v := fv) (u := fun f : FRow => V.bl (decide (fkN f.2.2 ∈ es.map (·.1)))) (xs := fs) (fun _ => true) walk_tup nD (fun H e => same_t (s1.trans e) hf) len (fun x H2 Q1 Q2 hx s2 k1 k2 => ?_) (fun H2 s2 hD2 => ?_)
      · refine ⟨rfl, iteT (B := Q2 H2) ⟨_, rfl, _, rfl, x.1, e, fkN x.2.2, es, rfl, rfl, key_f ((fat x hx).imm (same_imm (s1.trans s2))), s2 _ _ he1, ka1.imm (same_imm s2), ?_⟩⟩
        rw [if_pos rfl, ndVal_key]
        exact k1 rfl _ (Same.refl _)
      · refine ⟨D, (fs.map fun f : FRow => decide (fkN f.2.2 ∈ es.map (·.1))), rfl, lof (by rw [hD2, List.filter_eq_self.mpr fun _ _ => rfl, List.map_map]; rfl), ?_⟩
        have e3 : ((fs.map fun f : FRow => decide (fkN f.2.2 ∈ es.map (·.1))).all id) = shutN us es (fs.map (·.2.2)) := by
          unfold shutN shutB
          rw [if_pos e2, List.all_map, List.all_map]; rfl
        rw [e3]
        exact q _ (s1.trans s2)
/-- first_open -/
def spFirst (P : Program) (w : World) : Sp := fun vs H Q _ => ∃ (l d e : Addr) (xs : List XRow) (us : List FRow) (es : List NEnt), vs = [.ref l, .ref d, .ref e] ∧ H l = some (.lst (xs.map xv)) ∧ (∀ x ∈ xs, XAt H x ∧ x.2.2.2.2.length ≤ 10000) ∧ H d = some (NDict P w d (us.map fEnt)) ∧ (∀ f ∈ us, FAt H f) ∧ H e = some (NDict P w e es) ∧ KeysAt H es ∧
  ((xs.find? fun x => !shutN us es (x.2.2.2.2.map (·.2.2))) = none → ∀ H', Same H H' → Q .non H') ∧ (∀ x, (xs.find? fun x => !shutN us es (x.2.2.2.2.map (·.2.2))) = some x → ∀ t H', Same H H' → H' t = some (.tup [.ref x.2.1, .ref x.2.2.1]) → Q (.ref t) H')
abbrev nFirst : List Str := ["pairs", "present", "seen", "row", "found"]
theorem sc_first : FnScope nFirst ["pairs", "present", "seen"] (defScope s_first_open) := ⟨rfl, rfl, rfl, by decide +kernel, rfl, by decide +kernel, by decide +kernel⟩
theorem ok_first {f fsh : Addr} {fd dsh : FuncData} (D : Df K mg "first_open" s_first_open ["pairs", "present", "seen"] f fd)
    (Dsh : Df K mg "is_shut" s_is_shut ["found", "present", "seen"] fsh dsh) (Gsh : FnOk P w K mg base CX0 2 fsh dsh ["found", "present", "seen"] (spShut P w K)) : FnOk P w K mg base CX0 3 f fd ["pairs", "present", "seen"] (spFirst P w) := by
  refine D.F.ok sc_first (fun vs H Q E h => ?_) (fun cdv A outer s H vs Q E hr h => ?_)
  · obtain ⟨l, d, e, xs, us, es, rfl, _⟩ := h; rfl
  · obtain ⟨l, d, e, xs, us, es, rfl, hl, xa, hd, ua, he, ka, q1, q2⟩ := h
    refine ⟨_, pss_cons (ps_for PassesOwn.never rfl (pi_list (pv 0)) (pg_tup rfl (pgs_cons (pg_name (i := 3) sc_first.nd rfl (Or.inl rfl)) (pgs_cons (pg_name (i := 4) sc_first.nd rfl (Or.inl rfl)) pgs_nil)))
        (pss_one (ps_if (pt_not (pt_val (pcall Dsh Gsh hr (pa_cons (pv 4) (pa_cons (pv 1) (pa_cons (pv 2) pa_nil))))))
          (pss_one (ps_ret (pe_tup (pa_cons (pv 3) (pa_cons (pv 4) pa_nil)))))
          pss_nil)))
      (pss_one (ps_ret pe_non)), ?_⟩
    refine ⟨_, rfl, l, rfl, ⟨_, lof hl⟩, for_list (K := K) (a := l) (xs := xs.map xv) (fun j σ H' => (∃ x3 x4, σ = [some (.ref l), some (.ref d), some (.ref e), x3, x4]) ∧ Same H H' ∧ ∀ y ∈ xs.take j, (!shutN us es (y.2.2.2.2.map (·.2.2))) = false)
      ⟨⟨_, _, rfl⟩, Same.refl _, fun _ z => by simp at z⟩ (fun j σ H' _ ⟨_, s, _⟩ => lof (s _ _ hl)) ?_ ?_⟩
    · rintro j x σ H1 hx ⟨⟨x3, x4, rfl⟩, s1, no⟩
      rw [List.getElem?_map] at hx
      obtain ⟨y, hy, rfl⟩ := Option.map_eq_some_iff.mp hx
      have ym := List.mem_of_getElem? hy
      have xat := (xa y ym).1.imm (same_imm s1)
      refine ⟨y.1, _, rfl, tof xat.p, rfl, _, _, rfl, _, _, rfl, rfl, ?_⟩
      refine ⟨_, rfl, _, rfl, _, rfl, y.2.2.1, d, e, y.2.2.2.2, us, es, rfl, tof xat.f, xat.fa, (xa y ym).2, s1 _ _ hd, fun f hf => (ua f hf).imm (same_imm s1), s1 _ _ he, ka.imm (same_imm s1), fun H2 s2 => ⟨_, rfl, ?_⟩⟩
      show if (!shutN us es (y.2.2.2.2.map (·.2.2))) = true then _ else _
      cases e2 : !shutN us es (y.2.2.2.2.map (·.2.2)) with
      | true =>
        refine iteT ?_
        refine ⟨_, rfl, _, rfl, by show 2 ≤ sizeLine; decide, fun t nt => ?_⟩
        exact q2 y (find_take no hy e2) t _ (s1.trans (s2.trans (same_new nt))) upd_same
      | false =>
        refine iteF ⟨⟨_, _, rfl⟩, s1.trans s2, fun z hz => ?_⟩
        rw [List.take_succ, hy] at hz
        rcases List.mem_append.mp hz with hz | hz
        · exact no z hz
        · rw [Option.toList_some, List.mem_singleton] at hz; rw [hz]; exact e2
    · rintro σ H1 ⟨⟨x3, x4, rfl⟩, s1, no⟩
      refine q1 ?_ _ s1
      rw [List.length_map, List.take_length] at no
      exact List.find?_eq_none.mpr fun y hy => by rw [no y hy]; exact Bool.false_ne_true
end
end As

/-! ## G25 -/
namespace As
open PySem PySem.Spec PyProof.Rows L2 TL
/-! answer, Store.full -/
def ansL (cs : List CRow) (ss : List SRow) (ks : List KRow) (have_ : List FK) : List (List Int) := (rowsL (ss.map (lotOf cs))).filter fun r => (rowK ss ks r r.length).all fun k => decide (k ∈ have_)
theorem ansL_congr {cs : List CRow} {ss : List SRow} {ks : List KRow} {a b : List FK} (h : ∀ k, k ∈ a ↔ k ∈ b) : ansL cs ss ks a = ansL cs ss ks b := by
  unfold ansL
  congr 1; funext r; congr 1; funext k
  exact decide_eq_decide.mpr (h k)
section
variable {P : Program} {w : World} {K : PySem.W.Frag} {mg : Str → Option Value} {base : Heap}
def spAnswer (P : Program) (w : World) (C S : Addr) : Sp := fun vs H Q _ => ∃ (s p a : Addr) (fs : List FRow) (ss : List SRow) (ks : List KRow) (cs : List CRow) (ts : List TRow), vs = [.ref s, .ref a] ∧ StoreAt P w H S s p fs ∧ fs.length ≤ 10000 ∧ PlanAt H C p cs ts ∧ ColsOk H cs ∧ TabsOk H (cs.map (·.2.1)) ts ∧ AskAt H a ss ks ∧ AskOk cs ts ss ks ∧ rowsOf cs ss ≤ 5000 ∧
  ∀ t (ws : List WRow) H', Same H H' → H t = none → H' t = some (.lst (ws.map wv)) → (∀ r ∈ ws, WAt H' r) → ws.map (·.2) = ansL cs ss ks (keysF fs) → Q (.ref t) H'
abbrev nAnswer : List Str := ["store", "ask"]
/-- Store.full -/
def spFull (P : Program) (w : World) (C S : Addr) : Sp := fun vs H Q _ => ∃ (p : Addr) (cs : List CRow) (ts : List TRow), vs = [.ref S, .ref p] ∧ PlanAt H C p cs ts ∧ ColsOk H cs ∧ TabsOk H (cs.map (·.2.1)) ts ∧
  ∀ s fs H', Same H H' → StoreAt P w H' S s p fs → (∀ k, k ∈ keysF fs ↔ k ∈ (byName ts).flatMap (factsT cs)) → Q (.ref s) H'
end
end As

/-! ## G26 -/
namespace As
open PySem PySem.Spec PyProof.Rows L2 TL
open PySem.W (dataLe AllAlike Sortable dataLt alike alikeAll)
/-! the law's own rows and facts -/
theorem alike_strs : ∀ xs ys : List Str, alikeAll (xs.map .str) (ys.map .str) = true
  | [], ys => by simp [alikeAll]
  | x :: xs, [] => by simp [alikeAll]
  | x :: xs, y :: ys => by
    rw [List.map_cons, List.map_cons, alikeAll, alike_strs xs ys]; simp [alike]
theorem tab_all {β : Type} (k : β → Str × List Str) (bs : List β) : AllAlike (bs.map fun b => tabD (k b)) := fun d hd e he => by
  obtain ⟨a, _, rfl⟩ := List.mem_map.mp hd
  obtain ⟨b, _, rfl⟩ := List.mem_map.mp he
  simp [tabD, alike, alikeAll, alike_strs]
theorem tab_sortable {β : Type} (k : β → Str × List Str) (bs : List β) : Sortable (bs.map fun b => tabD (k b)) := .inl fun d hd => by
  obtain ⟨a, _, rfl⟩ := List.mem_map.mp hd
  exact ⟨_, _, rfl⟩
section
variable {P : Program} {w : World} {K : PySem.W.Frag} {mg : Str → Option Value} {base : Heap}
def spLAllRows : Sp := fun vs H Q _ => ∃ (t : Addr) (ls : List LList), vs = [.ref t] ∧ H t = some (.lst (ls.map lw)) ∧ (∀ l ∈ ls, LlAt H l ∧ 1 ≤ l.2.length) ∧ ls.length ≤ 8 ∧ lenL (ls.map (·.2)) ≤ 5000 ∧
  ∀ q (ws : List WRow) H', Same H H' → H q = none → H' q = some (.lst (ws.map wv)) → (∀ r ∈ ws, WAt H' r) → ws.map (·.2) = rowsL (ls.map (·.2)) → Q (.ref q) H'
abbrev nLallrows : List Str := ["lots", "found", "lot", "longer", "row", "value"]
theorem sc_lallrows : FnScope nLallrows ["lots"] (defScope s_lall_rows) := ⟨rfl, rfl, rfl, by decide +kernel, rfl, by decide +kernel, by decide +kernel⟩
set_option maxHeartbeats 4000000 in
theorem ok_lallrows {f : Addr} {fd : FuncData} (D : Df K mg "_law_all_rows" s_lall_rows ["lots"] f fd) : FnOk P w K mg base CX0 1 f fd ["lots"] spLAllRows := by
  refine D.F.ok sc_lallrows (fun vs H Q E h => ?_) (fun cdv A outer s H vs Q E hr h => ?_)
  · obtain ⟨t, ls, rfl, _⟩ := h; rfl
  · obtain ⟨t, ls, rfl, ht, la, l8, few, q⟩ := h
    refine ⟨_, pss_cons (ps_set (i := 1) sc_lallrows.nd rfl (Or.inl rfl) (pe_lst (pa_cons (pe_tup pa_nil) pa_nil)))
      (pss_cons (ps_for PassesOwn.never rfl (pi_list (pv 0)) (pg_name (i := 2) sc_lallrows.nd rfl (Or.inl rfl))
        (pss_cons (ps_set (i := 3) sc_lallrows.nd rfl (Or.inl rfl) (pe_lst pa_nil))
        (pss_cons (ps_for PassesOwn.never rfl (pi_list (pv 1)) (pg_name (i := 4) sc_lallrows.nd rfl (Or.inr rfl))
          (pss_one (ps_expr (pe_bm PySem.F.plainAttrs_list PySem.F.slot_list_extend PySem.F.type_list_extend mt_extend (pv 3) (pa_cons (pe_lc (own := [("value", 5)]) (g := gName 5) (tt := tYes) rfl sc_lallrows.nd (pi_list (pv 2)) (blkOk_by (N := nLallrows) (sc := defScope s_lall_rows) (by decide +kernel)) (fun _ _ _ _ _ => pg_name (i := 5) sc_lallrows.nd rfl (Or.inl rfl)) (fun _ _ _ _ _ => pts_nil) (fun _ _ _ _ _ => pe_op (catAK K) (pv 4) (pe_tup (pa_cons (pv 5) pa_nil)))) pa_nil)))))
        (pss_one (ps_set (i := 1) sc_lallrows.nd rfl (Or.inl rfl) (pv 3))))))
      (pss_one (ps_ret (pv 1)))), ?_⟩
    refine ⟨Nat.zero_le _, fun e1 n1 => ⟨by show 1 ≤ sizeLine; decide, fun l0 n2 => ?_⟩⟩
    have s1 : Same H (upd (upd H e1 (.tup [])) l0 (.lst [.ref e1])) := (same_new n1).trans (same_new n2)
    have h1 : (upd (upd H e1 (.tup [])) l0 (.lst [.ref e1])) l0 = some (.lst [.ref e1]) := upd_same
    have h2 : (upd (upd H e1 (.tup [])) l0 (.lst [.ref e1])) e1 = some (.tup []) := same_new n2 _ _ upd_same
    have nl0 : H l0 = none := (same_new n1).free n2
    generalize upd (upd H e1 (.tup [])) l0 (.lst [.ref e1]) = H1 at s1 h1 h2 ⊢
    have small : ∀ i, (rowsL ((ls.map (·.2)).take i)).length ≤ 5000 := fun i => by
      rw [rowsL_count]
      have h := lenL_take (ls := ls.map (·.2)) (fun l hl => by obtain ⟨z, hz, rfl⟩ := List.mem_map.mp hl; exact (la z hz).2) i
      omega
    have llm : (ls.map lw).length = ls.length := List.length_map _
    refine ⟨_, rfl, t, rfl, ⟨_, lof (s1 _ _ ht)⟩, for_list (K := K) (a := t) (xs := ls.map lw) (fun i σ H2 => ∃ (l : Addr) (ws : List WRow) (x2 x3 x4 x5 : Option V), σ = [some (.ref t), some (.ref l), x2, x3, x4, x5] ∧ Same H H2 ∧ H l = none ∧ H2 l = some (.lst (ws.map wv)) ∧ (∀ r ∈ ws, WAt H2 r) ∧ ws.map (·.2) = rowsL ((ls.map (·.2)).take i))
      ⟨l0, [(e1, [])], none, none, none, none, rfl, s1, nl0, h1, (fun r hr => by rw [List.mem_singleton.mp hr]; exact h2), rfl⟩ (fun i σ H2 _ ⟨_, _, _, _, _, _, _, s, _⟩ => lof (s _ _ ht)) ?_ ?_⟩
    · rintro i x σ H2 hx ⟨l, ws, x2, x3, x4, x5, rfl, s2, nl, hl, wa, kw⟩
      rw [List.getElem?_map] at hx
      obtain ⟨z, hz, rfl⟩ := Option.map_eq_some_iff.mp hx
      have zm := List.mem_of_getElem? hz
      have tk : (ls.map (·.2)).take (i + 1) = (ls.map (·.2)).take i ++ [z.2] := by rw [List.take_succ, List.getElem?_map, hz]; rfl
      have tot : (ws.flatMap fun x => z.2.map fun v => x.2 ++ [v]).length ≤ 5000 := by
        have h := small (i + 1)
        rw [tk, rowsL_snoc, ← kw, List.flatMap_map] at h
        exact h
      have wl : ws.length ≤ 5000 := by have h := small i; rw [← kw, List.length_map] at h; exact h
      have wrow : ∀ x ∈ ws, x.2.length ≤ 8 := fun x hx => by
        have h : x.2 ∈ rowsL ((ls.map (·.2)).take i) := by rw [← kw]; exact List.mem_map_of_mem hx
        rw [rowsL_len _ h, List.length_take, List.length_map]; omega
      refine ⟨Nat.zero_le _, fun g ng => ?_⟩
      have s3 : Same H2 (upd H2 g (.lst [])) := same_new ng
      have hg : (upd H2 g (.lst [])) g = some (.lst []) := upd_same
      have ngH : H g = none := s2.free ng
      have gl : l ≠ g := ne_of_none hl ng
      generalize upd H2 g (.lst []) = H3 at s3 hg ⊢
      have hl3 := s3 _ _ hl
      have wa3 : ∀ r ∈ ws, WAt H3 r := fun r hr => (wa r hr).imm (same_imm s3)
      have s23 := s2.trans s3
      have hz3 : H3 z.1 = some (.lst (z.2.map V.int)) := s23 _ _ (la z zm).1
      have zg : z.1 ≠ g := ne_of_none (la z zm).1 ngH
      have wml : (ws.map wv).length = ws.length := List.length_map _
      refine ⟨_, rfl, l, rfl, ⟨_, lof hl3⟩, for_list (K := K) (a := l) (xs := ws.map wv) (fun j σ H4 => ∃ (gs : List WRow) (y4 y5 : Option V), σ = [some (.ref t), some (.ref l), some (lw z), some (.ref g), y4, y5] ∧ Same (rem H3 g) H4 ∧ H4 g = some (.lst (gs.map wv)) ∧ (∀ r ∈ gs, WAt H4 r) ∧ gs.map (·.2) = (ws.take j).flatMap fun x => z.2.map fun v => x.2 ++ [v])
        ⟨[], _, _, rfl, same_rem, hg, (fun _ z => nomatch z), rfl⟩ (fun j σ H4 _ ⟨_, _, _, _, s4, _⟩ => lof (s4 _ _ (by rw [rem_ne gl]; exact hl3))) ?_ ?_⟩
      · rintro j y σ H4 hy ⟨gs, y4, y5, rfl, s4, hg4, ga, kg⟩
        rw [List.getElem?_map] at hy
        obtain ⟨x, hx, rfl⟩ := Option.map_eq_some_iff.mp hy
        have xm := List.mem_of_getElem? hx
        have hx4 : WAt H4 x := s4 _ _ (rem_tup hg (wa3 x xm))
        have hz4 : H4 z.1 = some (.lst (z.2.map V.int)) := s4 _ _ (by rw [rem_ne zg]; exact hz3)
        have tk2 : ws.take (j + 1) = ws.take j ++ [x] := by rw [List.take_succ, hx]; rfl
        have glen : gs.length + z.2.length ≤ 5000 := by
          have h := congrArg List.length kg
          rw [List.length_map] at h
          have e : ws = ws.take j ++ x :: ws.drop (j + 1) := by
            have hlt := (List.getElem?_eq_some_iff.mp hx).1
            have e2 := (List.getElem?_eq_some_iff.mp hx).2
            rw [← e2, ← List.drop_eq_getElem_cons hlt, List.take_append_drop]
          have h2 := tot
          rw [e, List.flatMap_append, List.flatMap_cons, List.length_append, List.length_append, List.length_map] at h2
          omega
        refine ⟨_, rfl, .inl ⟨rfl, _, lof hg4⟩, _, rfl, z.1, rfl, ⟨_, lof hz4⟩, fun D nD => ?_⟩
        have zml : (z.2.map V.int).length = z.2.length := List.length_map _
        refine lc_new (H1 := H4) (walk_at (K := K) (a := z.1) (xs := z.2.map V.int) .non) nD (fun H5 s5 => lof (s5 _ _ hz4)) (by rw [zml]; exact Nat.lt_of_le_of_lt (show z.2.length ≤ 5000 by omega) (by decide)) (fun k acc H' => ∃ hs : List WRow, acc = hs.map wv ∧ (∀ r ∈ hs, WAt H' r) ∧ hs.map (·.2) = (z.2.take k).map fun v => x.2 ++ [v])
          ⟨[], rfl, (fun _ z => nomatch z), rfl⟩ (fun k acc H H' im ⟨hs, e, fa, k'⟩ => ⟨hs, e, fun r hr => (fa r hr).imm im, k'⟩) (fun k H5 acc Q1 Q2 hk s5 ⟨hs, e, fa, k'⟩ k1 k2 => ?_) (fun H5 acc s5 hD5 ⟨hs, e, fa, k'⟩ => ?_)
        · subst e
          rw [zml] at hk
          have ev : (z.2.map V.int).getD k .non = .int z.2[k] := by rw [List.getD_eq_getElem?_getD, List.getElem?_map, List.getElem?_eq_getElem hk]; rfl
          rw [ev]
          have hx5 : WAt H5 x := s5 _ _ hx4
          refine ⟨rfl, ?_⟩
          refine iteT (B := Q2 H5) ?_
          refine ⟨_, rfl, _, rfl, by show 1 ≤ sizeLine; decide, fun t1 n1 => ?_⟩
          have u1 : Same H5 (upd H5 t1 (.tup [.int z.2[k]])) := same_new n1
          have g1 : (upd H5 t1 (.tup [.int z.2[k]])) t1 = some (.tup [.int z.2[k]]) := upd_same
          generalize upd H5 t1 (.tup [.int z.2[k]]) = H6 at u1 g1 ⊢
          have fin : ∀ (b : Addr) H7, Same H5 H7 → H7 b = some (.tup ((x.2 ++ [z.2[k]]).map V.int)) → Q1 (.ref b) H7 := fun b H7 s7 hb => k1 _ _ s7 ⟨hs ++ [(b, x.2 ++ [z.2[k]])], by rw [List.map_append]; rfl, fun r hr => by
            rcases List.mem_append.mp hr with hr | hr
            · exact (fa r hr).imm (same_imm s7)
            · rw [List.mem_singleton] at hr; subst hr; exact hb, by rw [List.map_append, k', List.take_succ, List.getElem?_eq_getElem hk, List.map_append]; rfl⟩
          refine ⟨x.1, t1, _, _, rfl, rfl, tof (u1 _ _ hx5), tof g1, Nat.le_trans (show _ ≤ 10 by rw [List.length_map, List.length_singleton]; have := wrow x xm; omega) (by decide), (fun e => ?_), (fun _ z => nomatch z), fun _ _ t2 n2 => ?_⟩
          · have e0 : x.2 = [] := List.map_eq_nil_iff.mp e
            exact fin t1 H6 u1 (by rw [e0]; exact g1)
          · exact fin t2 _ (u1.trans (same_new n2)) (by rw [upd_same, List.map_append]; rfl)
        · subst e
          rw [zml, List.take_length] at k'
          have hl' : hs.length = z.2.length := by have := congrArg List.length k'; rwa [List.length_map, List.length_map] at this
          have hg5 := s5 _ _ hg4
          refine ⟨g, D, gs.map wv, hs.map wv, rfl, rfl, hg5, hD5, ?_, ?_⟩
          · rw [List.length_map, List.length_map]; exact Nat.le_trans (show gs.length + hs.length ≤ 5000 by omega) (by decide)
          have im : Imm H5 (upd H5 g (.lst (gs.map wv ++ hs.map wv))) := imm_lst' hg5
          refine ⟨gs ++ hs, _, _, rfl, same_mut (s4.trans s5) rem_self, by rw [upd_same, List.map_append], fun r hr => ?_, by rw [List.map_append, kg, k', tk2, List.flatMap_append]; simp⟩
          rcases List.mem_append.mp hr with hr | hr
          · exact ((ga r hr).imm (same_imm s5)).imm im
          · exact (fa r hr).imm im
      · rintro σ H4 ⟨gs, y4, y5, rfl, s4, hg4, ga, kg⟩
        rw [wml, List.take_length] at kg
        have sH : Same H H4 := (same_into_rem s23 ngH).trans s4
        refine ⟨_, rfl, g, gs, _, _, _, _, rfl, sH, ngH, hg4, ga, ?_⟩
        rw [kg, tk, rowsL_snoc, ← kw, List.flatMap_map]
    · rintro σ H2 ⟨l, ws, x2, x3, x4, x5, rfl, s2, nl, hl, wa, kw⟩
      rw [llm, List.take_of_length_le (by rw [List.length_map]; exact Nat.le_refl _)] at kw
      exact ⟨_, rfl, q l ws H2 s2 nl hl wa kw⟩
def spLSome : Sp := fun vs H Q _ => ∃ (a c l : Addr) (fs : List FRow) (B : Hp), vs = [.ref a, .ref l] ∧ Gd a c B H ∧ B l = some (.lst (fs.map fv)) ∧ fs.length ≤ 10000 ∧
  ∀ t (gs : List FRow) B' H', Same B B' → Gd a c B' H' → B t = none → B' t = some (.lst (gs.map fv)) → (∀ g ∈ gs, g ∈ fs) → gs.length ≤ fs.length → Q (.ref t) H'
abbrev nLsome : List Str := ["state", "items", "bar", "item"]
theorem sc_lsome : FnScope nLsome ["state", "items"] (defScope s_lsome) := ⟨rfl, rfl, rfl, by decide +kernel, rfl, by decide +kernel, by decide +kernel⟩
theorem ok_lsome {f fpi fdr : Addr} {fd dpi ddr : FuncData} (D : Df K mg "_law_some" s_lsome ["state", "items"] f fd)
    (Dpi : Df K mg "_law_pick" s_pick ["state", "some"] fpi dpi) (Gpi : FnOk P w K mg base CX0 2 fpi dpi ["state", "some"] spPick)
    (Ddr : Df K mg "_law_draw" s_draw ["state", "many"] fdr ddr) (Gdr : FnOk P w K mg base CX0 1 fdr ddr ["state", "many"] spDraw) : FnOk P w K mg base CX0 3 f fd ["state", "items"] spLSome := by
  refine D.F.ok sc_lsome (fun vs H Q E h => ?_) (fun cdv A outer s H vs Q E hr h => ?_)
  · obtain ⟨a, c, l, fs, B, rfl, _⟩ := h; rfl
  · obtain ⟨a, c, l, fs, B, rfl, g, hl, len, q⟩ := h
    have hr1 : Room 1 _ := hr.mono (by decide)
    refine ⟨_, pss_cons (ps_set (i := 2) sc_lsome.nd rfl (Or.inr rfl) (pcall Dpi Gpi hr (pa_cons (pv 0) (pa_cons (pe_lst (pa_cons pe_int (pa_cons pe_int (pa_cons pe_int (pa_cons pe_int (pa_cons pe_int (pa_cons pe_int pa_nil))))))) pa_nil))))
      (pss_one (ps_ret (pe_lc (own := [("item", 3)]) (g := gName 3) (tt := tTest (tOp (rI0 fun i j => V.bl (decide (i < j))) (tCall spDraw [] E0 (tCons (tVar 0) (tCons (tC (.int 4)) tNil))) (tVar 2))) rfl sc_lsome.nd (pi_list (pv 1)) (blkOk_by (N := nLsome) (sc := defScope s_lsome) (by decide +kernel)) (fun _ _ _ _ _ => pg_name (i := 3) sc_lsome.nd rfl (Or.inl rfl)) (fun _ _ _ _ _ => pts_one (pt_cmpR op_lt (pcall Ddr Gdr hr1 (pa_cons (pv 0) (pa_cons pe_int pa_nil))) (pv 2) (nomark _))) (fun _ _ _ _ _ => pv 3)))), ?_⟩
    refine ⟨_, rfl, by show 6 ≤ sizeLine; decide, fun L nL => ⟨a, c, .ref L, rfl, (g.new nL).st, .inl ⟨L, _, rfl, g.ne_a nL, g.ne_c nL, upd_same, by show 0 < 6; decide, by show 6 < 1000000; decide, fun v H1 hv st1 fr1 => ?_⟩⟩⟩
    have g1 := (g.new nL).fr fr1 st1
    obtain ⟨u, rfl⟩ : ∃ u : Int, v = .int u := by
      simp only [List.mem_cons, List.not_mem_nil, or_false] at hv
      rcases hv with rfl | rfl | rfl | rfl | rfl | rfl <;> exact ⟨_, rfl⟩
    refine ⟨_, rfl, l, rfl, ⟨_, lof (g1.ex _ _ hl)⟩, fun D nD => ?_⟩
    have lm : (fs.map fv).length = fs.length := List.length_map _
    refine lc_draw (B := B) (H1 := H1) (a := a) (c := c) (walk_at (K := K) (a := l) (xs := fs.map fv) .non) g1 nD (fun B' H s gd => lof (gd.ex _ _ (s _ _ hl))) (by rw [lm]; exact Nat.lt_of_le_of_lt len (by decide))
      (fun i acc _ => ∃ gs : List FRow, acc = gs.map fv ∧ gs.length ≤ i ∧ ∀ x ∈ gs, x ∈ fs) ⟨[], rfl, Nat.le_refl _, fun _ z => nomatch z⟩ (fun _ _ _ _ h _ => h) (fun i acc _ ⟨zs, e, l, _⟩ => by rw [e, List.length_map]; exact l)
      (fun i H5 B5 acc Q1 Q2 hi s5 g5 p5 d5 k1 k2 => ?_) (fun H5 B5 acc s5 g5 d5 p5 => ?_)
    · obtain ⟨gs, rfl, lg, sub⟩ := p5
      rw [lm] at hi
      have ev : (fs.map fv).getD i .non = fv fs[i] := by rw [List.getD_eq_getElem?_getD, List.getElem?_map, List.getElem?_eq_getElem hi]; rfl
      rw [ev]
      refine ⟨rfl, ?_⟩
      refine ⟨_, rfl, a, c, 4, rfl, g5.st, by decide, by decide, fun r H6 r0 r1 st6 fr6 => ⟨_, rfl, r, u, rfl, rfl, _, rfl, ite2 (fun _ => ?_) (fun _ => ?_)⟩⟩
      · refine ⟨_, rfl, k1 _ _ B5 (Same.refl _) (g5.fr fr6 st6) ⟨gs ++ [fs[i]], by rw [List.map_append]; rfl, by rw [List.length_append]; exact Nat.succ_le_succ lg, fun x hx => ?_⟩⟩
        rcases List.mem_append.mp hx with hx | hx
        · exact sub x hx
        · rw [List.mem_singleton] at hx; rw [hx]; exact List.getElem_mem hi
      · exact k2 _ B5 (Same.refl _) (g5.fr fr6 st6) ⟨gs, rfl, Nat.le_succ_of_le lg, sub⟩
    · obtain ⟨gs, rfl, lg, sub⟩ := p5
      exact q D gs B5 H5 s5 g5 (g1.free nD) d5 sub (by omega)
end
end As

/-! ## G27 -/
namespace As
open PySem PySem.Spec PyProof.Rows L2 TL
open PySem.W (dataLe AllAlike Sortable dataLt alike alikeAll)
theorem rowsI_rowsL (ss : List Int) : rowsI ss = rowsL (ss.map fun s => ir s.toNat) := by
  refine rev_ind (P := fun ss => rowsI ss = rowsL (ss.map fun s => ir s.toNat)) rfl (fun ss s ih => ?_) ss
  rw [rowsI_snoc, List.map_append, List.map_singleton, rowsL_snoc, ih]
section
variable {P : Program} {w : World} {K : PySem.W.Frag} {mg : Str → Option Value} {base : Heap}
def spLAllFacts : Sp := fun vs H Q _ => ∃ (cl tb : Addr) (cs : List CRow) (ts : List TRow), vs = [.ref cl, .ref tb] ∧ H cl = some (.lst (cs.map cv)) ∧ ColsOk H cs ∧ H tb = some (.lst (ts.map tv)) ∧ TabsOk H (cs.map (·.2.1)) ts ∧
  ∀ q (fs : List FRow) (ts2 : List TRow) H', Same H H' → H q = none → H' q = some (.lst (fs.map fv)) → (∀ f ∈ fs, FAt H' f) → ts2.Perm ts → fs.map (·.2.2) = ts2.flatMap (factsT cs) → Q (.ref q) H'
abbrev nLallfacts : List Str := ["columns", "tables", "sizes", "found", "label", "sides", "row", "side"]
theorem sc_lallfacts : FnScope nLallfacts ["columns", "tables"] (defScope s_lall_facts) := ⟨rfl, rfl, rfl, by decide +kernel, rfl, by decide +kernel, by decide +kernel⟩
set_option maxHeartbeats 4000000 in
theorem ok_lallfacts {f flar : Addr} {fd dlar : FuncData} (D : Df K mg "_law_all_facts" s_lall_facts ["columns", "tables"] f fd) (T : Bi mg)
    (Dlar : Df K mg "_law_all_rows" s_lall_rows ["lots"] flar dlar) (Glar : FnOk P w K mg base CX0 1 flar dlar ["lots"] spLAllRows) : FnOk P w K mg base CX0 2 f fd ["columns", "tables"] spLAllFacts := by
  refine D.F.ok sc_lallfacts (fun vs H Q E h => ?_) (fun cdv A outer s H vs Q E hr h => ?_)
  · obtain ⟨cl, tb, cs, ts, rfl, _⟩ := h; rfl
  · obtain ⟨cl, tb, cs, ts, rfl, hcl, okc, htb, okt, q⟩ := h
    refine ⟨_, pss_cons (ps_asg (pe_tup (pa_cons (pe_callTy (call_dictP rfl) (by rfl) T.dict (by decide +kernel) (pa_cons (pv 0) pa_nil)) (pa_cons (pe_lst pa_nil) pa_nil))) (pg_tup rfl (pgs_cons (pg_name (i := 2) sc_lallfacts.nd rfl (Or.inr rfl)) (pgs_cons (pg_name (i := 3) sc_lallfacts.nd rfl (Or.inl rfl)) pgs_nil))))
      (pss_cons (ps_for PassesOwn.never rfl (pi_list (pe_callB (cr_sortedD (hu64 hr)) (by rfl) T.sorted (by decide +kernel) (pa_cons (pv 1) pa_nil))) (pg_tup rfl (pgs_cons (pg_name (i := 4) sc_lallfacts.nd rfl (Or.inr rfl)) (pgs_cons (pg_name (i := 5) sc_lallfacts.nd rfl (Or.inl rfl)) pgs_nil)))
        (pss_one (ps_expr (pe_bm PySem.F.plainAttrs_list PySem.F.slot_list_extend PySem.F.type_list_extend mt_extend (pv 3) (pa_cons (pe_lc (own := [("row", 6)]) (g := gName 6) (tt := tYes) rfl sc_lallfacts.nd (pi_list (pcall Dlar Glar hr (pa_cons (pe_lc (own := [("side", 7)]) (g := gName 7) (tt := tYes) rfl sc_lallfacts.nd (pi_tup (pv 5)) (blkOk_by (N := nLallfacts) (sc := defScope s_lall_facts) (by decide +kernel)) (fun _ _ _ _ _ => pg_name (i := 7) sc_lallfacts.nd rfl (Or.inl rfl)) (fun _ _ _ _ _ => pts_nil) (fun _ _ _ _ _ => pe_listRg rfl (by rfl) T.list (prg_1 (by rfl) T.range (pe_dget (hu_of hr) (pv 2) (pv 7) (fun _ _ => rfl))))) pa_nil))) (blkOk_by (N := nLallfacts) (sc := defScope s_lall_facts) (by decide +kernel)) (fun _ _ _ _ _ => pg_name (i := 6) sc_lallfacts.nd rfl (Or.inl rfl)) (fun _ _ _ _ _ => pts_nil) (fun _ _ _ _ _ => pe_tup (pa_cons (pv 4) (pa_cons (pv 6) pa_nil)))) pa_nil)))))
      (pss_one (ps_ret (pv 3)))), ?_⟩
    refine ⟨_, rfl, cl, cs.map (·.1), colsD cs, rfl, lof (by rw [cols_refs]; exact hcl), cols_pairs okc, fun sz nsz => ?_⟩
    rw [mergeK_cols okc]
    have s1 : Same H (upd H sz (.dK (colsD cs))) := same_new nsz
    have hz1 : (upd H sz (.dK (colsD cs))) sz = some (.dK (colsD cs)) := upd_same
    generalize upd H sz (.dK (colsD cs)) = H1 at s1 hz1 ⊢
    refine ⟨Nat.zero_le _, fun g ng => ?_⟩
    have ngH : H g = none := s1.free ng
    have s2 : Same H1 (upd H1 g (.lst [])) := same_new ng
    have hg2 : (upd H1 g (.lst [])) g = some (.lst []) := upd_same
    have zg : sz ≠ g := ne_of_none hz1 ng
    generalize upd H1 g (.lst []) = H2 at s2 hg2 ⊢
    refine ⟨by show 2 ≤ sizeLine; decide, fun t nt => ⟨t, _, rfl, tof upd_same, rfl, _, _, rfl, _, _, rfl, rfl, ?_⟩⟩
    have s3 : Same H2 (upd H2 t (.tup [V.ref sz, V.ref g])) := same_new nt
    have hg3 := s3 _ _ hg2
    have hz3 := s3 _ _ (s2 _ _ hz1)
    have sH3 := s1.trans (s2.trans s3)
    generalize upd H2 t (.tup [V.ref sz, V.ref g]) = H3 at s3 hg3 hz3 sH3 ⊢
    clear s1 s2 s3 hg2 hz1 nt nsz ng
    refine ⟨_, rfl, TRow, tb, ts, tv, (fun r => tabD (tkey r)), rfl, lof (sH3 _ _ htb), (fun r hr => ⟨.tup (tof (sH3 _ _ (okt.row r hr))) (.cons (.str _) (.cons (.tup (tof (sH3 _ _ (okt.prt r hr))) dp_strs) .nil)), ?_⟩), tab_all _ _, tab_sortable _ _, fun so nso => ?_⟩
    · show (tabD (tkey r)).depth ≤ 60
      simp only [tabD, PyData.depth, PyData.depthAll, strs_depth]; omega
    obtain ⟨ts2, ets⟩ : ∃ ts2, ts.mergeSort (dataLe false fun r => tabD (tkey r)) = ts2 := ⟨_, rfl⟩
    have pm : ts2.Perm ts := ets ▸ List.mergeSort_perm _ _
    rw [ets]
    have s4 : Same H3 (upd H3 so (.lst (ts2.map tv))) := same_new nso
    have hso : (upd H3 so (.lst (ts2.map tv))) so = some (.lst (ts2.map tv)) := upd_same
    have gso : so ≠ g := (ne_of_none hg3 nso).symm
    have hg4 := s4 _ _ hg3
    have hz4 := s4 _ _ hz3
    have sH4 := sH3.trans s4
    generalize upd H3 so (.lst (ts2.map tv)) = H4 at s4 hso hg4 hz4 sH4 ⊢
    clear s4 sH3 hg3 hz3 nso
    have tlm : (ts2.map tv).length = ts2.length := List.length_map _
    have fin8 : ts2.length ≤ 8 := by rw [pm.length_eq]; exact okt.len.2
    have fmax := facts_max okc okt
    have tot : (ts2.flatMap (factsT cs)).length ≤ 1000 := by rw [(List.Perm.flatMap_right (factsT cs) pm).length_eq]; exact fmax
    refine ⟨so, rfl, ⟨_, lof hso⟩, for_list (K := K) (a := so) (xs := ts2.map tv) (fun i σ H' => ∃ (fs : List FRow) (x4 x5 x6 x7 : Option V), σ = [some (.ref cl), some (.ref tb), some (.ref sz), some (.ref g), x4, x5, x6, x7] ∧ Same (rem H4 g) H' ∧ H' g = some (.lst (fs.map fv)) ∧ (∀ f ∈ fs, FAt H' f) ∧ fs.map (·.2.2) = (ts2.take i).flatMap (factsT cs))
      ⟨[], _, _, _, _, rfl, same_rem, hg4, (fun _ z => nomatch z), rfl⟩ (fun i σ H' _ ⟨_, _, _, _, _, _, s', _⟩ => lof (s' _ _ (by rw [rem_ne gso]; exact hso))) ?_ ?_⟩
    · rintro i x σ H5 hx ⟨fs, x4, x5, x6, x7, rfl, s5, hg5, fa, kf⟩
      rw [List.getElem?_map] at hx
      obtain ⟨r, hr2, rfl⟩ := Option.map_eq_some_iff.mp hx
      have rm : r ∈ ts := pm.mem_iff.mp (List.mem_of_getElem? hr2)
      have tk : ts2.take (i + 1) = ts2.take i ++ [r] := by rw [List.take_succ, hr2]; rfl
      have sH5 : Same H H5 := (same_into_rem sH4 ngH).trans s5
      have hz5 : H5 sz = some (.dK (colsD cs)) := s5 _ _ (by rw [rem_ne zg]; exact hz4)
      refine ⟨r.1, _, rfl, tof (sH5 _ _ (okt.row r rm)), rfl, _, _, rfl, _, _, rfl, rfl, ?_⟩
      refine ⟨_, rfl, .inl ⟨rfl, _, lof hg5⟩, ?_⟩
      have hp5 := sH5 _ _ (okt.prt r rm)
      have plm : (r.2.2.2.map V.str).length = r.2.2.2.length := List.length_map _
      have two := okt.two r rm
      refine ⟨_, rfl, r.2.2.1, rfl, ⟨_, tof hp5⟩, fun D nD => ?_⟩
      refine lc_it (walk_tup (K := K) (a := r.2.2.1) (xs := r.2.2.2.map V.str)) (fun j H' => ∃ ls : List LList, Same H5 H' ∧ H' D = some (.lst (ls.map lw)) ∧ (∀ l ∈ ls, l.1 ≠ D ∧ LlAt H' l) ∧ ls.map (·.2) = (r.2.2.2.take j).map fun c => ir (sizeI cs c).toNat) ⟨[], same_new nD, upd_same, (fun _ z => nomatch z), rfl⟩ (fun j H' _ ⟨_, s', _⟩ => tof (s' _ _ hp5))
        (fun j y Ha Hb hj ⟨ls, sa, hDa, la, key⟩ y2 => ?_) (fun H6 ⟨ls, s6, hD6, la, key⟩ => ?_)
      · obtain ⟨rfl, hy⟩ := y2
        rw [List.getElem?_map] at hy
        obtain ⟨c, hc, rfl⟩ := Option.map_eq_some_iff.mp hy
        have cm := okt.own r rm c (List.mem_of_getElem? hc)
        have vz := valV_sz okc cm
        have g1 := DGet.k (k := Sum.inr c) (sa _ _ hz5)
        rw [vz.1] at g1
        refine ⟨rfl, ?_⟩
        refine iteT (B := False) ?_
        refine ⟨_, rfl, _, rfl, sz, .int (sizeI cs c), rfl, g1, _, rfl, ⟨by decide, by decide, by omega, by omega, Nat.le_trans (show (sizeI cs c - 0).toNat ≤ 6 by omega) (by decide)⟩, fun e ne => ?_⟩
        have er : rgV 0 (sizeI cs c) = (ir (sizeI cs c).toNat).map V.int := by
          unfold rgV; rw [Int.sub_zero]; exact rngV_ir _
        rw [er]
        have eD : e ≠ D := fun z => by rw [z, hDa] at ne; cases ne
        have se : Same Hb (upd Hb e (.lst ((ir (sizeI cs c).toNat).map V.int))) := same_new ne
        have lln : ls.length ≤ 2 := by
          have h := congrArg List.length key
          rw [List.length_map, List.length_map, List.length_take] at h
          omega
        refine ⟨ls.map lw, se _ _ hDa, by rw [List.length_map]; exact Nat.lt_of_le_of_lt lln (by decide), ls ++ [(e, ir (sizeI cs c).toNat)], same_mut (sa.trans se) nD, by rw [upd_same, List.map_append]; rfl, fun l hl => ?_, by rw [List.map_append, key, List.take_succ, hc, List.map_append]; rfl⟩
        rcases List.mem_append.mp hl with hl | hl
        · refine ⟨(la l hl).1, ?_⟩
          show upd _ D _ l.1 = _
          rw [upd_ne (la l hl).1]; exact se _ _ (la l hl).2
        · rw [List.mem_singleton] at hl; subst hl
          refine ⟨eD, ?_⟩
          show upd _ D _ e = _
          rw [upd_ne eD]; exact upd_same
      rw [plm, List.take_length] at key
      have llen : ls.length = r.2.2.2.length := by have := congrArg List.length key; rwa [List.length_map, List.length_map] at this
      have keyI : ls.map (·.2) = (spanI cs r).map fun s => ir s.toNat := by rw [key]; unfold spanI; rw [List.map_map]; rfl
      have frow : factsT cs r = (rowsL (ls.map (·.2))).map fun row => (r.2.1, row) := by rw [factsT_rows okt rm, rowsI_rowsL, keyI]
      have fpart : fs.length + (factsT cs r).length ≤ 1000 := by
        have h := congrArg List.length kf
        rw [List.length_map] at h
        have e : ts2 = ts2.take i ++ r :: ts2.drop (i + 1) := by
          have hlt := (List.getElem?_eq_some_iff.mp hr2).1
          have e2 := (List.getElem?_eq_some_iff.mp hr2).2
          rw [← e2, ← List.drop_eq_getElem_cons hlt, List.take_append_drop]
        have h2 := tot
        rw [e, List.flatMap_append, List.flatMap_cons, List.length_append, List.length_append] at h2
        omega
      have lone : ∀ l ∈ ls, 1 ≤ l.2.length := fun l hl => by
        have hm : l.2 ∈ r.2.2.2.map fun c => ir (sizeI cs c).toNat := by rw [← key]; exact List.mem_map_of_mem hl
        obtain ⟨c, hc, e⟩ := List.mem_map.mp hm
        have := (valV_sz okc (okt.own r rm c hc)).2
        rw [← e, ir_len]; omega
      have cnt : lenL (ls.map (·.2)) ≤ 1000 := by
        rw [← rowsL_count]
        have h := congrArg List.length frow
        rw [List.length_map] at h
        omega
      refine ⟨D, ls, rfl, hD6, fun l hl => ⟨(la l hl).2, lone l hl⟩, by omega, by omega, fun qa ws H7 s7 nq hq wa kw => ?_⟩
      have s57 := s6.trans s7
      refine ⟨qa, rfl, ⟨_, lof hq⟩, fun D2 nD2 => ?_⟩
      have wml : (ws.map wv).length = ws.length := List.length_map _
      have wlen : ws.length = (factsT cs r).length := by
        have h := congrArg List.length kw
        rw [List.length_map] at h
        rw [h, frow, List.length_map]
      refine lc_new (H1 := H7) (walk_at (K := K) (a := qa) (xs := ws.map wv) .non) nD2 (fun H5 s5 => lof (s5 _ _ hq)) (by rw [wml]; exact Nat.lt_of_le_of_lt (show ws.length ≤ 1000 by omega) (by decide)) (fun k acc H' => ∃ hs : List FRow, acc = hs.map fv ∧ (∀ f ∈ hs, FAt H' f) ∧ hs.map (·.2.2) = (ws.take k).map fun x => ((r.2.1, x.2) : FK))
        ⟨[], rfl, (fun _ z => nomatch z), rfl⟩ (fun k acc H H' im ⟨hs, e, fa, k'⟩ => ⟨hs, e, fun r hr => (fa r hr).imm im, k'⟩) (fun k H8 acc Q1 Q2 hk s8 ⟨hs, e, fa, k'⟩ k1 k2 => ?_) (fun H8 acc s8 hD8 ⟨hs, e, ha, k'⟩ => ?_)
      · subst e
        rw [wml] at hk
        have ev : (ws.map wv).getD k .non = wv ws[k] := by rw [List.getD_eq_getElem?_getD, List.getElem?_map, List.getElem?_eq_getElem hk]; rfl
        rw [ev]
        have hx8 : WAt H8 ws[k] := s8 _ _ (wa _ (List.getElem_mem hk))
        refine ⟨rfl, ?_⟩
        refine iteT (B := Q2 H8) ?_
        refine ⟨_, rfl, _, rfl, by show 2 ≤ sizeLine; decide, fun t1 n1 => ?_⟩
        refine k1 _ _ (same_new n1) ⟨hs ++ [(t1, (ws[k]).1, r.2.1, (ws[k]).2)], by rw [List.map_append]; rfl, fun f hf => ?_, by rw [List.map_append, k', List.take_succ, List.getElem?_eq_getElem hk, List.map_append]; rfl⟩
        rcases List.mem_append.mp hf with hf | hf
        · exact (fa f hf).imm (imm_new n1)
        · rw [List.mem_singleton] at hf; subst hf
          exact ⟨upd_same, same_new n1 _ _ hx8⟩
      · subst e
        rw [wml, List.take_length] at k'
        have hl' : hs.length = ws.length := by have := congrArg List.length k'; rwa [List.length_map, List.length_map] at this
        have hg8 := (s57.trans s8) _ _ hg5
        refine ⟨g, D2, fs.map fv, hs.map fv, rfl, rfl, hg8, hD8, ?_, ?_⟩
        · rw [List.length_map, List.length_map]; exact Nat.le_trans (show fs.length + hs.length ≤ 1000 by omega) (by decide)
        have im : Imm H8 (upd H8 g (.lst (fs.map fv ++ hs.map fv))) := imm_lst' hg8
        refine ⟨fs ++ hs, _, _, _, _, rfl, same_mut (s5.trans (s57.trans s8)) rem_self, by rw [upd_same, List.map_append], fun f hf => ?_, ?_⟩
        · rcases List.mem_append.mp hf with hf | hf
          · exact ((fa f hf).imm (same_imm (s57.trans s8))).imm im
          · exact (ha f hf).imm im
        · rw [List.map_append, kf, k', tk, List.flatMap_append, List.flatMap_cons, List.flatMap_nil, List.append_nil, frow, ← kw, List.map_map]; rfl
    · rintro σ H5 ⟨fs, x4, x5, x6, x7, rfl, s5, hg5, fa, kf⟩
      rw [tlm, List.take_length] at kf
      exact ⟨_, rfl, q g fs ts2 H5 ((same_into_rem sH4 ngH).trans s5) ngH hg5 fa pm kf⟩
def keepL (rows : List (List Int)) (ss : List SRow) (ks : List KRow) (have_ : List FK) : List (List Int) := rows.filter fun r => (rowK ss ks r r.length).all fun k => decide (k ∈ have_)
/-- the entries of a dict of facts -/
theorem ndAll_f : ∀ {gs fs : List FRow}, (gs.map fEnt).foldl (fun acc e => ndPut acc e.1 e.2.1 e.2.2) (fs.map fEnt) = (gs.foldl fNew fs).map fEnt
  | [], fs => rfl
  | g :: gs, fs => by
    rw [List.map_cons, List.foldl_cons, List.foldl_cons]
    show List.foldl _ (ndPut (fs.map fEnt) (fkN g.2.2) g.1 (.bl true)) _ = _
    rw [ndPut_f]
    exact ndAll_f
theorem pairs_f {K : PySem.W.Frag} {H : Hp} : ∀ {ps : List (Addr × FRow)}, (∀ p ∈ ps, H p.1 = some (.tup [fv p.2, .bl true])) → Paired (fun p (e : NEnt) => SqT K H p [.ref e.2.1, e.2.2]) (ps.map (·.1)) (ps.map fun p => fEnt p.2)
  | [], _ => .nil
  | p :: ps, h => .cons (tof (h p List.mem_cons_self)) (pairs_f fun q hq => h q (List.mem_cons_of_mem _ hq))
end
end As

/-! ## G33 -/
namespace As
open PySem PySem.Spec PyProof.Rows L2 TL
open PySem.W (dataLe AllAlike Sortable dataLt alike alikeAll)
/-! the law's looks -/
section
variable {P : Program} {w : World} {K : PySem.W.Frag} {mg : Str → Option Value} {base : Heap}
def spLAllLooks : Sp := fun vs H Q _ => ∃ (cl tb : Addr) (cs : List CRow) (ts : List TRow), vs = [.ref cl, .ref tb] ∧ H cl = some (.lst (cs.map cv)) ∧ ColsOk H cs ∧ H tb = some (.lst (ts.map tv)) ∧ TabsOk H (cs.map (·.2.1)) ts ∧
  ∀ q (ls : List LRow) (ts2 : List TRow) H', Same H H' → H q = none → H' q = some (.lst (ls.map lv)) → (∀ l ∈ ls, LAt H' l) → ts2.Perm ts → ls.map (·.2) = ts2.flatMap (looksT cs) → Q (.ref q) H'
abbrev nLallLooks : List Str := ["columns", "tables", "sizes", "found", "label", "sides", "side", "value"]
theorem sc_lalooks : FnScope nLallLooks ["columns", "tables"] (defScope s_lall_looks) := ⟨rfl, rfl, rfl, by decide +kernel, rfl, by decide +kernel, by decide +kernel⟩
set_option maxHeartbeats 4000000 in
theorem ok_lalooks {f : Addr} {fd : FuncData} (D : Df K mg "_law_all_looks" s_lall_looks ["columns", "tables"] f fd) (T : Bi mg) : FnOk P w K mg base CX0 1 f fd ["columns", "tables"] spLAllLooks := by
  refine D.F.ok sc_lalooks (fun vs H Q E h => ?_) (fun cdv A outer s H vs Q E hr h => ?_)
  · obtain ⟨cl, tb, cs, ts, rfl, _⟩ := h; rfl
  · obtain ⟨cl, tb, cs, ts, rfl, hcl, okc, htb, okt, q⟩ := h
    refine ⟨_, pss_cons (ps_par (i := 2) (j := 3) rfl sc_lalooks.nd rfl rfl (by decide) rfl rfl (pa_cons (pe_callTy (call_dictP rfl) (by rfl) T.dict (by decide +kernel) (pa_cons (pv 0) pa_nil)) (pa_cons (pe_lst pa_nil) pa_nil)) (by rfl))
      (pss_cons (ps_for PassesOwn.never rfl (pi_list (pe_callB (cr_sortedD (hu64 hr)) (by rfl) T.sorted (by decide +kernel) (pa_cons (pv 1) pa_nil))) (pg_tup rfl (pgs_cons (pg_name (i := 4) sc_lalooks.nd rfl (Or.inr rfl)) (pgs_cons (pg_name (i := 5) sc_lalooks.nd rfl (Or.inl rfl)) pgs_nil)))
        (pss_one (ps_for PassesOwn.never rfl (pi_range1 rfl T.range (pa_cons (pe_callB call_len_seq (by rfl) T.len PySem.boot_len (pa_cons (pv 5) pa_nil)) pa_nil)) (pg_name (i := 6) sc_lalooks.nd rfl (Or.inr rfl))
          (pss_one (ps_expr (pe_bm PySem.F.plainAttrs_list PySem.F.slot_list_extend PySem.F.type_list_extend mt_extend (pv 3) (pa_cons (pe_lc (own := [("value", 7)]) (g := gName 7) (tt := tYes) rfl sc_lalooks.nd (pi_range1 rfl T.range (pa_cons (pe_dget (hu_of hr) (pv 2) (pe_ix ix_tup (pv 5) (pv 6) (fun _ _ => rfl)) (fun _ _ => rfl)) pa_nil)) (blkOk_by (N := nLallLooks) (sc := defScope s_lall_looks) (by decide +kernel)) (fun _ _ _ _ _ => pg_name (i := 7) sc_lalooks.nd rfl (Or.inl rfl)) (fun _ _ _ _ _ => pts_nil) (fun _ _ _ _ _ => pe_tup (pa_cons (pv 4) (pa_cons (pv 6) (pa_cons (pv 7) pa_nil))))) pa_nil)))))))
      (pss_one (ps_ret (pv 3)))), ?_⟩
    refine ⟨_, rfl, cl, cs.map (·.1), colsD cs, rfl, lof (by rw [cols_refs]; exact hcl), cols_pairs okc, fun sz nsz => ?_⟩
    rw [mergeK_cols okc]
    have s1 : Same H (upd H sz (.dK (colsD cs))) := same_new nsz
    have hz1 : (upd H sz (.dK (colsD cs))) sz = some (.dK (colsD cs)) := upd_same
    generalize upd H sz (.dK (colsD cs)) = H1 at s1 hz1 ⊢
    refine ⟨Nat.zero_le _, fun g ng => ⟨_, _, rfl, ?_⟩⟩
    have ngH : H g = none := s1.free ng
    have s2 : Same H1 (upd H1 g (.lst [])) := same_new ng
    have hg3 : (upd H1 g (.lst [])) g = some (.lst []) := upd_same
    have zg : sz ≠ g := ne_of_none hz1 ng
    have hz3 := s2 _ _ hz1
    have sH3 := s1.trans s2
    generalize upd H1 g (.lst []) = H3 at s2 hg3 hz3 sH3 ⊢
    clear s1 s2 hz1 nsz ng
    refine ⟨_, rfl, TRow, tb, ts, tv, (fun r => tabD (tkey r)), rfl, lof (sH3 _ _ htb), (fun r hr => ⟨.tup (tof (sH3 _ _ (okt.row r hr))) (.cons (.str _) (.cons (.tup (tof (sH3 _ _ (okt.prt r hr))) dp_strs) .nil)), ?_⟩), tab_all _ _, tab_sortable _ _, fun so nso => ?_⟩
    · show (tabD (tkey r)).depth ≤ 60
      simp only [tabD, PyData.depth, PyData.depthAll, strs_depth]; omega
    obtain ⟨ts2, ets⟩ : ∃ ts2, ts.mergeSort (dataLe false fun r => tabD (tkey r)) = ts2 := ⟨_, rfl⟩
    have pm : ts2.Perm ts := ets ▸ List.mergeSort_perm _ _
    rw [ets]
    have s4 : Same H3 (upd H3 so (.lst (ts2.map tv))) := same_new nso
    have hso : (upd H3 so (.lst (ts2.map tv))) so = some (.lst (ts2.map tv)) := upd_same
    have gso : so ≠ g := (ne_of_none hg3 nso).symm
    have hg4 := s4 _ _ hg3
    have hz4 := s4 _ _ hz3
    have sH4 := sH3.trans s4
    generalize upd H3 so (.lst (ts2.map tv)) = H4 at s4 hso hg4 hz4 sH4 ⊢
    clear s4 sH3 hg3 hz3 nso
    have tlm : (ts2.map tv).length = ts2.length := List.length_map _
    have le6 := sizeI_le okc
    have sB : Same H (rem H4 g) := same_into_rem sH4 ngH
    have hzB : (rem H4 g) sz = some (.dK (colsD cs)) := by rw [rem_ne zg]; exact hz4
    have hsoB : (rem H4 g) so = some (.lst (ts2.map tv)) := by rw [rem_ne gso]; exact hso
    have Bg : (rem H4 g) g = none := rem_self
    have sB4 : Same (rem H4 g) H4 := same_rem
    generalize rem H4 g = B at sB hzB hsoB Bg sB4
    refine ⟨so, rfl, ⟨_, lof hso⟩, for_list (K := K) (a := so) (xs := ts2.map tv) (fun i σ H' => ∃ (fs : List LRow) (x4 x5 x6 x7 : Option V), σ = [some (.ref cl), some (.ref tb), some (.ref sz), some (.ref g), x4, x5, x6, x7] ∧ Same B H' ∧ H' g = some (.lst (fs.map lv)) ∧ (∀ f ∈ fs, LAt H' f) ∧ fs.map (·.2) = (ts2.take i).flatMap (looksT cs))
      ⟨[], _, _, _, _, rfl, sB4, hg4, (fun _ z => nomatch z), rfl⟩ (fun i σ H' _ ⟨_, _, _, _, _, _, s', _⟩ => lof (s' _ _ hsoB)) ?_ ?_⟩
    · rintro i x σ H5 hx ⟨fs, x4, x5, x6, x7, rfl, s5, hg5, fa, kf⟩
      rw [List.getElem?_map] at hx
      obtain ⟨r, hr2, rfl⟩ := Option.map_eq_some_iff.mp hx
      have hi : i < ts2.length := (List.getElem?_eq_some_iff.mp hr2).1
      have hm : r ∈ ts := pm.mem_iff.mp (List.mem_of_getElem? hr2)
      have tk : ts2.take (i + 1) = ts2.take i ++ [r] := by rw [List.take_succ, hr2]; rfl
      obtain ⟨ra, n, qa, ps⟩ := r
      have sH5 := sB.trans s5
      have hrow := sH5 _ _ (okt.row _ hm)
      have hprt := okt.prt _ hm
      have htwo := okt.two _ hm
      have hown := okt.own _ hm
      dsimp only at hrow hprt htwo hown
      have fT : looksT cs (ra, n, qa, ps) = looksUp cs n ps ps.length := rfl
      have Llen : ((ts2.take i).flatMap (looksT cs)).length ≤ 12 * 8 := by
        have h1 := flat_len (f := looksT cs) (m := 12) (l := ts2.take i) fun x hx => by
          have h2 : (looksT cs x).length ≤ 6 * x.2.2.2.length := looksUp_len le6
          have h3 := (okt.two x (pm.mem_iff.mp (List.mem_of_mem_take hx))).2
          omega
        have h4 := List.length_take_le i ts2
        have h5 : ts2.length ≤ 8 := by rw [pm.length_eq]; exact okt.len.2
        have h6 : 12 * (ts2.take i).length ≤ 12 * 8 := Nat.mul_le_mul_left _ (by omega)
        omega
      refine ⟨ra, _, rfl, tof hrow, rfl, _, _, rfl, _, _, rfl, rfl, ?_⟩
      have psl : (ps.map V.str).length = ps.length := List.length_map _
      refine ⟨_, rfl, qa, _, rfl, .inr (tof (sH5 _ _ hprt)), _, rfl, Int.natCast_nonneg _, ?_, ?_⟩
      · rw [psl]; omega
      rw [psl]
      refine for_range (lo := 0) (n := ps.length) (fun j σ H2 => ∃ (fs : List LRow) (x6 x7 : Option V), σ = [some (.ref cl), some (.ref tb), some (.ref sz), some (.ref g), some (.str n), some (.ref qa), x6, x7] ∧ Same B H2 ∧
        H2 g = some (.lst (fs.map lv)) ∧ (∀ r ∈ fs, LAt H2 r) ∧ fs.map (·.2) = (ts2.take i).flatMap (looksT cs) ++ looksUp cs n ps j) ⟨fs, x6, x7, rfl, s5, hg5, fa, ?_⟩ ?_ ?_
      · rw [kf]; exact (List.append_nil _).symm
      · rintro j σ H2 hj ⟨fs, x6, x7, rfl, s2, hg2, fat, key⟩
        obtain ⟨d, hd⟩ : ∃ d, ps[j] = d := ⟨_, rfl⟩
        have dm : d ∈ ps := hd ▸ List.getElem_mem hj
        obtain ⟨vd, d1, d6⟩ := valV_sz okc (hown d dm)
        have flen : fs.length ≤ 12 * 8 + 6 * j := by
          have h1 : (fs.map (·.2)).length = fs.length := List.length_map _
          have h2 := looksUp_len (n := n) (ps := ps) (i := j) le6
          rw [key, List.length_append] at h1
          omega
        refine ⟨_, rfl, .inl ⟨rfl, _, lof hg2⟩, ?_⟩
        have g2 := DGet.k (k := Sum.inr d) (s2 _ _ hzB)
        rw [vd] at g2
        have hj2 : j < ps.length := hj
        refine ⟨_, rfl, _, rfl, _, rfl, qa, _, 0 + (j : Int), .str d, rfl, rfl, tof (s2 _ _ (sB _ _ hprt)), ?_, sz, .int (sizeI cs d), rfl, g2, sizeI cs d, rfl, by omega, by omega, fun D nD => ?_⟩
        · rw [Int.zero_add, atI_lt (by omega) (by rw [psl]; omega)]
          rw [show ((j : Int)).toNat = j from rfl, List.getElem?_map, List.getElem?_eq_getElem hj, hd]; rfl
        refine lc_new (H1 := H2) walk_range nD (fun _ _ => trivial) (Nat.lt_of_le_of_lt (show (sizeI cs d).toNat ≤ 6 by omega) (by decide)) (fun i acc H' => ∃ gs : List LRow, acc = gs.map lv ∧ (∀ r ∈ gs, LAt H' r) ∧ gs.map (·.2) = (ir i).map fun v => ((n, (j : Int), v) : LK))
          ⟨[], rfl, (fun _ z => nomatch z), rfl⟩ (fun i acc H H' im ⟨gs, e, fa, k⟩ => ⟨gs, e, fun r hr => (fa r hr).imm im, k⟩) (fun o H4 acc Q1 Q2 ho s4 ⟨gs, e, fa, k⟩ k1 k2 => ?_) (fun H4 acc s4 hD4 ⟨gs, e, fa, k⟩ => ?_)
        · rw [show (0 : Int) + (o : Nat) = (o : Nat) from Int.zero_add _]
          subst e
          refine ⟨rfl, ?_⟩
          refine iteT (B := Q2 H4) ?_
          refine ⟨_, rfl, _, rfl, _, rfl, by show 3 ≤ sizeLine; decide, fun t nt => ?_⟩
          refine k1 _ _ (same_new nt) ⟨gs ++ [(t, n, (j : Int), (o : Int))], ?_, fun x hx => ?_, ?_⟩
          · rw [List.map_append]; rfl
          · rcases List.mem_append.mp hx with hx | hx
            · exact (fa x hx).imm (imm_new nt)
            · rw [List.mem_singleton] at hx; subst hx
              show upd H4 t _ t = _
              rw [upd_same, Int.zero_add]
          · rw [List.map_append, k, ir_succ, List.map_append]; rfl
        · subst e
          have hg4 := s4 _ _ hg2
          have glen : gs.length ≤ 6 := by
            have h1 : (gs.map (·.2)).length = gs.length := List.length_map _
            rw [k, List.length_map, ir_len] at h1
            omega
          refine ⟨g, D, fs.map lv, gs.map lv, rfl, rfl, hg4, hD4, ?_, ?_⟩
          · rw [List.length_map, List.length_map]; exact Nat.le_trans (show fs.length + gs.length ≤ 1000 by omega) (by decide)
          have im : Imm H4 (upd H4 g (.lst (fs.map lv ++ gs.map lv))) := imm_lst' hg4
          refine ⟨fs ++ gs, _, _, rfl, same_mut (s2.trans s4) Bg, by rw [upd_same, List.map_append], fun x hx => ?_, ?_⟩
          · rcases List.mem_append.mp hx with hx | hx
            · exact ((fat x hx).imm (same_imm s4)).imm im
            · exact (fa x hx).imm im
          · rw [List.map_append, key, k, List.append_assoc, looksUp_succ, List.getD_eq_getElem?_getD, List.getElem?_eq_getElem hj, hd]; rfl
      · rintro σ H2 ⟨fs, x6, x7, rfl, s2, hg2, fat, key⟩
        refine ⟨fs, _, _, _, _, rfl, s2, hg2, fat, ?_⟩
        rw [key, tk, List.flatMap_append, List.flatMap_cons, List.flatMap_nil, List.append_nil, fT]
    · rintro σ H5 ⟨fs, x4, x5, x6, x7, rfl, s5, hg5, fa, kf⟩
      rw [tlm, List.take_length] at kf
      exact ⟨_, rfl, q g fs ts2 H5 (sB.trans s5) ngH hg5 fa pm kf⟩
end
end As

/-! ## G34 -/
namespace As
open PySem PySem.Spec PyProof.Rows L2 TL
open PySem.W (dataLe AllAlike Sortable dataLt alike alikeAll)
/-! the law's sight of facts -/
def tEither (t1 t2 : TT) : TT := fun σ H Q => t1 σ H Q ∨ t2 σ H Q
theorem pt_either {X : Cx} {e : Expr} {t1 t2 : TT} (h1 : PT X e t1) (h2 : PT X e t2) : PT X e (tEither t1 t2) :=
  ⟨fun pins s σ H Q I h => h.elim (fun q => h1.run pins s σ H Q I q) fun q => h2.run pins s σ H Q I q⟩
/-- looks, in a list or as the keys of a dict -/
def ViewsAt (P : Program) (w : World) (H : Hp) (v : Addr) (vs : List LK) : Prop := (∃ ls : List LRow, H v = some (.lst (ls.map lv)) ∧ (∀ l ∈ ls, LAt H l) ∧ (∀ l ∈ ls, PyData.strOk l.2.1 = true) ∧ ls.map (·.2) = vs) ∨
  ∃ es : List NEnt, H v = some (NDict P w v es) ∧ KeysAt H es ∧ ∀ k : LK, lkN k ∈ es.map (·.1) ↔ k ∈ vs
theorem ViewsAt.same {P : Program} {w : World} {H H' : Hp} {v : Addr} {vs : List LK} (h : ViewsAt P w H v vs) (e : Same H H') : ViewsAt P w H' v vs := by
  rcases h with ⟨ls, h1, h2, h3, h4⟩ | ⟨es, h1, h2, h3⟩
  · exact .inl ⟨ls, e _ _ h1, fun l hl => e _ _ (h2 l hl), h3, h4⟩
  · exact .inr ⟨es, e _ _ h1, h2.imm (same_imm e), h3⟩
theorem ne_any {α β : Type} {f : α → β} {p : β → Bool} {g : α → V} {xs : List α} : (!decide ((xs.filter fun x => p (f x)).map g = [])) = (xs.map f).any p := by
  induction xs with
  | nil => simp
  | cons x xs ih =>
    rw [List.filter_cons, List.map_cons, List.any_cons]
    cases e : p (f x) with
    | true => simp
    | false => rw [if_neg Bool.false_ne_true, ih]; rfl
theorem eq_all {α β : Type} {f : α → β} {p : β → Bool} {g : α → V} {xs : List α} : (decide ((xs.filter fun x => !p (f x)).map g = [])) = (xs.map f).all p := by
  induction xs with
  | nil => simp
  | cons x xs ih =>
    rw [List.filter_cons, List.map_cons, List.all_cons]
    cases e : p (f x) with
    | true => rw [if_neg (by simp), ih, Bool.true_and]
    | false => simp
section
variable {P : Program} {w : World} {K : PySem.W.Frag} {mg : Str → Option Value} {base : Heap}
def spLSeers : Sp := fun vs H Q _ => ∃ f : FRow, vs = [fv f] ∧ FAt H f ∧ f.2.2.2.length ≤ 2 ∧ ∀ p (ls : List LRow) H', Same H H' → H p = none → H' p = some (.lst (ls.map lv)) → (∀ l ∈ ls, LAt H' l) → ls.map (·.2) = sidesOf f.2.2 → Q (.ref p) H'
abbrev nLseers : List Str := ["fact", "side"]
theorem sc_lseers : FnScope nLseers ["fact"] (defScope s_lseers) := ⟨rfl, rfl, rfl, by decide +kernel, rfl, by decide +kernel, by decide +kernel⟩
theorem ok_lseers {f : Addr} {fd : FuncData} (D : Df K mg "_law_seers" s_lseers ["fact"] f fd) (T : Bi mg) : FnOk P w K mg base CX0 1 f fd ["fact"] spLSeers := by
  refine D.F.ok sc_lseers (fun vs H Q E h => ?_) (fun cdv A outer s H vs Q E hr h => ?_)
  · obtain ⟨r, rfl, _⟩ := h; rfl
  · obtain ⟨r, rfl, ⟨f1, f2⟩, l2, q⟩ := h
    refine ⟨_, pss_one (ps_ret (pe_lc (own := [("side", 1)]) (g := gName 1) (tt := tYes) rfl sc_lseers.nd (pi_range1 rfl T.range (pa_cons (pe_callB call_len_seq (by rfl) T.len PySem.boot_len (pa_cons (pe_ix (ixT K) (pv 0) pe_int (fun _ _ => rfl)) pa_nil)) pa_nil)) (blkOk_by (N := nLseers) (sc := defScope s_lseers) (by decide +kernel)) (fun _ _ _ _ _ => pg_name (i := 1) sc_lseers.nd rfl (Or.inl rfl)) (fun _ _ _ _ _ => pts_nil) (fun _ _ _ _ _ => pe_tup (pa_cons (pe_ix (ixT K) (pv 0) pe_int (fun _ _ => rfl)) (pa_cons (pv 1) (pa_cons (pe_ix (ixT K) (pe_ix (ixT K) (pv 0) pe_int (fun _ _ => rfl)) (pv 1) (fun _ _ => rfl)) pa_nil)))))), ?_⟩
    have vl : (r.2.2.2.map V.int).length = r.2.2.2.length := List.length_map _
    refine ⟨_, rfl, r.1, _, 1, .ref r.2.1, rfl, rfl, tof f1, rfl, r.2.1, _, rfl, .inr (tof f2), _, rfl, Int.natCast_nonneg _, by rw [vl]; omega, fun D nD => ?_⟩
    rw [vl]
    refine lc_new (H1 := H) walk_range nD (fun _ _ => trivial) (Nat.lt_of_le_of_lt l2 (by decide)) (fun i acc H' => ∃ gs : List LRow, acc = gs.map lv ∧ (∀ r ∈ gs, LAt H' r) ∧ gs.map (·.2) = sidesUp r.2.2 i)
      ⟨[], rfl, (fun _ z => nomatch z), rfl⟩ (fun i acc H H' im ⟨gs, e, fa, k⟩ => ⟨gs, e, fun r hr => (fa r hr).imm im, k⟩) (fun o H4 acc Q1 Q2 ho s4 ⟨gs, e, fa, k⟩ k1 k2 => ?_) (fun H4 acc s4 hD4 ⟨gs, e, fa, k⟩ => ?_)
    · subst e
      have ho2 : o < r.2.2.2.length := ho
      have g4 := s4 _ _ f1
      refine ⟨rfl, ?_⟩
      refine iteT (B := Q2 H4) ?_
      refine ⟨_, rfl, r.1, _, 0, .str r.2.2.1, rfl, rfl, tof g4, rfl, _, rfl, _, rfl, r.1, _, 1, .ref r.2.1, rfl, rfl, tof g4, rfl, _, rfl, r.2.1, _, 0 + (o : Int), .int r.2.2.2[o], rfl, rfl, tof (s4 _ _ f2), ?_, by show 3 ≤ sizeLine; decide, fun t nt => ?_⟩
      · rw [Int.zero_add, atI_lt (by omega) (by rw [vl]; omega)]
        rw [show ((o : Int)).toNat = o from rfl, List.getElem?_map, List.getElem?_eq_getElem ho2]; rfl
      refine k1 _ _ (same_new nt) ⟨gs ++ [(t, r.2.2.1, (o : Int), r.2.2.2[o])], by rw [List.map_append]; rfl, fun x hx => ?_, ?_⟩
      · rcases List.mem_append.mp hx with hx | hx
        · exact (fa x hx).imm (imm_new nt)
        · rw [List.mem_singleton] at hx; subst hx
          show upd H4 t _ t = _
          rw [upd_same, Int.zero_add]
      · rw [List.map_append, k, sidesUp_succ (List.getElem?_eq_getElem ho2)]; rfl
    · subst e
      exact q D gs H4 s4 nD hD4 fa k
/-- is_seen -/
def spLSeen (P : Program) (w : World) : Sp := fun vs H Q _ => ∃ (v : Addr) (f : FRow) (ws : List LK), vs = [.ref v, fv f] ∧ ViewsAt P w H v ws ∧ FAt H f ∧ f.2.2.2.length ≤ 2 ∧ PyData.strOk f.2.2.1 = true ∧ ∀ H', Same H H' → Q (.bl (seenL ws f.2.2)) H'
abbrev nLSeen : List Str := ["views", "fact", "look"]
theorem sc_lseen : FnScope nLSeen ["views", "fact"] (defScope s_lis_seen) := ⟨rfl, rfl, rfl, by decide +kernel, rfl, by decide +kernel, by decide +kernel⟩
theorem ok_lseen {f fse : Addr} {fd dse : FuncData} (D : Df K mg "_law_is_seen" s_lis_seen ["views", "fact"] f fd)
    (Dse : Df K mg "_law_seers" s_lseers ["fact"] fse dse) (Gse : FnOk P w K mg base CX0 1 fse dse ["fact"] spLSeers) : FnOk P w K mg base CX0 2 f fd ["views", "fact"] (spLSeen P w) := by
  refine D.F.ok sc_lseen (fun vs H Q E h => ?_) (fun cdv A outer s H vs Q E hr h => ?_)
  · obtain ⟨v, g, ws, rfl, _⟩ := h; rfl
  · obtain ⟨v, g, ws, rfl, va, fa, l2, nm, q⟩ := h
    have hu := hu64 hr
    have hu65 : (A.deeper (envOfC (Str.ofString "_law_is_seen") (defScope s_lis_seen) s.heap.objs.size f cdv)).units + 65 < cLine := by have := hr.un; omega
    refine ⟨_, pss_one (ps_ret (pe_cmpR (op_neD (hu64 hr)) (pe_lc (own := [("look", 2)]) (g := gName 2) (tt := tEither (tB (tInN P w true (tVar 2) (tVar 0))) (tTest (tOp (rInD K) (tVar 2) (tVar 0)))) rfl sc_lseen.nd (pi_list (pcall Dse Gse hr (pa_cons (pv 1) pa_nil))) (blkOk_by (N := nLSeen) (sc := defScope s_lis_seen) (by decide +kernel)) (fun _ _ _ _ _ => pg_name (i := 2) sc_lseen.nd rfl (Or.inl rfl))
        (fun _ _ _ _ _ => pts_one (pt_either (pt_cmp (inNK P w hu (pv 2) (pv 0))) (pt_cmpR (inDK K hu65) (pv 2) (pv 0) rfl))) (fun _ _ _ _ _ => pv 2)) (pe_lst pa_nil) (nomark _))), ?_⟩
    refine ⟨_, rfl, g, rfl, fa, l2, fun p js H1 s1 np hp ja key => ⟨p, rfl, ⟨_, lof hp⟩, fun D nD => ?_⟩⟩
    have jlen : js.length ≤ 10000 := by
      have h := congrArg List.length key
      rw [List.length_map, sides_lenK] at h
      omega
    have jnm : ∀ l ∈ js, PyData.strOk l.2.1 = true := fun l hl => by
      have h : l.2 ∈ sidesOf g.2.2 := by rw [← key]; exact List.mem_map_of_mem hl
      unfold sidesOf sidesUp at h
      obtain ⟨z, _, e⟩ := List.mem_map.mp h
      rw [← e]; exact nm
    refine lc_fm (v := lv) (u := lv) (xs := js) (fun x => decide (x.2 ∈ ws)) walk_list nD (fun H e => lof (e _ _ hp)) jlen (fun x H2 Q1 Q2 hx s2 k1 k2 => ?_) (fun H2 s2 hD2 => ?_)
    · have xat := (ja x hx).imm (same_imm s2)
      refine ⟨rfl, ?_⟩
      have fin : (if decide (x.2 ∈ ws) = true then tVar 2 [some (.ref v), some (fv g), some (lv x)] H2 Q1 else Q2 H2) := by
        cases e2 : decide (x.2 ∈ ws) with
        | true => exact iteT ⟨_, rfl, k1 e2 _ (Same.refl _)⟩
        | false => exact iteF (k2 e2 _ (Same.refl _))
      rcases va.same (s1.trans s2) with ⟨ls, h1, h2, h3, h4⟩ | ⟨es, h1, h2, h3⟩
      · refine .inr ⟨_, rfl, _, rfl, lkD x.2, (ls.map (·.2)).map lkD, dp_lk xat, .lst (lof h1) (dp_lks h2), ?_, shaped_lst (lay_lks fun k hk => ?_) depth_lks, ?_⟩
        · have g1 := lay_lk x.2 (jnm x hx)
          have g2 := lk_depth x.2
          show (PyData.canLay0 (lkD x.2) && decide (PyData.depth (lkD x.2) ≤ 64)) = true
          rw [g1, Bool.true_and]; exact decide_eq_true (by omega)
        · obtain ⟨z, hz, rfl⟩ := List.mem_map.mp hk
          exact h3 z hz
        · rw [any_lk, h4]
          exact ⟨_, rfl, fin⟩
      · refine .inl ⟨_, rfl, _, rfl, x.1, v, lkN x.2, es, rfl, rfl, key_l xat, h1, h2, _, rfl, ?_⟩
        rw [if_pos rfl, ndVal_key, show decide (lkN x.2 ∈ es.map (·.1)) = decide (x.2 ∈ ws) from decide_eq_decide.mpr (h3 _)]
        exact fin
    refine ⟨Nat.zero_le _, fun e ne => ?_⟩
    have s3 : Same H2 (upd H2 e (.lst [])) := same_new ne
    refine ne_nil (B := H2) (plain_lk (fun l hl => (ja l (List.mem_filter.mp hl).1).imm (same_imm s2)) fun l hl => jnm l (List.mem_filter.mp hl).1) s3 (s3 _ _ hD2) upd_same ?_
    rw [ne_any (f := fun x : LRow => x.2) (p := fun z => decide (z ∈ ws)), key]
    exact q _ (s1.trans (s2.trans s3))
/-- is_open -/
def spLOpen (P : Program) (w : World) : Sp := fun vs H Q _ => ∃ (d v c : Addr) (fs : List FRow) (es : List NEnt) (hv : List FK) (ws : List LK), vs = [.ref d, .ref v, .ref c] ∧ H d = some (NDict P w d es) ∧ KeysAt H es ∧ (∀ k : FK, fkN k ∈ es.map (·.1) ↔ k ∈ hv) ∧ ViewsAt P w H v ws ∧
  H c = some (.lst (fs.map fv)) ∧ (∀ f ∈ fs, FAt H f) ∧ (∀ f ∈ fs, f.2.2.2.length ≤ 2 ∧ PyData.strOk f.2.2.1 = true) ∧ fs.length ≤ 10000 ∧ ∀ H', Same H H' → Q (.bl (openB hv ws (fs.map (·.2.2)))) H'
abbrev nLOpen : List Str := ["present", "views", "claims", "absent", "fact"]
theorem sc_lopen : FnScope nLOpen ["present", "views", "claims"] (defScope s_lis_open) := ⟨rfl, rfl, rfl, by decide +kernel, rfl, by decide +kernel, by decide +kernel⟩
set_option maxHeartbeats 4000000 in
theorem ok_lopen {f fse : Addr} {fd dse : FuncData} (D : Df K mg "_law_is_open" s_lis_open ["present", "views", "claims"] f fd)
    (Dse : Df K mg "_law_is_seen" s_lis_seen ["views", "fact"] fse dse) (Gse : FnOk P w K mg base CX0 2 fse dse ["views", "fact"] (spLSeen P w)) : FnOk P w K mg base CX0 3 f fd ["present", "views", "claims"] (spLOpen P w) := by
  refine D.F.ok sc_lopen (fun vs H Q E h => ?_) (fun cdv A outer s H vs Q E hr h => ?_)
  · obtain ⟨d, v, c, fs, es, hv, ws, rfl, _⟩ := h; rfl
  · obtain ⟨d, v, c, fs, es, hv, ws, rfl, hd, ka, ke, va, hc, fat, fok, len, q⟩ := h
    have hu := hu64 hr
    refine ⟨_, pss_cons (ps_setLc (i := 3) (own := [("fact", 4)]) (g := gName 4) (tt := tB (tInN P w false (tVar 4) (tVar 0))) rfl sc_lopen.nd rfl rfl (sw_true rfl rfl rfl (by decide +kernel)) (pi_list (pv 2)) (blkOk_by (N := nLOpen) (sc := defScope s_lis_open) (by decide +kernel)) (fun _ _ _ _ _ => pg_name (i := 4) sc_lopen.nd rfl (Or.inl rfl)) (fun _ _ _ _ _ => pts_one (pt_cmp (notInNK P w hu (pv 4) (pv 0)))) (fun _ _ _ _ _ => pv 4))
      (pss_cons (ps_if (pt_cmpR (op_eqD hu) (pv 3) (pe_lst pa_nil) (nomark _))
        (pss_one (ps_ret (pe_cmpR (op_neD hu) (pe_lc (own := [("fact", 4)]) (g := gName 4) (tt := tNot (tB (tCall (spLSeen P w) [] E0 (tCons (tVar 1) (tCons (tVar 4) tNil))))) rfl sc_lopen.nd (pi_list (pv 2)) (blkOk_by (N := nLOpen) (sc := defScope s_lis_open) (by decide +kernel)) (fun _ _ _ _ _ => pg_name (i := 4) sc_lopen.nd rfl (Or.inl rfl)) (fun _ _ _ _ _ => pts_one (pt_not (pt_val (pcall Dse Gse hr (pa_cons (pv 1) (pa_cons (pv 4) pa_nil)))))) (fun _ _ _ _ _ => pv 4)) (pe_lst pa_nil) (nomark _))))
        pss_nil)
      (pss_one (ps_ret (pe_cmpR (op_eqD hu) (pe_lc (own := [("fact", 4)]) (g := gName 4) (tt := tB (tCall (spLSeen P w) [] E0 (tCons (tVar 1) (tCons (tVar 4) tNil)))) rfl sc_lopen.nd (pi_list (pv 3)) (blkOk_by (N := nLOpen) (sc := defScope s_lis_open) (by decide +kernel)) (fun _ _ _ _ _ => pg_name (i := 4) sc_lopen.nd rfl (Or.inl rfl)) (fun _ _ _ _ _ => pts_one (pt_val (pcall Dse Gse hr (pa_cons (pv 1) (pa_cons (pv 4) pa_nil))))) (fun _ _ _ _ _ => pv 4)) (pe_lst pa_nil) (nomark _))))), ?_⟩
    have jm : ∀ xs : List FRow, (∀ f ∈ xs, f ∈ fs) → ∀ H', Same H H' → ∀ x ∈ xs.map fv, Plain K H' x := fun xs sub H' e => plain_fk (fun f hf => (fat f (sub f hf)).imm (same_imm e)) fun f hf => (fok f (sub f hf)).2
    refine ⟨_, rfl, c, rfl, ⟨_, lof hc⟩, fun D nD => ?_⟩
    refine lc_fm (v := fv) (u := fv) (xs := fs) (fun x => !decide (x.2.2 ∈ hv)) walk_list nD (fun H e => lof (e _ _ hc)) len (fun x H2 Q1 Q2 hx s2 k1 k2 => ?_) (fun H1 s1 hD1 => ?_)
    · refine ⟨rfl, ?_⟩
      refine ⟨_, rfl, _, rfl, x.1, d, fkN x.2.2, es, rfl, rfl, key_f ((fat x hx).imm (same_imm s2)), s2 _ _ hd, ka.imm (same_imm s2), _, rfl, ?_⟩
      rw [if_neg Bool.false_ne_true, ndVal_key, show decide (fkN x.2.2 ∈ es.map (·.1)) = decide (x.2.2 ∈ hv) from decide_eq_decide.mpr (ke _)]
      cases e2 : !decide (x.2.2 ∈ hv) with
      | true => exact iteT ⟨_, rfl, k1 e2 _ (Same.refl _)⟩
      | false => exact iteF (k2 e2 _ (Same.refl _))
    refine ⟨_, rfl, Nat.zero_le _, fun e ne => ?_⟩
    have s2 : Same H1 (upd H1 e (.lst [])) := same_new ne
    have he2 : (upd H1 e (.lst [])) e = some (.lst []) := upd_same
    have hD2 := s2 _ _ hD1
    generalize upd H1 e (.lst []) = H2 at s2 he2 hD2 ⊢
    have s12 := s1.trans s2
    refine eq_nil (B := H2) (jm _ (fun f hf => (List.mem_filter.mp hf).1) _ s12) (Same.refl _) hD2 he2 ⟨_, rfl, ?_⟩
    rw [eq_all (f := fun f : FRow => f.2.2) (p := fun k => decide (k ∈ hv))]
    have va2 := va.same s12
    have hc2 := s12 _ _ hc
    cases eall : (fs.map (·.2.2)).all fun k => decide (k ∈ hv) with
    | true =>
      refine iteT ?_
      refine ⟨_, rfl, c, rfl, ⟨_, lof hc2⟩, fun D2 nD2 => ?_⟩
      refine lc_fm (v := fv) (u := fv) (xs := fs) (fun x => !seenL ws x.2.2) walk_list nD2 (fun H e => lof (e _ _ hc2)) len (fun x H3 Q1 Q2 hx s3 k1 k2 => ?_) (fun H3 s3 hD3 => ?_)
      · refine ⟨rfl, ?_⟩
        refine ⟨_, rfl, _, rfl, v, x, ws, rfl, va2.same s3, (fat x hx).imm (same_imm (s12.trans s3)), (fok x hx).1, (fok x hx).2, fun H4 s4 => ⟨_, rfl, ?_⟩⟩
        show if (!seenL ws x.2.2) = true then _ else _
        cases e2 : !seenL ws x.2.2 with
        | true => exact iteT ⟨_, rfl, k1 e2 _ s4⟩
        | false => exact iteF (k2 e2 _ s4)
      refine ⟨Nat.zero_le _, fun e1 ne1 => ?_⟩
      have s4 : Same H3 (upd H3 e1 (.lst [])) := same_new ne1
      refine ne_nil (B := H3) (jm _ (fun f hf => (List.mem_filter.mp hf).1) _ (s12.trans s3)) s4 (s4 _ _ hD3) upd_same ?_
      rw [eq_all (f := fun f : FRow => f.2.2) (p := fun k => seenL ws k)]
      have e3 : (!(fs.map (·.2.2)).all fun k => seenL ws k) = openB hv ws (fs.map (·.2.2)) := by
        unfold openB shutB
        rw [if_pos eall]
      rw [e3]
      exact q _ (s12.trans (s3.trans s4))
    | false =>
      refine iteF ?_
      refine ⟨_, rfl, D, rfl, ⟨_, lof hD2⟩, fun D2 nD2 => ?_⟩
      refine lc_fm (v := fv) (u := fv) (xs := fs.filter fun x => !decide (x.2.2 ∈ hv)) (fun x => seenL ws x.2.2) walk_list nD2 (fun H e => lof (e _ _ hD2)) (Nat.le_trans (List.length_filter_le _ _) len) (fun x H3 Q1 Q2 hx s3 k1 k2 => ?_) (fun H3 s3 hD3 => ?_)
      · have hx := (List.mem_filter.mp hx).1
        refine ⟨rfl, ?_⟩
        refine ⟨_, rfl, _, rfl, v, x, ws, rfl, va2.same s3, (fat x hx).imm (same_imm (s12.trans s3)), (fok x hx).1, (fok x hx).2, fun H4 s4 => ⟨_, rfl, ?_⟩⟩
        cases e2 : seenL ws x.2.2 with
        | true => exact iteT ⟨_, rfl, k1 e2 _ s4⟩
        | false => exact iteF (k2 e2 _ s4)
      refine ⟨Nat.zero_le _, fun e1 ne1 => ?_⟩
      have s4 : Same H3 (upd H3 e1 (.lst [])) := same_new ne1
      refine eq_nil (B := H3) (jm _ (fun f hf => (List.mem_filter.mp (List.mem_filter.mp hf).1).1) _ (s12.trans s3)) s4 (s4 _ _ hD3) upd_same ?_
      have e3 : decide (((fs.filter fun x => !decide (x.2.2 ∈ hv)).filter fun x => seenL ws x.2.2).map fv = []) = openB hv ws (fs.map (·.2.2)) := by
        have h := ne_any (f := fun f : FRow => f.2.2) (p := fun k => seenL ws k) (g := fv) (xs := fs.filter fun x => !decide (x.2.2 ∈ hv))
        have h2 : decide (((fs.filter fun x => !decide (x.2.2 ∈ hv)).filter fun x => seenL ws x.2.2).map fv = []) = !((fs.filter fun x => !decide (x.2.2 ∈ hv)).map (·.2.2)).any fun k => seenL ws k := by rw [← h, Bool.not_not]
        rw [h2]
        unfold openB shutB
        rw [if_neg (by rw [eall]; exact Bool.false_ne_true), List.any_map, any_filter', List.any_map]; rfl
      rw [e3]
      exact q _ (s12.trans (s3.trans s4))
end
end As

/-! ## G28 -/
namespace As
open PySem PySem.Spec PyProof.Rows L2 TL
open PySem.W (dataLe AllAlike Sortable dataLt alike alikeAll)
section
variable {P : Program} {w : World} {K : PySem.W.Frag} {mg : Str → Option Value} {base : Heap}
theorem lot_at {cs : List CRow} {ss : List SRow} {rs : List Int} (h : rs ∈ rowsL (ss.map (lotOf cs))) : rs.length = ss.length ∧ ∀ (i : Nat) v s, rs[i]? = some v → ss[i]? = some s → v ∈ lotOf cs s :=
  ⟨by rw [rowsL_len _ h, List.length_map], fun i v s hv hs => rowsL_in _ h i v _ hv (by rw [List.getElem?_map, hs]; rfl)⟩
def spLAnswer (P : Program) (w : World) : Sp := fun vs H Q _ => ∃ (cl a l : Addr) (cs : List CRow) (ts : List TRow) (ss : List SRow) (ks : List KRow) (fs : List FRow), vs = [.ref cl, .ref a, .ref l] ∧ H cl = some (.lst (cs.map cv)) ∧ ColsOk H cs ∧ TabsOk H (cs.map (·.2.1)) ts ∧ AskAt H a ss ks ∧ AskOk cs ts ss ks ∧ rowsOf cs ss ≤ 5000 ∧
  H l = some (.lst (fs.map fv)) ∧ (∀ f ∈ fs, FAt H f) ∧ fs.length ≤ 10000 ∧
  ∀ q (ws : List WRow) H', Same H H' → H q = none → H' q = some (.lst (ws.map wv)) → (∀ r ∈ ws, WAt H' r) → ws.map (·.2) = ansL cs ss ks (keysF fs) → Q (.ref q) H'
abbrev nLanswer : List Str := ["columns", "asked", "present", "known", "rows", "fact", "row"]
theorem sc_lanswer : FnScope nLanswer ["columns", "asked", "present"] (defScope s_lanswer) := ⟨rfl, rfl, rfl, by decide +kernel, rfl, by decide +kernel, by decide +kernel⟩
set_option maxHeartbeats 4000000 in
theorem ok_lanswer {f flar fll flf : Addr} {fd dlar dll dlf : FuncData} (D : Df K mg "_law_answer" s_lanswer ["columns", "asked", "present"] f fd) (T : Bi mg)
    (Dlar : Df K mg "_law_all_rows" s_lall_rows ["lots"] flar dlar) (Glar : FnOk P w K mg base CX0 1 flar dlar ["lots"] spLAllRows)
    (Dll : Df K mg "_law_lots" s_llots ["columns", "asked"] fll dll) (Gll : FnOk P w K mg base CX0 1 fll dll ["columns", "asked"] spLLots)
    (Dlf : Df K mg "_law_facts" s_lfacts ["asked", "row"] flf dlf) (Glf : FnOk P w K mg base CX0 1 flf dlf ["asked", "row"] spLRow) : FnOk P w K mg base CX0 2 f fd ["columns", "asked", "present"] (spLAnswer P w) := by
  refine D.F.ok sc_lanswer (fun vs H Q E h => ?_) (fun cdv A outer s H vs Q E hr h => ?_)
  · obtain ⟨cl, a, l, cs, ts, ss, ks, fs, rfl, _⟩ := h; rfl
  · obtain ⟨cl, a, l, cs, ts, ss, ks, fs, rfl, hcl, okc, okt, ask, ok, few, hl, fa, len, q⟩ := h
    have hu := hu64 hr
    refine ⟨_, pss_cons (ps_set (i := 3) sc_lanswer.nd rfl (Or.inr rfl) (pe_callTy (call_dictPN hu rfl) (by rfl) T.dict (by decide +kernel) (pa_cons (pe_lc (own := [("fact", 5)]) (g := gName 5) (tt := tYes) rfl sc_lanswer.nd (pi_list (pv 2)) (blkOk_by (N := nLanswer) (sc := defScope s_lanswer) (by decide +kernel)) (fun _ _ _ _ _ => pg_name (i := 5) sc_lanswer.nd rfl (Or.inl rfl)) (fun _ _ _ _ _ => pts_nil) (fun _ _ _ _ _ => pe_tup (pa_cons (pv 5) (pa_cons pe_bl pa_nil)))) pa_nil)))
      (pss_cons (ps_set (i := 4) sc_lanswer.nd rfl (Or.inl rfl) (pcall Dlar Glar hr (pa_cons (pcall Dll Gll hr (pa_cons (pv 0) (pa_cons (pv 1) pa_nil))) pa_nil)))
      (pss_one (ps_ret (pe_lc (own := [("row", 6)]) (g := gName 6) (tt := tTest (tOp (rEqD K) (tLc (iList K (tCall spLRow [] E0 (tCons (tVar 1) (tCons (tVar 6) tNil)))) (gName 5) (tB (tInN P w false (tVar 5) (tVar 3))) (tVar 5) [5]) (tLst tNil))) rfl sc_lanswer.nd (pi_list (pv 4)) (blkOk_by (N := nLanswer) (sc := defScope s_lanswer) (by decide +kernel)) (fun _ _ _ _ _ => pg_name (i := 6) sc_lanswer.nd rfl (Or.inl rfl))
        (fun _ _ _ _ _ => pts_one (pt_cmpR (eqDK K hu) (pe_lc (own := [("fact", 5)]) (g := gName 5) (tt := tB (tInN P w false (tVar 5) (tVar 3))) rfl sc_lanswer.nd (piL (K := K) (pcall Dlf Glf hr (pa_cons (pv 1) (pa_cons (pv 6) pa_nil)))) (blkOk_by (N := nLanswer) (sc := relS ⟨.function, [(".0", .local), ("row", .local), ("_law_facts", .globalImplicit), ("asked", .free), ("known", .free)], false, false, []⟩ (defScope s_lanswer)) (by decide +kernel)) (fun _ _ _ _ _ => pg_name (i := 5) sc_lanswer.nd rfl (Or.inl rfl)) (fun _ _ _ _ _ => pts_one (pt_cmp (notInNK P w hu (pv 5) (pv 3)))) (fun _ _ _ _ _ => pv 5)) (pe_lst pa_nil) (nomark _))) (fun _ _ _ _ _ => pv 6))))), ?_⟩
    have flm : (fs.map fv).length = fs.length := List.length_map _
    refine ⟨_, rfl, l, rfl, ⟨_, lof hl⟩, fun D nD => ?_⟩
    refine lc_new (H1 := H) (walk_at (K := K) (a := l) (xs := fs.map fv) .non) nD (fun H5 s5 => lof (s5 _ _ hl)) (by rw [flm]; exact Nat.lt_of_le_of_lt len (by decide)) (fun k acc H' => ∃ ps : List (Addr × FRow), acc = (ps.map (·.1)).map V.ref ∧ (∀ p ∈ ps, H' p.1 = some (.tup [fv p.2, .bl true])) ∧ ps.map (·.2) = fs.take k)
      ⟨[], rfl, (fun _ z => nomatch z), rfl⟩ (fun k acc H H' im ⟨hs, e, fa, k'⟩ => ⟨hs, e, fun r hr => im _ _ (fa r hr), k'⟩) (fun k H8 acc Q1 Q2 hk s8 ⟨ps, e, pa, k'⟩ k1 k2 => ?_) (fun H1 acc s1 hD1 ⟨ps, e, pa, k'⟩ => ?_)
    · subst e
      rw [flm] at hk
      have ev : (fs.map fv).getD k .non = fv fs[k] := by rw [List.getD_eq_getElem?_getD, List.getElem?_map, List.getElem?_eq_getElem hk]; rfl
      rw [ev]
      refine ⟨rfl, ?_⟩
      refine iteT (B := Q2 H8) ?_
      refine ⟨_, rfl, by show 2 ≤ sizeLine; decide, fun t1 n1 => ?_⟩
      refine k1 _ _ (same_new n1) ⟨ps ++ [(t1, fs[k])], by rw [List.map_append, List.map_append]; rfl, fun p hp => ?_, by rw [List.map_append, k', List.take_succ, List.getElem?_eq_getElem hk]; rfl⟩
      rcases List.mem_append.mp hp with hp | hp
      · exact same_new n1 _ _ (pa p hp)
      · rw [List.mem_singleton] at hp; subst hp; exact upd_same
    subst e
    rw [flm, List.take_length] at k'
    have fa1 : ∀ f ∈ fs, FAt H1 f := fun f hf => (fa f hf).imm (same_imm s1)
    have ees : (ps.map fun p => fEnt p.2) = fs.map fEnt := by rw [← k', List.map_map]; rfl
    refine ⟨D, ps.map (·.1), ps.map (fun p => fEnt p.2), rfl, lof hD1, pairs_f pa, fun e he => ?_, fun d nd => ?_⟩
    · rw [ees] at he
      obtain ⟨g, hg, rfl⟩ := List.mem_map.mp he
      exact key_f (fa1 g hg)
    have eall : ndAll (ps.map fun p => fEnt p.2) = (uniq fs fs.length).map fEnt := by
      rw [ees]
      have h := ndAll_f (gs := fs) (fs := [])
      unfold ndAll uniq
      rw [List.take_length]; exact h
    rw [eall]
    have up := uniq_prop (gs := fs) fs.length (Nat.le_refl _)
    generalize uniq fs fs.length = us at up
    obtain ⟨usub, _, umem, ulen⟩ := up
    rw [List.take_length] at umem
    generalize e2 : upd H1 d (NDict _ _ d (us.map fEnt)) = H2
    have s2 : Same H1 H2 := e2 ▸ same_new nd
    have hd2 : H2 d = some (NDict P w d (us.map fEnt)) := by rw [← e2]; exact upd_same
    have sH2 := s1.trans s2
    have ua2 : ∀ f ∈ us, FAt H2 f := fun f hf => (fa1 f (usub f hf)).imm (same_imm s2)
    refine ⟨_, rfl, _, rfl, cl, a, cs, ts, ss, ks, rfl, sH2 _ _ hcl, okc.same sH2, ask.same sH2, ok.l6, ok.so, fun t ls H3 s3 nt ht la key => ?_⟩
    have cnt : lenL (ls.map (·.2)) ≤ 5000 := by
      have h2 : (lenL (ls.map (·.2)) : Int) ≤ 5000 := by rw [← prodI_lenL, key]; exact few
      omega
    have lone : ∀ l ∈ ls, 1 ≤ l.2.length := fun l hl => by
      have hm : l.2 ∈ ss.map (lotOf cs) := by rw [← key]; exact List.mem_map_of_mem hl
      obtain ⟨z, hz, ez⟩ := List.mem_map.mp hm
      rw [← ez]; exact (lotOf_len okc (ok.so z hz)).1
    have lls : ls.length = ss.length := by have := congrArg List.length key; rwa [List.length_map, List.length_map] at this
    refine ⟨t, ls, rfl, ht, fun l hl => ⟨(la l hl).1, lone l hl⟩, by have := ok.l6; omega, cnt, fun qa ws H4 s4 nq hq wa kw => ?_⟩
    rw [key] at kw
    have sH4 := sH2.trans (s3.trans s4)
    have hd4 := (s3.trans s4) _ _ hd2
    have ua4 : ∀ f ∈ us, FAt H4 f := fun f hf => (ua2 f hf).imm (same_imm (s3.trans s4))
    have wsm : ws.length ≤ 5000 := by
      have h := congrArg List.length kw
      rw [List.length_map, rowsL_count] at h
      rw [key] at cnt; omega
    refine ⟨_, rfl, qa, rfl, ⟨_, lof hq⟩, fun D2 nD2 => ?_⟩
    refine lc_fm (v := wv) (u := wv) (xs := ws) (fun x => (rowK ss ks x.2 x.2.length).all fun k => decide (k ∈ us.map (·.2.2))) walk_list nD2 (fun H e => lof (e _ _ hq)) (by omega) (fun x H5 Q1 Q2 hx s5 k1 k2 => ?_) (fun H5 s5 hD5 => ?_)
    · have hr5 : x.2 ∈ rowsL (ss.map (lotOf cs)) := by rw [← kw]; exact List.mem_map_of_mem hx
      obtain ⟨lrs, inl⟩ := lot_at hr5
      have sH5 := sH4.trans s5
      have hx5 : WAt H5 x := s5 _ _ (wa x hx)
      refine ⟨rfl, ?_⟩
      refine ⟨_, rfl, _, rfl, a, x.1, ss, ks, x.2, rfl, ask.same sH5, hx5, lrs, ok.l6, fun z hz => (ok.so z hz).ones.len, fun tf gs H6 s6 hf ga kg => ⟨tf, rfl, ⟨_, lof hf⟩, fun D3 nD3 => ?_⟩⟩
      have glen : gs.length ≤ 606 := by
        have h := congrArg List.length kg
        rw [List.length_map] at h
        have h2 := rowK_len (ks := ks) (rs := x.2) (fun z hz => (ok.so z hz).ones.len) x.2.length
        have h3 : 101 * x.2.length ≤ 101 * 6 := Nat.mul_le_mul_left _ (by have := ok.l6; omega)
        omega
      have s56 := s5.trans s6
      refine lc_fm (v := fv) (u := fv) (xs := gs) (fun f => !decide (f.2.2 ∈ us.map (·.2.2))) walk_list nD3 (fun H e => lof (e _ _ hf)) (by omega) (fun f H7 R1 R2 hfm s7 j1 j2 => ?_) (fun H7 s7 hD7 => ?_)
      · refine ⟨rfl, ?_⟩
        refine ⟨_, rfl, _, rfl, f.1, d, fkN f.2.2, us.map fEnt, rfl, rfl, key_f ((ga f hfm).imm (same_imm s7)), (s56.trans s7) _ _ hd4, fun e he => ?_, _, rfl, ?_⟩
        · obtain ⟨g', hg, rfl⟩ := List.mem_map.mp he
          exact key_f ((ua4 g' hg).imm (same_imm (s56.trans s7)))
        rw [if_neg Bool.false_ne_true, ndVal_f]
        cases e : !decide (f.2.2 ∈ us.map (·.2.2)) with
        | true => exact iteT ⟨_, rfl, j1 e _ (Same.refl _)⟩
        | false => exact iteF (j2 e _ (Same.refl _))
      refine ⟨Nat.zero_le _, fun e ne => ?_⟩
      have s8 : Same H7 (upd H7 e (.lst [])) := same_new ne
      have nmk : ∀ f ∈ gs.filter (fun f => !decide (f.2.2 ∈ us.map (·.2.2))), PyData.strOk f.2.2.1 = true := fun f hf => by
        obtain ⟨r, hr, of⟩ := row_fact okc ok lrs inl (k := f.2.2) (by rw [← kg]; exact List.mem_map_of_mem (List.mem_filter.mp hf).1)
        rw [of.1]; exact name_ok (okt.nm r hr)
      refine eq_nil (B := H7) (plain_fk (fun f hf => (ga f (List.mem_filter.mp hf).1).imm (same_imm s7)) nmk) s8 (s8 _ _ hD7) upd_same ⟨_, rfl, ?_⟩
      have e : decide ((gs.filter fun f => !decide (f.2.2 ∈ us.map (·.2.2))).map fv = []) = (rowK ss ks x.2 x.2.length).all fun k => decide (k ∈ us.map (·.2.2)) := by
        rw [← kg]
        clear hf ga kg glen hD7 nmk
        induction gs with
        | nil => rfl
        | cons f gs ih =>
          rw [List.filter_cons, List.map_cons, List.all_cons]
          cases e : decide (f.2.2 ∈ us.map (·.2.2)) with
          | true => simpa using ih
          | false => simp
      rw [e]
      cases e2 : (rowK ss ks x.2 x.2.length).all fun k => decide (k ∈ us.map (·.2.2)) with
      | true => exact iteT ⟨_, rfl, k1 e2 _ (s6.trans (s7.trans s8))⟩
      | false => exact iteF (k2 e2 _ (s6.trans (s7.trans s8)))
    · refine q D2 (ws.filter fun x => (rowK ss ks x.2 x.2.length).all fun k => decide (k ∈ us.map (·.2.2))) H5 (sH4.trans s5) (sH4.free nD2) hD5 (fun r hr => s5 _ _ (wa r (List.mem_filter.mp hr).1)) ?_
      rw [show ansL cs ss ks (keysF fs) = ansL cs ss ks (us.map (·.2.2)) from ansL_congr fun k => (umem k).symm]
      unfold ansL
      rw [← kw, List.filter_map]; rfl
end
end As

/-! ## G32 -/
namespace As
open PySem PySem.Spec PyProof.Rows L2 TL
/-! open_pair, settles, open_row -/
section
variable {P : Program} {w : World} {K : PySem.W.Frag} {mg : Str → Option Value} {base : Heap}
/-- a store, looks, an ask of its plan -/
structure SetAt (P : Program) (w : World) (K : PySem.W.Frag) (H : Hp) (C S s p l a : Addr) (fs : List FRow) (ls : List LRow) (ss : List SRow) (ks : List KRow) (cs : List CRow) (ts : List TRow) : Prop where
  st : StoreAt P w H S s p fs
  few : fs.length ≤ 10000
  pl : PlanAt H C p cs ts
  okc : ColsOk H cs
  okt : TabsOk H (cs.map (·.2.1)) ts
  hl : LT K H l (ls.map lv)
  la : ∀ x ∈ ls, LAt H x
  lo : ∀ x ∈ ls, ∃ r ∈ ts, LofT cs r x.2
  ll : ls.length ≤ 10000
  ask : AskAt H a ss ks
  ok : AskOk cs ts ss ks
  rows : rowsOf cs ss ≤ 5000
theorem SetAt.same {H H' : Hp} {C S s p l a : Addr} {fs : List FRow} {ls : List LRow} {ss : List SRow} {ks : List KRow} {cs : List CRow} {ts : List TRow} (h : SetAt P w K H C S s p l a fs ls ss ks cs ts) (e : Same H H') : SetAt P w K H' C S s p l a fs ls ss ks cs ts :=
  ⟨h.st.same e, h.few, h.pl.same e, h.okc.same e, h.okt.same e, h.hl.same e, fun x hx => e _ _ (h.la x hx), h.lo, h.ll, h.ask.same e, h.ok, h.rows⟩
theorem SetAt.ins {H : Hp} {C S s p l a : Addr} {fs : List FRow} {ls : List LRow} {ss : List SRow} {ks : List KRow} {cs : List CRow} {ts : List TRow} (h : SetAt P w K H C S s p l a fs ls ss ks cs ts) : ∃ dx pr fa, H s = some (.ins S dx (sf p pr fa)) := by
  obtain ⟨dx, pr, fa, us0, h1, _⟩ := h.st
  exact ⟨dx, pr, fa, h1⟩
def spOPair (P : Program) (w : World) (K : PySem.W.Frag) (C S : Addr) : Sp := fun vs H Q _ => ∃ (s p l a : Addr) (fs : List FRow) (ls : List LRow) (ss : List SRow) (ks : List KRow) (cs : List CRow) (ts : List TRow), vs = [.ref s, .ref l, .ref a] ∧ SetAt P w K H C S s p l a fs ls ss ks cs ts ∧
  (openRows cs ss ks (keysF fs) (ls.map (·.2)) = [] → ∀ H', Same H H' → Q .non H') ∧
  (∀ x rest t H', openRows cs ss ks (keysF fs) (ls.map (·.2)) = x.2.2.2.1 :: rest → Same H H' → H' t = some (.tup [.ref x.2.1, .ref x.2.2.1]) → XAt H' x → x.2.2.2.2.map (·.2.2) = rowK ss ks x.2.2.2.1 x.2.2.2.1.length → Q (.ref t) H')
abbrev nOPair : List Str := ["store", "looks", "ask", "pairs"]
theorem sc_opair : FnScope nOPair ["store", "looks", "ask"] (defScope s_open_pair) := ⟨rfl, rfl, rfl, by decide +kernel, rfl, by decide +kernel, by decide +kernel⟩
theorem ok_open_pair {f fpf frw fsb ffi pp gp C S : Addr} {fd dpf drw dsb dfi dp : FuncData} (D : Df K mg "open_pair" s_open_pair ["store", "looks", "ask"] f fd) (L : StF K S)
    (hp : PropOf K S "plan" pp gp) (Gp : FnOk P w K mg base CX0 1 gp dp ["self"] (getSp S (Str.ofString "_plan"))) (bp : Binds K dp ["self"] [])
    (Dpf : Df K mg "present_facts" s_present_facts ["store"] fpf dpf) (Gpf : FnOk P w K mg base CX0 3 fpf dpf ["store"] (spPresF P w S))
    (Drw : Df K mg "rows_with_facts" s_rows_with_facts ["plan", "ask"] frw drw) (Grw : FnOk P w K mg base CX0 3 frw drw ["plan", "ask"] (spRwf C))
    (Dsb : Df K mg "seen_by" s_seen_by ["plan", "looks"] fsb dsb) (Gsb : FnOk P w K mg base CX0 4 fsb dsb ["plan", "looks"] (spSeenBy P w K C))
    (Dfi : Df K mg "first_open" s_first_open ["pairs", "present", "seen"] ffi dfi) (Gfi : FnOk P w K mg base CX0 3 ffi dfi ["pairs", "present", "seen"] (spFirst P w)) : FnOk P w K mg base CX0 5 f fd ["store", "looks", "ask"] (spOPair P w K C S) := by
  refine D.F.ok sc_opair (fun vs H Q E h => ?_) (fun cdv A outer s H vs Q E hr h => ?_)
  · obtain ⟨s, p, l, a, fs, ls, ss, ks, cs, ts, rfl, _⟩ := h; rfl
  · obtain ⟨sa, p, l, a, fs, ls, ss, ks, cs, ts, rfl, z, q1, q2⟩ := h
    have hr2 : Room 2 _ := hr.mono (by decide)
    have hr3 : Room 3 _ := hr.mono (by decide)
    refine ⟨_, pss_cons (ps_set (i := 3) sc_opair.nd rfl (Or.inl rfl) (pcall Drw Grw hr3 (pa_cons (pe_prop (pv 0) L.cl hp Gp hr2 bp .nil pass0 rfl) (pa_cons (pv 2) pa_nil))))
      (pss_one (ps_ret (pcall Dfi Gfi hr3 (pa_cons (pv 3) (pa_cons (pcall Dpf Gpf hr3 (pa_cons (pv 0) pa_nil)) (pa_cons (pcall Dsb Gsb hr (pa_cons (pe_prop (pv 0) L.cl hp Gp hr2 bp .nil pass0 rfl) (pa_cons (pv 1) pa_nil))) pa_nil)))))), ?_⟩
    obtain ⟨dx, pr, fa, h1⟩ := z.ins
    have so := z.ok.so
    have ok := z.ok
    refine ⟨_, rfl, sa, dx, _, rfl, h1, sa, dx, _, .ref p, rfl, h1, sf_P, ?_⟩
    refine ⟨_, rfl, p, a, ss, ks, cs, ts, rfl, z.pl, z.okc, z.ask, z.ok.l6, so, z.rows, fun t xs H2 s2 nt ht xa kx => ?_⟩
    have z2 := z.same s2
    refine ⟨_, rfl, _, rfl, sa, p, fs, rfl, z2.st, z.few, fun d us H3 s3 hd ua mem ul => ?_⟩
    have z3 := z2.same s3
    have h3 := (s2.trans s3) _ _ h1
    refine ⟨_, rfl, sa, dx, _, rfl, h3, sa, dx, _, .ref p, rfl, h3, sf_P, ?_⟩
    refine ⟨_, rfl, p, l, ls, cs, ts, rfl, z3.pl, z3.okc, z3.okt, z3.hl, z3.la, z.ll, fun e es H4 s4 ne he ka ke => ?_⟩
    have s34 := s3.trans s4
    have s24 := s2.trans s34
    have xfew : ∀ x ∈ xs, x.2.2.2.2.length ≤ 10000 := fun x hx => by
      have h : xk x ∈ (rowsL (ss.map (lotOf cs))).map fun r => (r, rowK ss ks r r.length) := by rw [← kx]; exact List.mem_map_of_mem hx
      obtain ⟨r, hr, e⟩ := List.mem_map.mp h
      have e2 : rowK ss ks r r.length = x.2.2.2.2.map (·.2.2) := congrArg Prod.snd e
      have h2 := congrArg List.length e2
      rw [List.length_map] at h2
      have h3 := rowK_len (ks := ks) (rs := r) (fun z hz => (so z hz).ones.len) r.length
      have h4 := rowsL_len r hr
      rw [List.length_map] at h4
      have h5 : 101 * r.length ≤ 101 * 6 := Nat.mul_le_mul_left _ (by have := ok.l6; omega)
      omega
    -- the rows
    have key : ∀ x ∈ xs, x.2.2.2.2.map (·.2.2) = rowK ss ks x.2.2.2.1 x.2.2.2.1.length ∧ x.2.2.2.1 ∈ rowsL (ss.map (lotOf cs)) := fun x hx => by
      have h : xk x ∈ (rowsL (ss.map (lotOf cs))).map fun r => (r, rowK ss ks r r.length) := by rw [← kx]; exact List.mem_map_of_mem hx
      obtain ⟨r, hr, e⟩ := List.mem_map.mp h
      have e1 : r = x.2.2.2.1 := congrArg Prod.fst e
      have e2 : rowK ss ks r r.length = x.2.2.2.2.map (·.2.2) := congrArg Prod.snd e
      rw [e1] at e2 hr
      exact ⟨e2.symm, hr⟩
    have same : ∀ x ∈ xs, (!shutN us es (x.2.2.2.2.map (·.2.2))) = openB (keysF fs) (ls.map (·.2)) (rowK ss ks x.2.2.2.1 x.2.2.2.1.length) := fun x hx => by
      obtain ⟨e1, hr⟩ := key x hx
      unfold openB shutN
      rw [e1]
      congr 1
      refine shutB_congr (fun k hk => decide_eq_decide.mpr (mem k)) fun k hk => ?_
      obtain ⟨lrs, inl⟩ := lot_atR hr
      obtain ⟨r', hr', of⟩ := row_fact z.okc ok lrs inl hk
      have hm : k ∈ (byName ts).flatMap (factsT cs) := List.mem_flatMap.mpr ⟨r', byName_mem.mpr hr', factsT_mem of⟩
      cases e3 : seenL (ls.map (·.2)) k with
      | true => exact decide_eq_true ((ke k).mpr ⟨hm, e3⟩)
      | false => exact decide_eq_false fun h => by have := ((ke k).mp h).2; rw [e3] at this; cases this
    have rowsE : openRows cs ss ks (keysF fs) (ls.map (·.2)) = (xs.filter fun x => !shutN us es (x.2.2.2.2.map (·.2.2))).map fun x => x.2.2.2.1 := by
      unfold openRows
      have e1 : (xs.filter fun x => !shutN us es (x.2.2.2.2.map (·.2.2))) = xs.filter fun x => openB (keysF fs) (ls.map (·.2)) (rowK ss ks x.2.2.2.1 x.2.2.2.1.length) := List.filter_congr same
      rw [e1]
      have e2 : xs.map (fun x => x.2.2.2.1) = rowsL (ss.map (lotOf cs)) := by
        have := congrArg (List.map Prod.fst) kx
        rw [List.map_map, List.map_map] at this
        exact this.trans (List.map_id _)
      rw [← e2, List.filter_map]; rfl
    refine ⟨t, d, e, xs, us, es, rfl, s34 _ _ ht, fun x hx => ⟨(xa x hx).imm (same_imm s34), xfew x hx⟩, s4 _ _ hd, fun f hf => (ua f hf).imm (same_imm s4), he, ka, fun no H5 s5 => ?_, fun x hx t5 H5 s5 h5 => ?_⟩
    · refine q1 ?_ _ (s24.trans s5)
      rw [rowsE]
      have : (xs.filter fun x => !shutN us es (x.2.2.2.2.map (·.2.2))) = [] := by
        have h := List.head?_filter (p := fun x : XRow => !shutN us es (x.2.2.2.2.map (·.2.2))) (l := xs)
        rw [no] at h
        exact List.head?_eq_none_iff.mp h
      rw [this]; rfl
    · have xm := List.mem_of_find?_eq_some hx
      have h := List.head?_filter (p := fun x : XRow => !shutN us es (x.2.2.2.2.map (·.2.2))) (l := xs)
      rw [hx] at h
      obtain ⟨rest, er⟩ := List.head?_eq_some_iff.mp h
      refine q2 x (rest.map fun x => x.2.2.2.1) t5 H5 (by rw [rowsE, er]; rfl) (s24.trans s5) h5 ((xa x xm).imm (same_imm (s34.trans s5))) (key x xm).1
/-- settles -/
def spSettles (P : Program) (w : World) (K : PySem.W.Frag) (C S : Addr) : Sp := fun vs H Q _ => ∃ (s p l a : Addr) (fs : List FRow) (ls : List LRow) (ss : List SRow) (ks : List KRow) (cs : List CRow) (ts : List TRow), vs = [.ref s, .ref l, .ref a] ∧ SetAt P w K H C S s p l a fs ls ss ks cs ts ∧
  ∀ H', Same H H' → Q (.bl (decide (openRows cs ss ks (keysF fs) (ls.map (·.2)) = []))) H'
abbrev nSettles : List Str := ["store", "looks", "ask"]
theorem sc_settles : FnScope nSettles ["store", "looks", "ask"] (defScope s_settles) := ⟨rfl, rfl, rfl, by decide +kernel, rfl, by decide +kernel, by decide +kernel⟩
theorem ok_settles {f fch fpa pp gp C S : Addr} {fd dch dpa dp : FuncData} (D : Df K mg "settles" s_settles ["store", "looks", "ask"] f fd) (L : StF K S)
    (hp : PropOf K S "plan" pp gp) (Gp : FnOk P w K mg base CX0 1 gp dp ["self"] (getSp S (Str.ofString "_plan"))) (bp : Binds K dp ["self"] [])
    (Dch : Df K mg "check_settling" s_check_settling ["plan", "looks", "ask"] fch dch) (Gch : FnOk P w K mg base CX0 8 fch dch ["plan", "looks", "ask"] (spCheckS K C))
    (Dpa : Df K mg "open_pair" s_open_pair ["store", "looks", "ask"] fpa dpa) (Gpa : FnOk P w K mg base CX0 5 fpa dpa ["store", "looks", "ask"] (spOPair P w K C S)) : FnOk P w K mg base CX0 9 f fd ["store", "looks", "ask"] (spSettles P w K C S) := by
  refine D.F.ok sc_settles (fun vs H Q E h => ?_) (fun cdv A outer s H vs Q E hr h => ?_)
  · obtain ⟨s, p, l, a, fs, ls, ss, ks, cs, ts, rfl, _⟩ := h; rfl
  · obtain ⟨sa, p, l, a, fs, ls, ss, ks, cs, ts, rfl, z, q⟩ := h
    have hr2 : Room 2 _ := hr.mono (by decide)
    have hr5 : Room 5 _ := hr.mono (by decide)
    have hr8 : Room 8 _ := hr.mono (by decide)
    refine ⟨_, pss_cons (ps_expr (pcall Dch Gch hr8 (pa_cons (pe_prop (pv 0) L.cl hp Gp hr2 bp .nil pass0 rfl) (pa_cons (pv 1) (pa_cons (pv 2) pa_nil)))))
      (pss_one (ps_ret (pe_cmp (pc_isN (pcall Dpa Gpa hr5 (pa_cons (pv 0) (pa_cons (pv 1) (pa_cons (pv 2) pa_nil)))))))), ?_⟩
    obtain ⟨dx, pr, fa, h1⟩ := z.ins
    refine ⟨_, rfl, sa, dx, _, rfl, h1, sa, dx, _, .ref p, rfl, h1, sf_P, _, rfl, _, rfl, p, l, a, ls, ss, ks, cs, ts, rfl, z.pl, z.okc, z.okt, z.hl, z.la, z.lo, z.ask, z.ok, z.rows, fun H1 s1 => ?_⟩
    refine ⟨_, rfl, _, rfl, _, rfl, sa, p, l, a, fs, ls, ss, ks, cs, ts, rfl, z.same s1, fun e H2 s2 => ?_, fun x rest t H2 e s2 ht xat kx => ?_⟩
    · have h := q _ (s1.trans s2)
      rw [decide_eq_true e] at h
      exact h
    · have h := q _ (s1.trans s2)
      rw [e, decide_eq_false (by simp)] at h
      exact h
/-- the first row, or None -/
def RowV (H : Hp) (rows : List (List Int)) (v : V) : Prop := (rows = [] ∧ v = .non) ∨ ∃ r rest t, rows = r :: rest ∧ v = .ref t ∧ H t = some (.tup (r.map V.int))
theorem RowV.same {H H' : Hp} {rows : List (List Int)} {v : V} (h : RowV H rows v) (e : Same H H') : RowV H' rows v :=
  h.elim .inl fun ⟨r, rest, t, h1, h2, h3⟩ => .inr ⟨r, rest, t, h1, h2, e _ _ h3⟩
def spOpenRow (P : Program) (w : World) (K : PySem.W.Frag) (C S : Addr) : Sp := fun vs H Q _ => ∃ (s p l a : Addr) (fs : List FRow) (ls : List LRow) (ss : List SRow) (ks : List KRow) (cs : List CRow) (ts : List TRow), vs = [.ref s, .ref l, .ref a] ∧ SetAt P w K H C S s p l a fs ls ss ks cs ts ∧
  ∀ v H', Same H H' → RowV H' (openRows cs ss ks (keysF fs) (ls.map (·.2))) v → Q v H'
abbrev nORow : List Str := ["store", "looks", "ask", "pair"]
theorem sc_orow : FnScope nORow ["store", "looks", "ask"] (defScope s_open_row) := ⟨rfl, rfl, rfl, by decide +kernel, rfl, by decide +kernel, by decide +kernel⟩
theorem ok_open_row {f fch fpa pp gp C S : Addr} {fd dch dpa dp : FuncData} (D : Df K mg "open_row" s_open_row ["store", "looks", "ask"] f fd) (L : StF K S)
    (hp : PropOf K S "plan" pp gp) (Gp : FnOk P w K mg base CX0 1 gp dp ["self"] (getSp S (Str.ofString "_plan"))) (bp : Binds K dp ["self"] [])
    (Dch : Df K mg "check_settling" s_check_settling ["plan", "looks", "ask"] fch dch) (Gch : FnOk P w K mg base CX0 8 fch dch ["plan", "looks", "ask"] (spCheckS K C))
    (Dpa : Df K mg "open_pair" s_open_pair ["store", "looks", "ask"] fpa dpa) (Gpa : FnOk P w K mg base CX0 5 fpa dpa ["store", "looks", "ask"] (spOPair P w K C S)) : FnOk P w K mg base CX0 9 f fd ["store", "looks", "ask"] (spOpenRow P w K C S) := by
  refine D.F.ok sc_orow (fun vs H Q E h => ?_) (fun cdv A outer s H vs Q E hr h => ?_)
  · obtain ⟨s, p, l, a, fs, ls, ss, ks, cs, ts, rfl, _⟩ := h; rfl
  · obtain ⟨sa, p, l, a, fs, ls, ss, ks, cs, ts, rfl, z, q⟩ := h
    have hr2 : Room 2 _ := hr.mono (by decide)
    have hr5 : Room 5 _ := hr.mono (by decide)
    have hr8 : Room 8 _ := hr.mono (by decide)
    refine ⟨_, pss_cons (ps_expr (pcall Dch Gch hr8 (pa_cons (pe_prop (pv 0) L.cl hp Gp hr2 bp .nil pass0 rfl) (pa_cons (pv 1) (pa_cons (pv 2) pa_nil)))))
      (pss_cons (ps_set (i := 3) sc_orow.nd rfl (Or.inl rfl) (pcall Dpa Gpa hr5 (pa_cons (pv 0) (pa_cons (pv 1) (pa_cons (pv 2) pa_nil)))))
      (pss_cons (ps_if (pt_cmp (pc_isN (pv 3)))
        (pss_one (ps_ret pe_non))
        pss_nil)
      (pss_one (ps_ret (pe_ix ix_tup (pv 3) pe_int (fun _ _ => rfl)))))), ?_⟩
    obtain ⟨dx, pr, fa, h1⟩ := z.ins
    refine ⟨_, rfl, sa, dx, _, rfl, h1, sa, dx, _, .ref p, rfl, h1, sf_P, _, rfl, _, rfl, p, l, a, ls, ss, ks, cs, ts, rfl, z.pl, z.okc, z.okt, z.hl, z.la, z.lo, z.ask, z.ok, z.rows, fun H1 s1 => ?_⟩
    refine ⟨_, rfl, _, rfl, _, rfl, sa, p, l, a, fs, ls, ss, ks, cs, ts, rfl, z.same s1, fun e H2 s2 => ?_, fun x rest t H2 e s2 ht xat kx => ?_⟩
    · refine ⟨_, rfl, _, rfl, ?_⟩
      exact iteT (q _ _ (s1.trans s2) (.inl ⟨e, rfl⟩))
    · refine ⟨_, rfl, _, rfl, ?_⟩
      refine iteF ?_
      exact ⟨_, rfl, t, _, 0, .ref x.2.1, rfl, rfl, tof ht, rfl, q _ _ (s1.trans s2) (.inr ⟨_, rest, x.2.1, e, rfl, xat.r⟩)⟩
end
end As

/-! ## G35 -/
namespace As
open PySem PySem.Spec PyProof.Rows L2 TL
open PySem.W (dataLe AllAlike Sortable dataLt alike alikeAll)
/-! the law's open rows -/
theorem ndAll_key {es : List NEnt} : ∀ k, k ∈ (ndAll es).map (·.1) ↔ k ∈ es.map (·.1) := by
  have h : ∀ (es acc : List NEnt) k, k ∈ (es.foldl (fun acc e => ndPut acc e.1 e.2.1 e.2.2) acc).map (·.1) ↔ k ∈ acc.map (·.1) ∨ k ∈ es.map (·.1) := by
    intro es
    induction es with
    | nil => intro acc k; simp
    | cons e es ih =>
      intro acc k
      rw [List.foldl_cons, ih, ndPut_key, List.map_cons, List.mem_cons, or_assoc]
  intro k
  unfold ndAll
  rw [h]; simp
theorem ndAll_at {H : Hp} {es : List NEnt} (h : KeysAt H es) : KeysAt H (ndAll es) := by
  have g : ∀ (es acc : List NEnt), KeysAt H es → KeysAt H acc → KeysAt H (es.foldl (fun acc e => ndPut acc e.1 e.2.1 e.2.2) acc) := by
    intro es
    induction es with
    | nil => intro acc _ h; exact h
    | cons e es ih =>
      intro acc h1 h2
      rw [List.foldl_cons]
      exact ih _ (fun p hp => h1 p (List.mem_cons_of_mem _ hp)) (ndPut_at h2 (h1 e List.mem_cons_self))
  exact g es [] h (fun _ z => nomatch z)
def aEnt {α : Type} (kf : α → NestedKey) (ad : α → Addr) (x : α) : NEnt := (kf x, ad x, .bl true)
theorem pairs_a {α : Type} {kf : α → NestedKey} {ad : α → Addr} {K : PySem.W.Frag} {H : Hp} : ∀ {ps : List (Addr × α)}, (∀ p ∈ ps, H p.1 = some (.tup [.ref (ad p.2), .bl true])) → Paired (fun p (e : NEnt) => SqT K H p [.ref e.2.1, e.2.2]) (ps.map (·.1)) (ps.map fun p => aEnt kf ad p.2)
  | [], _ => .nil
  | p :: _, h => .cons (tof (h p List.mem_cons_self)) (pairs_a fun q hq => h q (List.mem_cons_of_mem _ hq))
/-- [(x, True) for x in xs] -/
theorem lc_prs {α : Type} {ad : α → Addr} {K : PySem.W.Frag} {l : Addr} {xs : List α} {g : TG} {tt : TT} {te : TE} {vs : List Nat} {σ : L2.St} {H1 : Hp} {D : Addr} {Qd : Hp → Prop}
    (hl : H1 l = some (.lst (xs.map fun x => V.ref (ad x)))) (len : xs.length ≤ 10000) (nD : H1 D = none)
    (hs : ∀ x H (Q1 : VK) (Q2 : Hp → Prop), x ∈ xs → Same H1 H → (∀ t, H t = none → Q1 (.ref t) (upd H t (.tup [.ref (ad x), .bl true]))) →
      g (.ref (ad x)) (wipe σ vs) H fun σ2 H2 => wipe σ2 vs = wipe σ vs ∧ tt σ2 H2 fun b H3 => if b = true then te σ2 H3 Q1 else Q2 H3)
    (hd : ∀ H' (ps : List (Addr × α)), Same H1 H' → H' D = some (.lst ((ps.map (·.1)).map V.ref)) → (∀ p ∈ ps, H' p.1 = some (.tup [.ref (ad p.2), .bl true])) → ps.map (·.2) = xs → Qd H') :
    ∃ W : Nat → Nat → Hp → Prop, (∃ m, W 0 m (upd H1 D (.lst []))) ∧ ∀ i m H, W i m H →
      ((Itl K l).stop i H ∧ Qd H) ∨ ((Itl K l).go i H ∧ ∃ Nx : Hp → Prop, (∀ H', Nx H' → ∃ m', m' < m ∧ W (i + 1) m' H') ∧ ∀ x H', (Itl K l).yld i H x H' → g x (wipe σ vs) H' fun σ2 H2 => wipe σ2 vs = wipe σ vs ∧ tt σ2 H2 fun b H3 =>
        if b = true then te σ2 H3 fun y H4 => ∃ acc, H4 D = some (.lst acc) ∧ acc.length < sizeLine ∧ Nx (upd H4 D (.lst (acc ++ [y]))) else Nx H3) := by
  have flm : (xs.map fun x => V.ref (ad x)).length = xs.length := List.length_map _
  refine lc_new (H1 := H1) (walk_at (K := K) (a := l) (xs := xs.map fun x => V.ref (ad x)) .non) nD (fun H5 s5 => lof (s5 _ _ hl)) (by rw [flm]; exact Nat.lt_of_le_of_lt len (by decide)) (fun k acc H' => ∃ ps : List (Addr × α), acc = (ps.map (·.1)).map V.ref ∧ (∀ p ∈ ps, H' p.1 = some (.tup [.ref (ad p.2), .bl true])) ∧ ps.map (·.2) = xs.take k)
    ⟨[], rfl, (fun _ z => nomatch z), rfl⟩ (fun k acc H H' im ⟨hs, e, fa, k'⟩ => ⟨hs, e, fun r hr => im _ _ (fa r hr), k'⟩) (fun k H8 acc Q1 Q2 hk s8 ⟨ps, e, pa, k'⟩ k1 k2 => ?_) (fun H1 acc s1 hD1 ⟨ps, e, pa, k'⟩ => ?_)
  · subst e
    rw [flm] at hk
    have ev : (xs.map fun x => V.ref (ad x)).getD k .non = .ref (ad xs[k]) := by rw [List.getD_eq_getElem?_getD, List.getElem?_map, List.getElem?_eq_getElem hk]; rfl
    rw [ev]
    refine hs xs[k] H8 Q1 Q2 (List.getElem_mem hk) s8 fun t1 n1 => ?_
    refine k1 _ _ (same_new n1) ⟨ps ++ [(t1, xs[k])], by rw [List.map_append, List.map_append]; rfl, fun p hp => ?_, by rw [List.map_append, k', List.take_succ, List.getElem?_eq_getElem hk]; rfl⟩
    rcases List.mem_append.mp hp with hp | hp
    · exact same_new n1 _ _ (pa p hp)
    · rw [List.mem_singleton] at hp; subst hp; exact upd_same
  · subst e
    rw [flm, List.take_length] at k'
    exact hd H1 ps s1 hD1 pa k'
section
variable {P : Program} {w : World} {K : PySem.W.Frag} {mg : Str → Option Value} {base : Heap}
def spLORows : Sp := fun vs H Q _ => ∃ (cl a l v : Addr) (cs : List CRow) (ts : List TRow) (ss : List SRow) (ks : List KRow) (fs : List FRow) (ls : List LRow), vs = [.ref cl, .ref a, .ref l, .ref v] ∧ H cl = some (.lst (cs.map cv)) ∧ ColsOk H cs ∧ TabsOk H (cs.map (·.2.1)) ts ∧ AskAt H a ss ks ∧ AskOk cs ts ss ks ∧ rowsOf cs ss ≤ 5000 ∧
  H l = some (.lst (fs.map fv)) ∧ (∀ f ∈ fs, FAt H f) ∧ fs.length ≤ 10000 ∧ H v = some (.lst (ls.map lv)) ∧ (∀ l ∈ ls, LAt H l) ∧ ls.length ≤ 10000 ∧
  ∀ q (ws : List WRow) H', Same H H' → H q = none → H' q = some (.lst (ws.map wv)) → (∀ r ∈ ws, WAt H' r) → ws.map (·.2) = openRows cs ss ks (keysF fs) (ls.map (·.2)) → Q (.ref q) H'
abbrev nLORows : List Str := ["columns", "asked", "present", "views", "known", "seen", "rows", "fact", "look", "row"]
theorem sc_lorows : FnScope nLORows ["columns", "asked", "present", "views"] (defScope s_lopen_rows) := ⟨rfl, rfl, rfl, by decide +kernel, rfl, by decide +kernel, by decide +kernel⟩
set_option maxHeartbeats 4000000 in
theorem ok_lorows {f flar fll flf flo : Addr} {fd dlar dll dlf dlo : FuncData} (D : Df K mg "_law_open_rows" s_lopen_rows ["columns", "asked", "present", "views"] f fd) (T : Bi mg)
    (Dlar : Df K mg "_law_all_rows" s_lall_rows ["lots"] flar dlar) (Glar : FnOk P w K mg base CX0 1 flar dlar ["lots"] spLAllRows)
    (Dll : Df K mg "_law_lots" s_llots ["columns", "asked"] fll dll) (Gll : FnOk P w K mg base CX0 1 fll dll ["columns", "asked"] spLLots)
    (Dlf : Df K mg "_law_facts" s_lfacts ["asked", "row"] flf dlf) (Glf : FnOk P w K mg base CX0 1 flf dlf ["asked", "row"] spLRow)
    (Dlo : Df K mg "_law_is_open" s_lis_open ["present", "views", "claims"] flo dlo) (Glo : FnOk P w K mg base CX0 3 flo dlo ["present", "views", "claims"] (spLOpen P w)) : FnOk P w K mg base CX0 4 f fd ["columns", "asked", "present", "views"] spLORows := by
  refine D.F.ok sc_lorows (fun vs H Q E h => ?_) (fun cdv A outer s H vs Q E hr h => ?_)
  · obtain ⟨cl, a, l, v, cs, ts, ss, ks, fs, ls, rfl, _⟩ := h; rfl
  · obtain ⟨cl, a, l, v, cs, ts, ss, ks, fs, ls, rfl, hcl, okc, okt, ask, ok, few, hl, fa, len, hv, la, llen, q⟩ := h
    have hr1 : Room 1 _ := hr.mono (by decide)
    have hu := hu64 hr
    refine ⟨_, pss_cons (ps_asg (pe_tup (pa_cons (pe_callTy (call_dictPN hu rfl) (by rfl) T.dict (by decide +kernel) (pa_cons (pe_lc (own := [("fact", 7)]) (g := gName 7) (tt := tYes) rfl sc_lorows.nd (pi_list (pv 2)) (blkOk_by (N := nLORows) (sc := defScope s_lopen_rows) (by decide +kernel)) (fun _ _ _ _ _ => pg_name (i := 7) sc_lorows.nd rfl (Or.inl rfl)) (fun _ _ _ _ _ => pts_nil) (fun _ _ _ _ _ => pe_tup (pa_cons (pv 7) (pa_cons pe_bl pa_nil)))) pa_nil)) (pa_cons (pe_callTy (call_dictPN hu rfl) (by rfl) T.dict (by decide +kernel) (pa_cons (pe_lc (own := [("look", 8)]) (g := gName 8) (tt := tYes) rfl sc_lorows.nd (pi_list (pv 3)) (blkOk_by (N := nLORows) (sc := defScope s_lopen_rows) (by decide +kernel)) (fun _ _ _ _ _ => pg_name (i := 8) sc_lorows.nd rfl (Or.inl rfl)) (fun _ _ _ _ _ => pts_nil) (fun _ _ _ _ _ => pe_tup (pa_cons (pv 8) (pa_cons pe_bl pa_nil)))) pa_nil)) pa_nil))) (pg_tup rfl (pgs_cons (pg_name (i := 4) sc_lorows.nd rfl (Or.inr rfl)) (pgs_cons (pg_name (i := 5) sc_lorows.nd rfl (Or.inr rfl)) pgs_nil))))
      (pss_cons (ps_set (i := 6) sc_lorows.nd rfl (Or.inl rfl) (pcall Dlar Glar hr1 (pa_cons (pcall Dll Gll hr1 (pa_cons (pv 0) (pa_cons (pv 1) pa_nil))) pa_nil)))
      (pss_one (ps_ret (pe_lc (own := [("row", 9)]) (g := gName 9) (tt := tB (tCall (spLOpen P w) [] E0 (tCons (tVar 4) (tCons (tVar 5) (tCons (tCall spLRow [] E0 (tCons (tVar 1) (tCons (tVar 9) tNil))) tNil))))) rfl sc_lorows.nd (pi_list (pv 6)) (blkOk_by (N := nLORows) (sc := defScope s_lopen_rows) (by decide +kernel)) (fun _ _ _ _ _ => pg_name (i := 9) sc_lorows.nd rfl (Or.inl rfl)) (fun _ _ _ _ _ => pts_one (pt_val (pcall Dlo Glo hr (pa_cons (pv 4) (pa_cons (pv 5) (pa_cons (pcall Dlf Glf hr1 (pa_cons (pv 1) (pa_cons (pv 9) pa_nil))) pa_nil)))))) (fun _ _ _ _ _ => pv 9))))), ?_⟩
    refine ⟨_, rfl, l, rfl, ⟨_, lof hl⟩, fun D nD => ?_⟩
    refine lc_prs (ad := fun f : FRow => f.1) hl len nD (fun x H2 Q1 Q2 hx s2 k => ⟨rfl, iteT (B := Q2 H2) ⟨_, rfl, by show 2 ≤ sizeLine; decide, fun t1 n1 => k t1 n1⟩⟩) (fun H1 ps s1 hD1 pa kp => ?_)
    have fa1 : ∀ f ∈ fs, FAt H1 f := fun f hf => (fa f hf).imm (same_imm s1)
    have ka1 : KeysAt H1 (ps.map fun p => aEnt (fun f : FRow => fkN f.2.2) (fun f => f.1) p.2) := fun e he => by
      obtain ⟨p, hp, rfl⟩ := List.mem_map.mp he
      exact key_f (fa1 p.2 (by rw [← kp]; exact List.mem_map_of_mem hp))
    refine ⟨D, ps.map (·.1), ps.map (fun p => aEnt (fun f : FRow => fkN f.2.2) (fun f => f.1) p.2), rfl, lof hD1, pairs_a pa, ka1, fun d nd => ?_⟩
    have ke : ∀ k : FK, fkN k ∈ (ndAll (ps.map fun p => aEnt (fun f : FRow => fkN f.2.2) (fun f => f.1) p.2)).map (·.1) ↔ k ∈ keysF fs := fun k => by
      rw [ndAll_key, List.map_map, show ((fun x : NEnt => x.1) ∘ fun p : Addr × FRow => aEnt (fun f : FRow => fkN f.2.2) (fun f => f.1) p.2) = fkN ∘ ((fun f : FRow => f.2.2) ∘ fun p : Addr × FRow => p.2) from rfl, ← List.map_map, ← List.map_map, kp]
      exact mem_inj (fun _ _ => fkN_inj)
    have kd1 := ndAll_at ka1
    generalize ndAll (ps.map fun p => aEnt (fun f : FRow => fkN f.2.2) (fun f => f.1) p.2) = es at ke kd1 ⊢
    generalize e2 : upd H1 d (NDict _ _ d es) = H2
    have s2 : Same H1 H2 := e2 ▸ same_new nd
    have hd2 : H2 d = some (NDict P w d es) := by rw [← e2]; exact upd_same
    have sH2 := s1.trans s2
    refine ⟨_, rfl, v, rfl, ⟨_, lof (sH2 _ _ hv)⟩, fun D2 nD2 => ?_⟩
    refine lc_prs (ad := fun f : LRow => f.1) (sH2 _ _ hv) llen nD2 (fun x H2 Q1 Q2 hx s2 k => ⟨rfl, iteT (B := Q2 H2) ⟨_, rfl, by show 2 ≤ sizeLine; decide, fun t1 n1 => k t1 n1⟩⟩) (fun H3 qs s3 hD3 qa kq => ?_)
    have sH3 := sH2.trans s3
    have la3 : ∀ l ∈ ls, LAt H3 l := fun l hl => sH3 _ _ (la l hl)
    have kb1 : KeysAt H3 (qs.map fun p => aEnt (fun f : LRow => lkN f.2) (fun f => f.1) p.2) := fun e he => by
      obtain ⟨p, hp, rfl⟩ := List.mem_map.mp he
      exact key_l (la3 p.2 (by rw [← kq]; exact List.mem_map_of_mem hp))
    refine ⟨D2, qs.map (·.1), qs.map (fun p => aEnt (fun f : LRow => lkN f.2) (fun f => f.1) p.2), rfl, lof hD3, pairs_a qa, kb1, fun d2 nd2 => ?_⟩
    have kl : ∀ k : LK, lkN k ∈ (ndAll (qs.map fun p => aEnt (fun f : LRow => lkN f.2) (fun f => f.1) p.2)).map (·.1) ↔ k ∈ ls.map (·.2) := fun k => by
      rw [ndAll_key, List.map_map, show ((fun x : NEnt => x.1) ∘ fun p : Addr × LRow => aEnt (fun f : LRow => lkN f.2) (fun f => f.1) p.2) = lkN ∘ ((fun f : LRow => f.2) ∘ fun p : Addr × LRow => p.2) from rfl, ← List.map_map, ← List.map_map, kq]
      exact mem_inj (fun _ _ => lkN_inj)
    have kd3 := ndAll_at kb1
    generalize ndAll (qs.map fun p => aEnt (fun f : LRow => lkN f.2) (fun f => f.1) p.2) = el at kl kd3 ⊢
    generalize e4 : upd H3 d2 (NDict _ _ d2 el) = H4
    have s4 : Same H3 H4 := e4 ▸ same_new nd2
    have hd4 : H4 d2 = some (NDict P w d2 el) := by rw [← e4]; exact upd_same
    refine ⟨by show 2 ≤ sizeLine; decide, fun t nt => ⟨t, _, rfl, tof upd_same, rfl, _, _, rfl, _, _, rfl, rfl, ?_⟩⟩
    have s5 : Same H4 (upd H4 t (.tup [.ref d, .ref d2])) := same_new nt
    generalize upd H4 t (.tup [.ref d, .ref d2]) = H5 at s5 ⊢
    have sH5 := sH3.trans (s4.trans s5)
    have hdK := (s3.trans (s4.trans s5)) _ _ hd2
    have kdK := kd1.imm (same_imm (s2.trans (s3.trans (s4.trans s5))))
    have hvK := s5 _ _ hd4
    have kvK := kd3.imm (same_imm (s4.trans s5))
    have vaK : ViewsAt P w H5 d2 (ls.map (·.2)) := .inr ⟨el, hvK, kvK, kl⟩
    refine ⟨_, rfl, _, rfl, cl, a, cs, ts, ss, ks, rfl, sH5 _ _ hcl, okc.same sH5, ask.same sH5, ok.l6, ok.so, fun t6 lts H6 s6 nt6 ht6 lla key => ?_⟩
    have cnt : lenL (lts.map (·.2)) ≤ 5000 := by
      have h2 : (lenL (lts.map (·.2)) : Int) ≤ 5000 := by rw [← prodI_lenL, key]; exact few
      omega
    have lone : ∀ l ∈ lts, 1 ≤ l.2.length := fun l hl => by
      have hm : l.2 ∈ ss.map (lotOf cs) := by rw [← key]; exact List.mem_map_of_mem hl
      obtain ⟨z, hz, ez⟩ := List.mem_map.mp hm
      rw [← ez]; exact (lotOf_len okc (ok.so z hz)).1
    have lls : lts.length = ss.length := by have := congrArg List.length key; rwa [List.length_map, List.length_map] at this
    refine ⟨t6, lts, rfl, ht6, fun l hl => ⟨(lla l hl).1, lone l hl⟩, by have := ok.l6; omega, cnt, fun qa2 ws H7 s7 nq hq wa kw => ?_⟩
    rw [key] at kw
    have sH7 := sH5.trans (s6.trans s7)
    have s57 := s6.trans s7
    have wsm : ws.length ≤ 5000 := by
      have h := congrArg List.length kw
      rw [List.length_map, rowsL_count] at h
      rw [key] at cnt; omega
    refine ⟨_, rfl, qa2, rfl, ⟨_, lof hq⟩, fun D3 nD3 => ?_⟩
    refine lc_fm (v := wv) (u := wv) (xs := ws) (fun x => openB (keysF fs) (ls.map (·.2)) (rowK ss ks x.2 x.2.length)) walk_list nD3 (fun H e => lof (e _ _ hq)) (by omega) (fun x H8 Q1 Q2 hx s8 k1 k2 => ?_) (fun H8 s8 hD8 => ?_)
    · have hr5 : x.2 ∈ rowsL (ss.map (lotOf cs)) := by rw [← kw]; exact List.mem_map_of_mem hx
      obtain ⟨lrs, inl⟩ := lot_at hr5
      have sH8 := sH7.trans s8
      refine ⟨rfl, ?_⟩
      refine ⟨_, rfl, _, rfl, _, rfl, _, rfl, a, x.1, ss, ks, x.2, rfl, ask.same sH8, s8 _ _ (wa x hx), lrs, ok.l6, fun z hz => (ok.so z hz).ones.len, fun tf gs H9 s9 hf ga kg => ?_⟩
      have glen : gs.length ≤ 606 := by
        have h := congrArg List.length kg
        rw [List.length_map] at h
        have h2 := rowK_len (ks := ks) (rs := x.2) (fun z hz => (ok.so z hz).ones.len) x.2.length
        have h3 : 101 * x.2.length ≤ 101 * 6 := Nat.mul_le_mul_left _ (by have := ok.l6; omega)
        omega
      have s59 := s57.trans (s8.trans s9)
      refine ⟨d, d2, tf, gs, es, keysF fs, ls.map (·.2), rfl, s59 _ _ hdK, kdK.imm (same_imm s59), ke, vaK.same s59, hf, ga, fun g hg => ?_, by omega, fun H10 s10 => ⟨_, rfl, ?_⟩⟩
      · obtain ⟨r, hr, of⟩ := row_fact okc ok lrs inl (k := g.2.2) (by rw [← kg]; exact List.mem_map_of_mem hg)
        exact ⟨(oft_len of).2.1, by rw [of.1]; exact name_ok (okt.nm r hr)⟩
      rw [kg]
      cases e5 : openB (keysF fs) (ls.map (·.2)) (rowK ss ks x.2 x.2.length) with
      | true => exact iteT ⟨_, rfl, k1 e5 _ (s9.trans s10)⟩
      | false => exact iteF (k2 e5 _ (s9.trans s10))
    · refine q D3 (ws.filter fun x => openB (keysF fs) (ls.map (·.2)) (rowK ss ks x.2 x.2.length)) H8 (sH7.trans s8) (sH7.free nD3) hD8 (fun r hr => s8 _ _ (wa r (List.mem_filter.mp hr).1)) ?_
      unfold openRows
      rw [← kw, List.filter_map]; rfl
end
end As

/-! ## G36 -/
namespace As
open PySem PySem.Spec PyProof.Rows L2 TL
open PySem.W (dataLe AllAlike Sortable dataLt alike alikeAll)
/-! the law's choice of looks -/
theorem if_part {b : Bool} {m n : Int} {C : Int → Prop} (h : ∀ i, C i) : if b = true then (∃ i, V.int m = .int i ∧ C i) else ∃ i, V.int n = .int i ∧ C i := by
  cases b with
  | true => exact ⟨m, rfl, h m⟩
  | false => exact ⟨n, rfl, h n⟩
theorem rows_of {α : Type} {f : α → V} {xs : List α} : ∀ {ys : List V}, (∀ y ∈ ys, y ∈ xs.map f) → ∃ gs : List α, ys = gs.map f ∧ ∀ g ∈ gs, g ∈ xs
  | [], _ => ⟨[], rfl, fun _ z => nomatch z⟩
  | y :: ys, h => by
    obtain ⟨gs, e, s⟩ := rows_of (ys := ys) fun z hz => h z (List.mem_cons_of_mem _ hz)
    obtain ⟨g, hg, e2⟩ := List.mem_map.mp (h y List.mem_cons_self)
    refine ⟨g :: gs, by rw [List.map_cons, e2, e], fun z hz => ?_⟩
    rcases List.mem_cons.mp hz with rfl | hz
    · exact hg
    · exact s z hz
theorem cut_mapV {α : Type} {f : α → V} {xs : List α} {lo hi : Option Int} : ∃ ys : List α, cutV (xs.map f) lo hi = ys.map f ∧ (∀ y ∈ ys, y ∈ xs) ∧ ys.length ≤ xs.length := by
  unfold cutV
  rw [← List.map_drop, ← List.map_take]
  exact ⟨_, rfl, fun y hy => List.mem_of_mem_drop (List.mem_of_mem_take hy), by rw [List.length_take, List.length_drop]; omega⟩
theorem erase_map {α β : Type} {f : α → β} : ∀ (xs : List α) (i : Nat), (xs.map f).eraseIdx i = (xs.eraseIdx i).map f
  | [], _ => rfl
  | x :: xs, 0 => rfl
  | x :: xs, i + 1 => by rw [List.map_cons, List.eraseIdx_cons_succ, List.eraseIdx_cons_succ, List.map_cons, erase_map xs i]
theorem own_nm {H : Hp} {cs : List CRow} {ts : List TRow} (okt : TabsOk H (cs.map (·.2.1)) ts) {l : LK} (h : ∃ r ∈ ts, LofT cs r l) : PyData.strOk l.1 = true := by
  obtain ⟨r, hr, e, _⟩ := h
  rw [e]; exact name_ok (okt.nm r hr)
section
variable {P : Program} {w : World} {K : PySem.W.Frag} {mg : Str → Option Value} {base : Heap}
def spLSomeV : Sp := fun vs H Q _ => ∃ (a c l : Addr) (xs : List V) (B : Hp), vs = [.ref a, .ref l] ∧ Gd a c B H ∧ B l = some (.lst xs) ∧ xs.length ≤ 10000 ∧
  ∀ t (ys : List V) B' H', Same B B' → Gd a c B' H' → B t = none → B' t = some (.lst ys) → (∀ y ∈ ys, y ∈ xs) → ys.length ≤ xs.length → Q (.ref t) H'
theorem ok_lsomeV {f fpi fdr : Addr} {fd dpi ddr : FuncData} (D : Df K mg "_law_some" s_lsome ["state", "items"] f fd)
    (Dpi : Df K mg "_law_pick" s_pick ["state", "some"] fpi dpi) (Gpi : FnOk P w K mg base CX0 2 fpi dpi ["state", "some"] spPick)
    (Ddr : Df K mg "_law_draw" s_draw ["state", "many"] fdr ddr) (Gdr : FnOk P w K mg base CX0 1 fdr ddr ["state", "many"] spDraw) : FnOk P w K mg base CX0 3 f fd ["state", "items"] spLSomeV := by
  refine D.F.ok sc_lsome (fun vs H Q E h => ?_) (fun cdv A outer s H vs Q E hr h => ?_)
  · obtain ⟨a, c, l, fs, B, rfl, _⟩ := h; rfl
  · obtain ⟨a, c, l, fs, B, rfl, g, hl, len, q⟩ := h
    have hr1 : Room 1 _ := hr.mono (by decide)
    refine ⟨_, pss_cons (ps_set (i := 2) sc_lsome.nd rfl (Or.inr rfl) (pcall Dpi Gpi hr (pa_cons (pv 0) (pa_cons (pe_lst (pa_cons pe_int (pa_cons pe_int (pa_cons pe_int (pa_cons pe_int (pa_cons pe_int (pa_cons pe_int pa_nil))))))) pa_nil))))
      (pss_one (ps_ret (pe_lc (own := [("item", 3)]) (g := gName 3) (tt := tTest (tOp (rI0 fun i j => V.bl (decide (i < j))) (tCall spDraw [] E0 (tCons (tVar 0) (tCons (tC (.int 4)) tNil))) (tVar 2))) rfl sc_lsome.nd (pi_list (pv 1)) (blkOk_by (N := nLsome) (sc := defScope s_lsome) (by decide +kernel)) (fun _ _ _ _ _ => pg_name (i := 3) sc_lsome.nd rfl (Or.inl rfl)) (fun _ _ _ _ _ => pts_one (pt_cmpR op_lt (pcall Ddr Gdr hr1 (pa_cons (pv 0) (pa_cons pe_int pa_nil))) (pv 2) (nomark _))) (fun _ _ _ _ _ => pv 3)))), ?_⟩
    refine ⟨_, rfl, by show 6 ≤ sizeLine; decide, fun L nL => ⟨a, c, .ref L, rfl, (g.new nL).st, .inl ⟨L, _, rfl, g.ne_a nL, g.ne_c nL, upd_same, by show 0 < 6; decide, by show 6 < 1000000; decide, fun v H1 hv st1 fr1 => ?_⟩⟩⟩
    have g1 := (g.new nL).fr fr1 st1
    obtain ⟨u, rfl⟩ : ∃ u : Int, v = .int u := by
      simp only [List.mem_cons, List.not_mem_nil, or_false] at hv
      rcases hv with rfl | rfl | rfl | rfl | rfl | rfl <;> exact ⟨_, rfl⟩
    refine ⟨_, rfl, l, rfl, ⟨_, lof (g1.ex _ _ hl)⟩, fun D nD => ?_⟩
    refine lc_draw (B := B) (H1 := H1) (a := a) (c := c) (walk_at (K := K) (a := l) (xs := fs) .non) g1 nD (fun B' H s gd => lof (gd.ex _ _ (s _ _ hl))) (Nat.lt_of_le_of_lt len (by decide))
      (fun i acc _ => acc.length ≤ i ∧ ∀ x ∈ acc, x ∈ fs) ⟨Nat.le_refl _, fun _ z => nomatch z⟩ (fun _ _ _ _ h _ => h) (fun i acc _ ⟨l, _⟩ => l)
      (fun i H5 B5 acc Q1 Q2 hi s5 g5 p5 d5 k1 k2 => ?_) (fun H5 B5 acc s5 g5 d5 p5 => ?_)
    · obtain ⟨lg, sub⟩ := p5
      have ev : fs.getD i .non = fs[i] := by rw [List.getD_eq_getElem?_getD, List.getElem?_eq_getElem hi]; rfl
      rw [ev]
      refine ⟨rfl, ?_⟩
      refine ⟨_, rfl, a, c, 4, rfl, g5.st, by decide, by decide, fun r H6 r0 r1 st6 fr6 => ⟨_, rfl, r, u, rfl, rfl, _, rfl, ite2 (fun _ => ?_) (fun _ => ?_)⟩⟩
      · refine ⟨_, rfl, k1 _ _ B5 (Same.refl _) (g5.fr fr6 st6) ⟨by rw [List.length_append]; exact Nat.succ_le_succ lg, fun x hx => ?_⟩⟩
        rcases List.mem_append.mp hx with hx | hx
        · exact sub x hx
        · rw [List.mem_singleton] at hx; rw [hx]; exact List.getElem_mem hi
      · exact k2 _ B5 (Same.refl _) (g5.fr fr6 st6) ⟨Nat.le_succ_of_le lg, sub⟩
    · obtain ⟨lg, sub⟩ := p5
      exact q D acc B5 H5 s5 g5 (g1.free nD) d5 sub lg
def spLViews : Sp := fun vs H Q _ => ∃ (a c cl tb as l : Addr) (cs : List CRow) (ts : List TRow) (ss : List SRow) (ks : List KRow) (fs : List FRow) (B : Hp), vs = [.ref a, .ref cl, .ref tb, .ref as, .ref l] ∧ Gd a c B H ∧ B cl = some (.lst (cs.map cv)) ∧ ColsOk B cs ∧ B tb = some (.lst (ts.map tv)) ∧ TabsOk B (cs.map (·.2.1)) ts ∧ AskAt B as ss ks ∧ AskOk cs ts ss ks ∧ rowsOf cs ss ≤ 5000 ∧
  B l = some (.lst (fs.map fv)) ∧ (∀ f ∈ fs, FAt B f) ∧ fs.length ≤ 10000 ∧
  ∀ t (ls : List LRow) B' H', Same B B' → Gd a c B' H' → B t = none → B' t = some (.lst (ls.map lv)) → (∀ l ∈ ls, LAt B' l) → (∀ l ∈ ls, ∃ r ∈ ts, LofT cs r l.2) → ls.length ≤ 1000 → Q (.ref t) H'
abbrev nLViews : List Str := ["state", "columns", "tables", "asked", "present", "every", "views", "way", "many", "look", "fewer", "one"]
theorem sc_lviews : FnScope nLViews ["state", "columns", "tables", "asked", "present"] (defScope s_lviews) := ⟨rfl, rfl, rfl, by decide +kernel, rfl, by decide +kernel, by decide +kernel⟩
set_option maxHeartbeats 8000000 in
theorem ok_lviews {f fal fso fdr fll flar fmi flo : Addr} {fd dal dso ddr dll dlar dmi dlo : FuncData} (D : Df K mg "_law_views" s_lviews ["state", "columns", "tables", "asked", "present"] f fd) (T : Bi mg)
    (Dal : Df K mg "_law_all_looks" s_lall_looks ["columns", "tables"] fal dal) (Gal : FnOk P w K mg base CX0 1 fal dal ["columns", "tables"] spLAllLooks)
    (Dso : Df K mg "_law_some" s_lsome ["state", "items"] fso dso) (Gso : FnOk P w K mg base CX0 3 fso dso ["state", "items"] spLSomeV)
    (Ddr : Df K mg "_law_draw" s_draw ["state", "many"] fdr ddr) (Gdr : FnOk P w K mg base CX0 1 fdr ddr ["state", "many"] spDraw)
    (Dlar : Df K mg "_law_all_rows" s_lall_rows ["lots"] flar dlar) (Glar : FnOk P w K mg base CX0 1 flar dlar ["lots"] spLAllRows)
    (Dll : Df K mg "_law_lots" s_llots ["columns", "asked"] fll dll) (Gll : FnOk P w K mg base CX0 1 fll dll ["columns", "asked"] spLLots)
    (Dmi : Df K mg "_law_shuffled" s_lshuffled ["state", "some"] fmi dmi) (Gmi : FnOk P w K mg base CX0 2 fmi dmi ["state", "some"] (spMixed K))
    (Dlo : Df K mg "_law_open_rows" s_lopen_rows ["columns", "asked", "present", "views"] flo dlo) (Glo : FnOk P w K mg base CX0 4 flo dlo ["columns", "asked", "present", "views"] spLORows) : FnOk P w K mg base CX0 5 f fd ["state", "columns", "tables", "asked", "present"] spLViews := by
  refine D.F.ok sc_lviews (fun vs H Q E h => ?_) (fun cdv A outer s H vs Q E hr h => ?_)
  · obtain ⟨a, c, cl, tb, as, l, cs, ts, ss, ks, fs, B, rfl, _⟩ := h; rfl
  · obtain ⟨a, c, cl, tb, as, l, cs, ts, ss, ks, fs, B, rfl, gB, hcl, okc, htb, okt, ask, ok, few, hl, fa, len, q⟩ := h
    have hr1 : Room 1 _ := hr.mono (by decide)
    have hr2 : Room 2 _ := hr.mono (by decide)
    have hr3 : Room 3 _ := hr.mono (by decide)
    have hu := hu64 hr
    refine ⟨_, pss_cons (ps_set (i := 5) sc_lviews.nd rfl (Or.inl rfl) (pcall Dal Gal hr1 (pa_cons (pv 1) (pa_cons (pv 2) pa_nil))))
      (pss_cons (ps_set (i := 6) sc_lviews.nd rfl (Or.inl rfl) (pcall Dso Gso hr3 (pa_cons (pv 0) (pa_cons (pv 5) pa_nil))))
      (pss_cons (ps_set (i := 7) sc_lviews.nd rfl (Or.inl rfl) (pcall Ddr Gdr hr1 (pa_cons (pv 0) (pa_cons pe_int pa_nil))))
      (pss_cons (ps_if (pt_cmpR op_gt (pv 7) pe_int (nomark _))
        (pss_cons (ps_par (i := 6) (j := 8) rfl sc_lviews.nd rfl rfl (by decide) rfl rfl (pa_cons (pe_callTy (lstK K) (by rfl) T.list boot_list (pa_cons (pv 5) pa_nil)) (pa_cons (pe_callB call_len_seq (by rfl) T.len PySem.boot_len (pa_cons (pcall Dlar Glar hr1 (pa_cons (pcall Dll Gll hr1 (pa_cons (pv 1) (pa_cons (pv 3) pa_nil))) pa_nil)) pa_nil)) pa_nil)) (by rfl))
        (pss_one (ps_for PassesOwn.never rfl (pi_list (pe_slice sl_list (pcall Dmi Gmi hr2 (pa_cons (pv 0) (pa_cons (pv 5) pa_nil))) po_none (po_some (pe_ifExp (pt_cmpR op_le (pv 8) pe_int (nomark _)) (pe_int) (pe_int))))) (pg_name (i := 9) sc_lviews.nd rfl (Or.inr rfl))
          (pss_cons (ps_setLc (i := 10) (own := [("one", 11)]) (g := gName 11) (tt := tTest (tOp (rNeD K) (tVar 11) (tVar 9))) rfl sc_lviews.nd rfl rfl (sw_true rfl rfl rfl (by decide +kernel)) (pi_list (pv 6)) (blkOk_by (N := nLViews) (sc := defScope s_lviews) (by decide +kernel)) (fun _ _ _ _ _ => pg_name (i := 11) sc_lviews.nd rfl (Or.inl rfl)) (fun _ _ _ _ _ => pts_one (pt_cmpR (neDK K hu) (pv 11) (pv 9) (nomark _))) (fun _ _ _ _ _ => pv 11))
          (pss_one (ps_if (pt_cmpR (op_eqD hu) (pcall Dlo Glo hr (pa_cons (pv 1) (pa_cons (pv 3) (pa_cons (pv 4) (pa_cons (pv 10) pa_nil))))) (pe_lst pa_nil) (nomark _))
            (pss_one (ps_set (i := 6) sc_lviews.nd rfl (Or.inl rfl) (pv 10)))
            pss_nil))))))
        pss_nil)
      (pss_cons (ps_if (PW.pt (pw_and (pt_cmpR op_eq (pv 7) pe_int (nomark _)) (pw_and1 (pt_cmpR (op_neD hu) (pv 6) (pe_lst pa_nil) (nomark _)))))
        (pss_one (ps_expr (pe_bm PySem.F.plainAttrs_list PySem.F.slot_list_pop PySem.F.type_list_pop mt_popAt (pv 6) (pa_cons (pcall Ddr Gdr hr1 (pa_cons (pv 0) (pa_cons (pe_callB call_len_seq (by rfl) T.len PySem.boot_len (pa_cons (pv 6) pa_nil)) pa_nil))) pa_nil))))
        pss_nil)
      (pss_one (ps_ret (pv 6))))))), ?_⟩
    refine ⟨_, rfl, _, rfl, cl, tb, cs, ts, rfl, gB.ex _ _ hcl, okc.same gB.ex, gB.ex _ _ htb, okt.same gB.ex, fun q0 evs ts2 H1 s1 nq0 hq0 la1 pm kl => ?_⟩
    have g1 := gB.same s1
    have gN := but2_gd g1.st
    have sN : Same B (but2 H1 a c) := but2_sub g1
    have hqN : but2 H1 a c q0 = some (.lst (evs.map lv)) := by rw [but2_at (gB.ne_a nq0) (gB.ne_c nq0)]; exact hq0
    have laN : ∀ l ∈ evs, LAt (but2 H1 a c) l := fun l hl => but2_obj g1.st (la1 l hl) (fun _ z => nomatch z)
    have own : ∀ l ∈ evs, ∃ r ∈ ts, LofT cs r l.2 := fun l hl => by
      have h : l.2 ∈ ts2.flatMap (looksT cs) := by rw [← kl]; exact List.mem_map_of_mem hl
      obtain ⟨r, hr, hk⟩ := List.mem_flatMap.mp h
      exact ⟨r, pm.mem_iff.mp hr, looksT_of hk⟩
    have nmE : ∀ l ∈ evs, PyData.strOk l.2.1 = true := fun l hl => own_nm okt (own l hl)
    have elen : evs.length ≤ 1000 := by
      have h := congrArg List.length kl
      rw [List.length_map, (List.Perm.flatMap_right (looksT cs) pm).length_eq] at h
      rw [h]; exact looks_max okc okt
    generalize but2 H1 a c = N at gN sN hqN laN
    clear g1 s1 nq0 hq0 la1
    refine ⟨_, rfl, _, rfl, a, c, q0, evs.map lv, N, rfl, gN, hqN, by rw [List.length_map]; omega, fun t1 ys B2 H2 s2 g2 nt1 ht1 sub ly => ?_⟩
    obtain ⟨v1, rfl, sub1⟩ := rows_of sub
    rw [List.length_map, List.length_map] at ly
    refine ⟨_, rfl, a, c, 4, rfl, g2.st, by decide, by decide, fun way H3 r0 r1 st3 fr3 => ?_⟩
    have g3 := g2.fr fr3 st3
    dsimp only [gName]
    -- what stands: N
    refine seq_mid (t := tIfS _ _ _) (fun σ' H' => ∃ (t : Addr) (vl : List LRow) (B4 : Hp) (x8 x9 x10 : Option V), σ' = [some (.ref a), some (.ref cl), some (.ref tb), some (.ref as), some (.ref l), some (.ref q0), some (.ref t), some (.int way), x8, x9, x10, none] ∧ Same N B4 ∧ Gd a c B4 H' ∧ N t = none ∧ B4 t = some (.lst (vl.map lv)) ∧ (∀ l ∈ vl, l ∈ evs) ∧ vl.length ≤ 1000) (fun D' kk => ?_) (fun σ' H' r => ?_)
    · refine ⟨_, rfl, way, 0, rfl, rfl, _, rfl, ite2 (fun _ => ?_) (fun _ => ?_)⟩
      · refine ⟨_, rfl, q0, evs.map lv, rfl, .inl (lof (g3.ex _ _ (s2 _ _ hqN))), fun p np => ?_⟩
        have pB2 := g3.free np
        have pN := s2.free pB2
        have g5 := g3.add (o := .lst (evs.map lv)) np
        have s25 : Same B2 (upd B2 p (.lst (evs.map lv))) := same_new pB2
        have hp5 : (upd B2 p (.lst (evs.map lv))) p = some (.lst (evs.map lv)) := upd_same
        generalize upd B2 p (.lst (evs.map lv)) = B5 at g5 s25 hp5
        generalize upd H3 p (.lst (evs.map lv)) = H5 at g5 ⊢
        have sN5 := s2.trans s25
        have sB5 := sN.trans sN5
        refine ⟨_, rfl, _, rfl, cl, as, cs, ts, ss, ks, rfl, g5.ex _ _ (sB5 _ _ hcl), (okc.same sB5).same g5.ex, (ask.same sB5).same g5.ex, ok.l6, ok.so, fun t6 lts H6 s6 nt6 ht6 lla key => ?_⟩
        have cnt : lenL (lts.map (·.2)) ≤ 5000 := by
          have h2 : (lenL (lts.map (·.2)) : Int) ≤ 5000 := by rw [← prodI_lenL, key]; exact few
          omega
        have lone : ∀ l ∈ lts, 1 ≤ l.2.length := fun l hl => by
          have hm : l.2 ∈ ss.map (lotOf cs) := by rw [← key]; exact List.mem_map_of_mem hl
          obtain ⟨z, hz, ez⟩ := List.mem_map.mp hm
          rw [← ez]; exact (lotOf_len okc (ok.so z hz)).1
        have lls : lts.length = ss.length := by have := congrArg List.length key; rwa [List.length_map, List.length_map] at this
        refine ⟨t6, lts, rfl, ht6, fun l hl => ⟨(lla l hl).1, lone l hl⟩, by have := ok.l6; omega, cnt, fun qa ws H7 s7 nq hq wa kw => ?_⟩
        have g7 := (g5.same s6).same s7
        refine ⟨qa, _, rfl, .inl (lof hq), _, _, rfl, ?_⟩
        clear nq hq wa kw lla ht6 nt6 s6 s7 key cnt lone lls
        -- one look after another
        have laB5 : ∀ l ∈ evs, LAt B5 l := fun l hl => sN5 _ _ (laN l hl)
        refine ⟨_, rfl, _, rfl, a, c, q0, evs.map lv, B5, rfl, g7, g7.ex _ _ (sN5 _ _ hqN), by rw [List.length_map]; exact elen, plain_lk laB5 nmE, fun tm zs B8 H8 perm8 s8 g8 ntm htm => ?_⟩
        obtain ⟨ms, pms, rfl⟩ := perm_rows (f := lv) perm8 evs rfl
        refine ⟨_, rfl, _, _, rfl, rfl, _, rfl, if_part fun n => ?_⟩
        obtain ⟨us, eus, usub, ulen⟩ := cut_mapV (f := lv) (xs := ms) (lo := none) (hi := some n)
        refine ⟨tm, _, rfl, lof (g8.ex _ _ htm), fun qs nqs => ?_⟩
        rw [eus]
        have uE : ∀ u ∈ us, u ∈ evs := fun u hu => pms.mem_iff.mp (usub u hu)
        have g9 := g8.add (o := .lst (us.map lv)) nqs
        have s89 : Same B8 (upd B8 qs (.lst (us.map lv))) := same_new (g8.free nqs)
        have hqs9 : (upd B8 qs (.lst (us.map lv))) qs = some (.lst (us.map lv)) := upd_same
        generalize upd B8 qs (.lst (us.map lv)) = B9 at g9 s89 hqs9
        generalize upd H8 qs (.lst (us.map lv)) = H9 at g9 ⊢
        have s59 := s8.trans s89
        have hp9 := s59 _ _ hp5
        have sN9 := sN5.trans s59
        have sB9 := sN.trans sN9
        have la9 : ∀ l ∈ evs, LAt B9 l := fun l hl => sN9 _ _ (laN l hl)
        clear g3 g5 g7 g8 s8 s89 hp5 laB5 htm ntm nqs s25 perm8
        refine ⟨qs, rfl, ⟨_, lof (g9.ex _ _ hqs9)⟩, for_list (K := K) (a := qs) (xs := us.map lv) (fun j σ H' => ∃ (t : Addr) (vl : List LRow) (B4 : Hp) (x8 x9 x10 : Option V), σ = [some (.ref a), some (.ref cl), some (.ref tb), some (.ref as), some (.ref l), some (.ref q0), some (.ref t), some (.int way), x8, x9, x10, none] ∧ Same B9 B4 ∧ Gd a c B4 H' ∧ N t = none ∧ B4 t = some (.lst (vl.map lv)) ∧ (∀ l ∈ vl, l ∈ evs) ∧ vl.length ≤ 1000)
          ⟨p, evs, B9, _, _, _, rfl, Same.refl _, g9, pN, hp9, fun _ h => h, elen⟩ (fun j σ H' _ ⟨_, _, _, _, _, _, _, s, g, _⟩ => lof (g.ex _ _ (s _ _ hqs9))) ?_ ?_⟩
        · rintro j x σ H10 hx ⟨t, vl, B4, x8, x9, x10, rfl, s4, g4, nt, ht, subv, lenv⟩
          rw [List.getElem?_map] at hx
          obtain ⟨u, hu', rfl⟩ := Option.map_eq_some_iff.mp hx
          have um := uE u (List.mem_of_getElem? hu')
          have la4 : ∀ l ∈ evs, LAt B4 l := fun l hl => s4 _ _ (la9 l hl)
          have sB4 := sB9.trans s4
          refine ⟨_, rfl, t, rfl, ⟨_, lof (g4.ex _ _ ht)⟩, fun D nD => ?_⟩
          refine lc_fm (v := lv) (u := lv) (xs := vl) (fun x => !decide (x.2 = u.2)) walk_list nD (fun H e => lof (e _ _ (g4.ex _ _ ht))) (by omega) (fun x H11 Q1 Q2 hx s11 k1 k2 => ?_) (fun H11 s11 hD11 => ?_)
          · have xm := subv x hx
            have sh : ∀ z ∈ evs, SeqAt.shaped (lkD z.2) = true := fun z hz => by
              have h1 := lay_lk z.2 (nmE z hz)
              have h2 := lk_depth z.2
              show (PyData.canLay0 (lkD z.2) && decide (PyData.depth (lkD z.2) ≤ 64)) = true
              rw [h1, Bool.true_and]; exact decide_eq_true (by omega)
            have e11 := g4.ex.trans s11
            refine ⟨rfl, ?_⟩
            refine ⟨_, rfl, _, rfl, lkD x.2, lkD u.2, dp_lk (e11 _ _ (la4 x xm)), dp_lk (e11 _ _ (la4 u um)), sh x xm, sh u um, ?_⟩
            rw [eqv_lk]
            refine ⟨_, rfl, ?_⟩
            cases e : !decide (x.2 = u.2) with
            | true => exact iteT ⟨_, rfl, k1 e _ (Same.refl _)⟩
            | false => exact iteF (k2 e _ (Same.refl _))
          have g11 := g4.same s11
          have vsub : ∀ l ∈ vl.filter (fun x => !decide (x.2 = u.2)), l ∈ evs := fun l hl => subv l (List.mem_filter.mp hl).1
          have vlen : (vl.filter fun x => !decide (x.2 = u.2)).length ≤ 1000 := Nat.le_trans (List.length_filter_le _ _) lenv
          refine ⟨_, rfl, _, rfl, _, rfl, _, rfl, cl, as, l, D, cs, ts, ss, ks, fs, (vl.filter fun x => !decide (x.2 = u.2)), rfl, g11.ex _ _ (sB4 _ _ hcl), (okc.same sB4).same g11.ex, (okt.same sB4).same g11.ex, (ask.same sB4).same g11.ex, ok, few, g11.ex _ _ (sB4 _ _ hl), fun f hf => (fa f hf).imm (same_imm (sB4.trans g11.ex)), len, hD11, fun z hz => g11.ex _ _ (la4 z (vsub z hz)), by omega, fun qo wo H12 s12 nqo hqo wao kwo => ?_⟩
          refine ⟨Nat.zero_le _, fun e ne => ?_⟩
          have s13 : Same H12 (upd H12 e (.lst [])) := same_new ne
          have pw : ∀ x ∈ wo.map wv, Plain K H12 x := fun x hx => by
            obtain ⟨r, hr, rfl⟩ := List.mem_map.mp hx
            exact ⟨rowD r.2, .tup (tof (wao r hr)) dp_ints, by simp [rowD, PyData.canLay0, ints_lay.1], by simp [rowD, PyData.depth, ints_lay.2]⟩
          have g13 := (g11.same s12).same s13
          refine eq_nil (B := H12) pw s13 (s13 _ _ hqo) upd_same ⟨_, rfl, ite2 (fun _ => ?_) (fun _ => ?_)⟩
          · have DB4 : B4 D = none := g4.free nD
            have D9 := s4.free DB4
            refine ⟨_, rfl, D, _, upd B4 D (.lst ((vl.filter fun x => !decide (x.2 = u.2)).map lv)), _, _, _, rfl, s4.trans (same_new DB4), g13.know ((s12.trans s13) _ _ hD11) (g4.ne_a nD) (g4.ne_c nD), sN9.free D9, upd_same, vsub, vlen⟩
          · exact ⟨t, vl, B4, _, _, _, rfl, s4, g13, nt, ht, subv, lenv⟩
        · rintro σ H10 ⟨t, vl, B4, x8, x9, x10, rfl, s4, g4, nt, ht, subv, lenv⟩
          exact kk _ _ ⟨t, vl, B4, _, _, _, rfl, sN9.trans s4, g4, nt, ht, subv, lenv⟩
      · exact kk _ _ ⟨t1, v1, B2, _, _, _, rfl, s2, g3, nt1, ht1, sub1, by omega⟩
    obtain ⟨t, vl, B4, x8, x9, x10, rfl, s4, g4, nt, ht, subv, lenv⟩ := r
    have la4 : ∀ l ∈ vl, LAt B4 l := fun l hl => s4 _ _ (laN l (subv l hl))
    refine seq_mid (t := tIfS _ _ _) (fun σ' H' => ∃ (vl : List LRow) (B4 : Hp), σ' = [some (.ref a), some (.ref cl), some (.ref tb), some (.ref as), some (.ref l), some (.ref q0), some (.ref t), some (.int way), x8, x9, x10, none] ∧ Same N B4 ∧ Gd a c B4 H' ∧ B4 t = some (.lst (vl.map lv)) ∧ (∀ l ∈ vl, l ∈ evs) ∧ vl.length ≤ 1000) (fun D' kk => ?_) (fun σ' H' r => ?_)
    · have skip : ∀ H6, Same H' H6 → D'.nx [some (.ref a), some (.ref cl), some (.ref tb), some (.ref as), some (.ref l), some (.ref q0), some (.ref t), some (.int way), x8, x9, x10, none] H6 := fun H6 s6 => kk _ _ ⟨vl, B4, rfl, s4, g4.same s6, ht, subv, lenv⟩
      refine ⟨_, rfl, rfl, _, rfl, ?_⟩
      refine ite2 (fun _ => ?_) (fun _ => iteF (skip _ (Same.refl _)))
      refine ⟨_, rfl, Nat.zero_le _, fun e ne => ?_⟩
      have s6 : Same H' (upd H' e (.lst [])) := same_new ne
      refine ne_nil (B := B4) (plain_lk la4 fun l hl => nmE l (subv l hl)) (g4.ex.trans s6) (s6 _ _ (g4.ex _ _ ht)) upd_same ⟨_, rfl, ?_⟩
      refine ite2 (fun hne => ?_) (fun _ => skip _ s6)
      have g6 := g4.same s6
      have vm : (vl.map lv).length = vl.length := List.length_map _
      have vpos : 0 < vl.length := by
        cases vl with
        | nil => simp at hne
        | cons x t => simp
      refine ⟨_, rfl, .inl ⟨rfl, _, lof (g6.ex _ _ ht)⟩, _, rfl, _, rfl, t, _, rfl, .inl (lof (g6.ex _ _ ht)), a, c, ((vl.map lv).length : Nat), rfl, g6.st, by omega, by omega, fun r H7 r0 r1 st7 fr7 => ?_⟩
      have g7 := g6.fr fr7 st7
      have hi : r.toNat < vl.length := by omega
      refine ⟨t, vl.map lv, r, r.toNat, lv vl[r.toNat], rfl, rfl, g7.ex _ _ ht, by omega, by omega, seq_at r0 (by rw [vm]; omega), by rw [List.getElem?_map, List.getElem?_eq_getElem hi]; rfl, ?_⟩
      have er : (vl.map lv).eraseIdx r.toNat = (vl.eraseIdx r.toNat).map lv := erase_map _ _
      rw [er]
      have msub : ∀ x ∈ vl.eraseIdx r.toNat, x ∈ vl := fun x hx => List.mem_of_mem_eraseIdx hx
      refine kk _ _ ⟨vl.eraseIdx r.toNat, _, rfl, same_mut s4 nt, g7.put ht, upd_same, fun x hx => subv x (msub x hx), ?_⟩
      rw [List.length_eraseIdx, if_pos hi]; omega
    obtain ⟨vl, B4, rfl, s4, g4, ht, subv, lenv⟩ := r
    exact ⟨_, rfl, q t vl B4 _ (sN.trans s4) g4 (sN.free nt) ht (fun z hz => s4 _ _ (laN z (subv z hz))) (fun z hz => own z (subv z hz)) lenv⟩
end
end As

/-! ## L0 -/
namespace As
open PySem PySem.Spec PyProof.Rows L2
/-- a law: True at every script of at most 63 numbers -/
def spLaw (K : PySem.W.Frag) : Sp := fun vs H Q _ => ∃ (s : Addr) (ns : List Int), vs = [.ref s] ∧ SqL K H s (ns.map V.int) ∧ ns.length ≤ 63 ∧ ∀ H', Q (.bl true) H'
end As

/-! ## A8 -/
namespace As
open PySem PySem.Spec PyProof.Rows L2
/-- o.m(k = e, ..): the object, then the keywords' values -/
def tMethN (C : Addr) (m : Str) (j : Nat) (sp : Sp) (gV : List V → List V → List V) (ta : TE) (tk : TA) : TE := fun σ H Q => ta σ H fun x H1 => ∃ a dx fs, x = .ref a ∧ H1 a = some (.ins C dx fs) ∧ fs.lookup m = none ∧ tk σ H1 fun zs H2 => zs.length = j ∧ sp (gV [x] zs) H2 Q E0
section
variable {X : Cx} {k : Nat} {C f : Addr} {fd : FuncData} {ps ks : List Str} {sp : Sp} {m : Str} {pos apos : Pos} {o : Expr} {kws : List Keyword} {ta : TE} {tk : TA} {g : List Value → List Value → List Value} {gV : List V → List V → List V}
theorem pe_methN {pl : Sem Bool} (he : PE X o ta) (c : Cls X.K C) (hm : Meth X.K C m f) (F : FnOk X.prog X.w X.K X.mg X.base CX0 k f fd ps sp) (hr : Room k X.A) (hb : KBn X.K fd ps 1 ks g gV) (hkw : PK X kws tk)
    (hall : (backToKw pos (keywordEach kws X.env)).all (·.1.isSome) = true := by rfl) (hks : (backToKw pos (keywordEach kws X.env)).filterMap (·.1) = ks := by rfl)
    (hpl : ((backTo pos (starEach [] X.env)).any (·.1) || (backToKw pos (keywordEach kws X.env)).any (·.1.isNone)) = false := by rfl)
    (ht : eval (.Call (.Attribute o m apos) [] kws pos) X.env = (eval o X.env >>= fun ov => standAt apos.atName >>= fun _ => holding [ov] (getMethod ov m pl) >>= fun p => callWith pos p.1 p.2 (backTo pos (starEach [] X.env)) (backToKw pos (keywordEach kws X.env))) := by rfl) :
    PE X (.Call (.Attribute o m apos) [] kws pos) (tMethN C m ks.length sp gV ta tk) := by
  refine ⟨fun pins s σ H Q I h => ?_⟩
  refine PySem.W.methodCall_KW (pl := pl) (thn (he.run pins s σ H _ I h) fun u s1 ⟨x, H1, I1, rx, a, dx, fs, ex, ea, l, q⟩ => ?_) ht
  subst ex
  cases rx
  refine getmeth_ok I1 ea c hm l (PySem.W.callWith_KW0 (first := [.ref a]) (h₀ := X.base) I.ok.mod.kin hm.kp hall ?_ hpl)
  refine thn (hkw.run pos pins s1 σ H1 _ I1 q) fun ws s2 ⟨zs, H2, I2, rz, lz, q2⟩ => ⟨I2.kIn, ?_⟩
  rw [hks]
  exact run_fnN (us := [.ref a]) (vs := [.ref a]) F hr hb pass0 I2 (.cons rfl .nil) rz rfl lz q2
end
/-- a def of two parameters, its second given by name -/
theorem bn_two {K : PySem.W.Frag} {x qual p1 p2 : Str} {st : Stmt} {f : Addr} {fd : FuncData} (F : Fun K x qual st f fd)
    (h : ∀ (kV doc pm : Value) (an : Option Addr) (cdv ct u v : Value), bindArgs (PySem.W.fnOf x qual (defArgs st) (defBody st) (defScope st) .none kV doc pm an cdv ct) ⟨[u], [(p2, v)]⟩ = pure [(p1, u), (p2, v)]) :
    KBn K fd [p1, p2] 1 [p2] (fun us ws => us ++ ws) (fun vs zs => vs ++ zs) := by
  obtain ⟨oc, od, kV, doc, pm, an, cdv, ct, osl, rfl, lk, hcd⟩ := F.ex
  refine ⟨fun s us ws _ h1 h2 => ?_, fun r z => r.append z⟩
  match us, ws, h1, h2 with
  | [u], [v], _, _ => exact .of_eq (h kV doc pm an cdv ct u v)
theorem lenK {X : Cx} (K : PySem.W.Frag) (h : X.K = K := by rfl) : CallR X (.builtin "len") (fun xs H Q => ∃ p ys, xs = [.ref p] ∧ (SqL K H p ys ∨ SqT K H p ys) ∧ Q (.int ys.length) H) := h ▸ call_len_seq
end As

/-! ## A28 -/
namespace As
open PySem PySem.Spec PyProof.Rows L2
/-! a def called by names alone; its arguments in any order -/
section
variable {X : Cx} {k : Nat} {f : Addr} {fd : FuncData} {ps ks : List Str} {sp : Sp} {x : Str} {p pos : Pos} {kws : List Keyword} {tk : TA} {g : List Value → List Value → List Value} {gV : List V → List V → List V}
theorem pe_callN0 (F : FnOk X.prog X.w X.K X.mg X.base CX0 k f fd ps sp) (hr : Room k X.A) (hm : X.mg x = some (.ref f)) (hk : PySem.W.keepIn X.K (.ref f) = true) (hb : KBn X.K fd ps 0 ks g gV)
    (hkw : PK X kws tk) (hg : Gl X x := by rfl) (hall : (backToKw pos (keywordEach kws X.env)).all (·.1.isSome) = true := by rfl) (hks : (backToKw pos (keywordEach kws X.env)).filterMap (·.1) = ks := by rfl) (hdb : (x == ("__debug__" : Str)) = false := by decide)
    (hpl : ((backTo pos (starEach [] X.env)).any (·.1) || (backToKw pos (keywordEach kws X.env)).any (·.1.isNone)) = false := by rfl) :
    PE X (.Call (.Name x p) [] kws pos) (tCallN 0 ks.length sp gV E0 tNil tk) := by
  refine ⟨fun pins s σ H Q I h => ?_⟩
  refine wpAny_Call_Name_kw (ld_glob I hg hm ?_ hdb)
  refine PySem.W.callWith_KW0 (h₀ := X.base) I.ok.mod.kin hk hall ?_ hpl
  refine thn (hkw.run pos pins s σ H _ I h) fun ws s2 ⟨zs, H2, I2, rz, l1, l2, q2⟩ => ⟨I2.kIn, ?_⟩
  rw [hks]
  exact run_fnN (us := []) (vs := []) F hr hb pass0 I2 .nil rz rfl l2 q2
end
/-- items taken in another order -/
def pick {α : Type} (ix : List Nat) (l : List α) : List α := ix.filterMap fun i => l[i]?
theorem vals_get : ∀ {vs : List V} {us : List Value}, Vals vs us → ∀ i : Nat, (vs[i]? = none ∧ us[i]? = none) ∨ ∃ v u, vs[i]? = some v ∧ us[i]? = some u ∧ RelV v u
  | _, _, .nil, i => .inl ⟨rfl, rfl⟩
  | _, _, .cons h t, 0 => .inr ⟨_, _, rfl, rfl, h⟩
  | _, _, .cons h t, i + 1 => vals_get t i
theorem vals_pick {vs : List V} {us : List Value} (r : Vals vs us) : ∀ ix : List Nat, Vals (pick ix vs) (pick ix us)
  | [] => .nil
  | i :: ix => by
    unfold pick
    rw [List.filterMap_cons, List.filterMap_cons]
    rcases vals_get r i with ⟨h1, h2⟩ | ⟨v, u, h1, h2, h3⟩
    · rw [h1, h2]; exact vals_pick r ix
    · rw [h1, h2]; exact .cons h3 (vals_pick r ix)
abbrev pk2 {α : Type} (ix : List Nat) (us ws : List α) : List α := pick ix (us ++ ws)
/-- n values by place, the others by name: h is closed by rfl, case by case -/
theorem kbn_of {K : PySem.W.Frag} {x qual : Str} {st : Stmt} {f : Addr} {fd : FuncData} {ps ks : List Str} {n : Nat} (ix : List Nat) (F : Fun K x qual st f fd)
    (h : ∀ (kV doc pm : Value) (an : Option Addr) (cdv ct : Value) (us ws : List Value), us.length = n → ws.length = ks.length → bindArgs (PySem.W.fnOf x qual (defArgs st) (defBody st) (defScope st) .none kV doc pm an cdv ct) ⟨us, ks.zip ws⟩ = pure (ps.zip (pick ix (us ++ ws)))) :
    KBn K fd ps n ks (pk2 ix) (pk2 ix) := by
  obtain ⟨oc, od, kV, doc, pm, an, cdv, ct, osl, rfl, lk, hcd⟩ := F.ex
  exact ⟨fun s us ws _ h1 h2 => .of_eq (h kV doc pm an cdv ct us ws h1 h2), fun r z => vals_pick (r.append z) ix⟩
end As

/-! ## G37 -/
namespace As
open PySem PySem.Spec PyProof.Rows L2 TL
open PySem.W (dataLe AllAlike Sortable dataLt alike alikeAll)
/-! k21: great asks -/
theorem nd_lenM {α : Type} [DecidableEq α] : ∀ {l1 l2 : List α}, l1.Nodup → (∀ x ∈ l1, x ∈ l2) → l1.length ≤ l2.length
  | [], _, _, _ => Nat.zero_le _
  | a :: t, l2, nd, h => by
    rw [List.nodup_cons] at nd
    have hm := h a List.mem_cons_self
    have := nd_lenM (l1 := t) (l2 := l2.erase a) nd.2 fun x hx => (List.mem_erase_of_ne (fun z => by subst z; exact nd.1 hx)).mpr (h x (List.mem_cons_of_mem _ hx))
    rw [List.length_erase_of_mem hm] at this
    have := List.length_pos_of_mem hm
    rw [List.length_cons]; omega
theorem seenL_all {cs : List CRow} {ts : List TRow} (nd : (ts.map (·.2.1)).Nodup) {ls : List LK} (all : ∀ l, l ∈ ts.flatMap (looksT cs) → l ∈ ls) {r : TRow} {k : FK} (hr : r ∈ ts) (of : OfT cs r k) : seenL ls k = true := by
  have h1 : 0 < (sidesOf k).length := by rw [sides_lenK]; have := (oft_len of).2.2; omega
  have h2 := List.getElem_mem h1
  have h3 : (sidesOf k)[0] ∈ (ts.flatMap (looksT cs)).filter (fun l => seesB l k) := by rw [looks_filter nd hr of]; exact h2
  exact List.any_eq_true.mpr ⟨_, h2, decide_eq_true (all _ (List.mem_filter.mp h3).1)⟩
theorem openRows_congr {cs : List CRow} {ss : List SRow} {ks : List KRow} {a b : List FK} {ls : List LK} (h : ∀ k, k ∈ a ↔ k ∈ b) : openRows cs ss ks a ls = openRows cs ss ks b ls := by
  unfold openRows
  refine List.filter_congr fun r _ => ?_
  unfold openB
  congr 1
  exact shutB_congr (fun k _ => decide_eq_decide.mpr (h k)) fun _ _ => rfl
theorem openRows_none {H : Hp} {cs : List CRow} {ts : List TRow} {ss : List SRow} {ks : List KRow} {hv : List FK} {ls : List LK} (okc : ColsOk H cs) (okt : TabsOk H (cs.map (·.2.1)) ts) (ok : AskOk cs ts ss ks) (all : ∀ l, l ∈ ts.flatMap (looksT cs) → l ∈ ls) : openRows cs ss ks hv ls = [] := by
  unfold openRows
  refine List.filter_eq_nil_iff.mpr fun r hr => ?_
  obtain ⟨lrs, inl⟩ := lot_at hr
  have sn : ∀ k ∈ rowK ss ks r r.length, seenL ls k = true := fun k hk => by
    obtain ⟨r', hr', of⟩ := row_fact okc ok lrs inl hk
    exact seenL_all okt.nd all hr' of
  unfold openB shutB
  split
  · rw [List.all_eq_true.mpr sn]; simp
  · rename_i h
    rw [Bool.not_eq_true, List.all_eq_false] at h
    obtain ⟨k, hk, hp⟩ := h
    rw [List.any_eq_true.mpr ⟨k, hk, by rw [sn k hk]; simpa using hp⟩]; simp
theorem shaped_row (r : List Int) : SeqAt.shaped (rowD r) = true := shaped_tup ints_lay.1 (by rw [ints_lay.2]; decide)
theorem ne_rowV {K : PySem.W.Frag} {H : Hp} {rows : List (List Int)} {v : V} {ws : List WRow} {Q : VK} (h : RowV H rows v) (kw : ws.map (·.2) = rows) (wa : ∀ r ∈ ws, WAt H r) (q : Q (.bl false) H) : ∃ v0, atI (ws.map wv ++ [.non]) 0 = some v0 ∧ rNeD K v v0 H Q := by
  rcases h with ⟨h1, rfl⟩ | ⟨r, rest, t, h1, rfl, ht⟩
  · rw [h1, List.map_eq_nil_iff] at kw
    subst kw
    exact ⟨.non, rfl, .none, .none, .non, .non, rfl, rfl, q⟩
  · cases ws with
    | nil => rw [h1] at kw; cases kw
    | cons w0 ws =>
      rw [h1, List.map_cons] at kw
      injection kw with k1 _
      refine ⟨wv w0, by rw [List.map_cons, List.cons_append]; exact atI_zero, rowD r, rowD w0.2, .tup (tof ht) dp_ints, .tup (tof (wa w0 List.mem_cons_self)) dp_ints, shaped_row _, shaped_row _, ?_⟩
      rw [eqv_row, decide_eq_true k1.symm]; exact q
theorem plain_ws {K : PySem.W.Frag} {H : Hp} {ws : List WRow} (wa : ∀ r ∈ ws, WAt H r) : ∀ x ∈ ws.map wv, Plain K H x := fun x hx => by
  obtain ⟨r, hr, rfl⟩ := List.mem_map.mp hx
  exact ⟨rowD r.2, .tup (tof (wa r hr)) dp_ints, by simp [rowD, PyData.canLay0, ints_lay.1], by simp [rowD, PyData.depth, ints_lay.2]⟩
theorem nil_rows {ws : List WRow} {rows : List (List Int)} (kw : ws.map (·.2) = rows) : decide (ws.map wv = []) = decide (rows = []) := by
  subst kw
  cases ws <;> simp
section
variable {P : Program} {w : World} {K : PySem.W.Frag} {mg : Str → Option Value} {base : Heap}
def spGreat : Sp := fun vs H Q _ => ∃ (a c : Addr), vs = [.ref a] ∧ StAt H a c ∧ ∀ H', Q (.bl true) H'
abbrev nGreat : List Str := ["state", "stops", "columns", "tables", "asked", "present", "every", "views", "shop", "rows", "look"]
theorem sc_great : FnScope nGreat ["state"] (defScope s_lgreat_right) := ⟨rfl, rfl, rfl, by decide +kernel, rfl, by decide +kernel, by decide +kernel⟩
set_option maxHeartbeats 8000000 in
theorem ok_great {f fdr fca flf fso fal flo fin fsi forw fse C S : Addr} {fd ddr dca dlf dso dal dlo din dsi dorw dse : FuncData}
    (D : Df K mg "_law_great_right" s_lgreat_right ["state"] f fd) (T : Bi mg) (L : PlC K mg C) (Mk' : Mk K C fin) (bin : Binds K din ["self", "columns", "tables"] []) (Gin : FnOk P w K mg base CX0 4 fin din ["self", "columns", "tables"] (spInit K C))
    (Sc : StC K mg S fsi dsi) (GSi : FnOk P w K mg base CX0 5 fsi dsi ["self", "plan", "present"] (spSInit P w K C S))
    (Ddr : Df K mg "_law_draw" s_draw ["state", "many"] fdr ddr) (Gdr : FnOk P w K mg base CX0 1 fdr ddr ["state", "many"] spDraw)
    (Dca : Df K mg "_law_case" s_lcase ["state", "stops", "greatest"] fca dca) (Gca : FnOk P w K mg base CX0 4 fca dca ["state", "stops", "greatest"] (spCase K))
    (Dlf : Df K mg "_law_all_facts" s_lall_facts ["columns", "tables"] flf dlf) (Glf : FnOk P w K mg base CX0 2 flf dlf ["columns", "tables"] spLAllFacts)
    (Dal : Df K mg "_law_all_looks" s_lall_looks ["columns", "tables"] fal dal) (Gal : FnOk P w K mg base CX0 1 fal dal ["columns", "tables"] spLAllLooks)
    (Dso : Df K mg "_law_some" s_lsome ["state", "items"] fso dso) (Gso : FnOk P w K mg base CX0 3 fso dso ["state", "items"] spLSomeV)
    (Dlo : Df K mg "_law_open_rows" s_lopen_rows ["columns", "asked", "present", "views"] flo dlo) (Glo : FnOk P w K mg base CX0 4 flo dlo ["columns", "asked", "present", "views"] spLORows)
    (Dor : Df K mg "open_row" s_open_row ["store", "looks", "ask"] forw dorw) (Gor : FnOk P w K mg base CX0 9 forw dorw ["store", "looks", "ask"] (spOpenRow P w K C S))
    (Dse : Df K mg "settles" s_settles ["store", "looks", "ask"] fse dse) (Gse : FnOk P w K mg base CX0 9 fse dse ["store", "looks", "ask"] (spSettles P w K C S)) : FnOk P w K mg base CX0 10 f fd ["state"] spGreat := by
  refine D.F.ok sc_great (fun vs H Q E h => ?_) (fun cdv A outer s H vs Q E hr h => ?_)
  · obtain ⟨a, c, rfl, _⟩ := h; rfl
  · obtain ⟨a, c, rfl, st0, q⟩ := h
    have hu := hu64 hr
    have hr1 : Room 1 _ := hr.mono (by decide)
    have hr2 : Room 2 _ := hr.mono (by decide)
    have hr3 : Room 3 _ := hr.mono (by decide)
    have hr4 : Room 4 _ := hr.mono (by decide)
    have hr5 : Room 5 _ := hr.mono (by decide)
    have hr6 : Room 6 _ := hr.mono (by decide)
    refine ⟨_, pss_cons (ps_set (i := 1) sc_great.nd rfl (Or.inl rfl) (pe_op op_add pe_int (pcall Ddr Gdr hr1 (pa_cons (pv 0) (pa_cons pe_int pa_nil)))))
      (pss_cons (ps_asg (pcall Dca Gca hr4 (pa_cons (pv 0) (pa_cons (pv 1) (pa_cons (pe_ix ix_list (pe_lst (pa_cons pe_int (pa_cons pe_int (pa_cons pe_int pa_nil)))) (pe_op op_sub (pv 1) pe_int) (fun _ _ => rfl)) pa_nil)))) (pg_tup rfl (pgs_cons (pg_name (i := 2) sc_great.nd rfl (Or.inl rfl)) (pgs_cons (pg_name (i := 3) sc_great.nd rfl (Or.inl rfl)) (pgs_cons (pg_name (i := 4) sc_great.nd rfl (Or.inl rfl)) pgs_nil)))))
      (pss_cons (ps_par (i := 5) (j := 6) rfl sc_great.nd rfl rfl (by decide) rfl rfl (pa_cons (pcall Dso Gso hr3 (pa_cons (pv 0) (pa_cons (pcall Dlf Glf hr2 (pa_cons (pv 2) (pa_cons (pv 3) pa_nil))) pa_nil))) (pa_cons (pcall Dal Gal hr1 (pa_cons (pv 2) (pa_cons (pv 3) pa_nil))) pa_nil)) (by rfl))
      (pss_cons (ps_setLc (i := 7) (own := [("look", 10)]) (g := gName 10) (tt := tTest (tOp (rI0 fun i j => V.bl (decide (j < i))) (tCall spDraw [] E0 (tCons (tVar 0) (tCons (tC (.int 20)) tNil))) (tC (.int 0)))) rfl sc_great.nd rfl rfl (sw_true rfl rfl rfl (by decide +kernel)) (pi_list (pv 6)) (blkOk_by (N := nGreat) (sc := defScope s_lgreat_right) (by decide +kernel)) (fun _ _ _ _ _ => pg_name (i := 10) sc_great.nd rfl (Or.inl rfl)) (fun _ _ _ _ _ => pts_one (pt_cmpR op_gt (pcall Ddr Gdr hr1 (pa_cons (pv 0) (pa_cons pe_int pa_nil))) pe_int (nomark _))) (fun _ _ _ _ _ => pv 10))
      (pss_cons (ps_par (i := 8) (j := 9) rfl sc_great.nd rfl rfl (by decide) rfl rfl (pa_cons (pe_make Sc.mkr GSi hr6 rfl Sc.m Sc.b .nil pass0 (pa_cons (pe_make Mk' Gin hr5 rfl L.m bin .nil pass0 (pa_cons (pv 2) (pa_cons (pv 3) pa_nil))) (pa_cons (pv 5) pa_nil))) (pa_cons (pcall Dlo Glo hr4 (pa_cons (pv 2) (pa_cons (pv 4) (pa_cons (pv 5) (pa_cons (pv 7) pa_nil))))) pa_nil)) (by rfl))
      (pss_cons (ps_if (PW.pt (pw_or (pt_cmpR (op_neD hu) (pcall Dor Gor hr (pa_cons (pv 8) (pa_cons (pv 7) (pa_cons (pv 4) pa_nil)))) (pe_ix ix_list (pe_op op_cat (pv 9) (pe_lst (pa_cons pe_non pa_nil))) pe_int (fun _ _ => rfl)) (nomark _)) (pw_or1 (pt_cmpR (op_neD hu) (pcall Dse Gse hr (pa_cons (pv 8) (pa_cons (pv 7) (pa_cons (pv 4) pa_nil)))) (pe_cmpR (op_eqD hu) (pv 9) (pe_lst pa_nil) (nomark _)) (nomark _)))))
        (pss_one (ps_ret pe_bl))
        pss_nil)
      (pss_one (ps_ret (pe_cmpR op_isBl (pcall Dse Gse hr (pa_cons (pv 8) (pa_cons (pv 6) (pa_cons (pv 4) pa_nil)))) pe_bl (nomark _))))))))), ?_⟩
    refine ⟨_, rfl, a, c, 3, rfl, st0, by decide, by decide, fun r H2 r0 r1 st2 fr2 => ⟨4, r, rfl, rfl, ?_⟩⟩
    obtain ⟨gr, egr, gr0, few⟩ : ∃ gr : Int, atI [V.int 6, .int 5, .int 4] (4 + r - 4) = some (.int gr) ∧ (1 ≤ gr ∧ gr ≤ 6) ∧ gr ^ (4 + r).toNat ≤ 5000 := by
      rcases (show r = 0 ∨ r = 1 ∨ r = 2 by omega) with rfl | rfl | rfl
      · exact ⟨6, rfl, by decide, by decide⟩
      · exact ⟨5, rfl, by decide, by decide⟩
      · exact ⟨4, rfl, by decide, by decide⟩
    refine ⟨_, rfl, _, rfl, by show 3 ≤ sizeLine; decide, fun L nL => ⟨_, rfl, 4 + r, 4, rfl, rfl, L, _, 4 + r - 4, .int gr, rfl, rfl, lof upd_same, egr, ?_⟩⟩
    have st2 := st2.same (same_new (o := .lst [V.int 6, .int 5, .int 4]) nL)
    generalize upd H2 L (.lst [V.int 6, .int 5, .int 4]) = H2 at st2 ⊢
    refine ⟨a, c, 4 + r, gr, but2 H2 a c, rfl, but2_gd st2, by omega, gr0, fun p cl tb as cs ts ss ks B3 H3 s3 g3 hp hcl okc lc3 szs htb okt ask ok sl => ?_⟩
    refine ⟨p, _, rfl, tof (g3.ex _ _ hp), rfl, _, _, rfl, _, _, rfl, _, _, rfl, rfl, ?_⟩
    have rows : rowsOf cs ss ≤ 5000 := by
      have := rows_few (gr := gr) okc ok (by omega) szs
      rw [show ss.length = (4 + r).toNat by omega] at this
      omega
    -- facts, looks
    refine ⟨_, rfl, _, rfl, _, rfl, cl, tb, cs, ts, rfl, g3.ex _ _ hcl, okc.same g3.ex, g3.ex _ _ htb, okt.same g3.ex, fun qc fs ts2 H4 s4 nqc hqc fa4 perm kf => ?_⟩
    have g4 := g3.same s4
    have gB := but2_gd g4.st
    have sB : Same B3 (but2 H4 a c) := but2_sub g4
    have hqcB : but2 H4 a c qc = some (.lst (fs.map fv)) := by rw [but2_at (g3.ne_a nqc) (g3.ne_c nqc)]; exact hqc
    have faB : ∀ f ∈ fs, FAt (but2 H4 a c) f := fun f hf => (fa4 f hf).imm fun b xs e => but2_obj g4.st e (fun _ z => nomatch z)
    generalize but2 H4 a c = B4 at gB sB hqcB faB
    clear g4 s4 nqc hqc fa4
    have ownF : OwnF cs ts fs := fun f hf => by
      have h : f.2.2 ∈ ts2.flatMap (factsT cs) := by rw [← kf]; exact List.mem_map_of_mem hf
      obtain ⟨r, hr, hk⟩ := List.mem_flatMap.mp h
      exact ⟨r, perm.mem_iff.mp hr, factsT_of hk⟩
    have flen : fs.length ≤ 1000 := by
      have h := congrArg List.length kf
      rw [List.length_map, (List.Perm.flatMap_right (factsT cs) perm).length_eq] at h
      rw [h]; exact facts_max okc okt
    refine ⟨a, c, qc, fs.map fv, B4, rfl, gB, hqcB, by rw [List.length_map]; omega, fun tp ys B5 H5 s5 g5 ntp htp sub ly => ?_⟩
    obtain ⟨ps, rfl, psub⟩ := rows_of sub
    rw [List.length_map, List.length_map] at ly
    have s35 := sB.trans s5
    refine ⟨_, rfl, _, rfl, cl, tb, cs, ts, rfl, g5.ex _ _ (s35 _ _ hcl), (okc.same s35).same g5.ex, g5.ex _ _ (s35 _ _ htb), (okt.same s35).same g5.ex, fun qe evs ts3 H6 s6 nqe hqe la6 perm3 kl => ⟨_, _, rfl, ?_⟩⟩
    have g6 := g5.same s6
    have gN := but2_gd g6.st
    have s5N : Same B5 (but2 H6 a c) := but2_sub g6
    have hqeN : but2 H6 a c qe = some (.lst (evs.map lv)) := by rw [but2_at (g5.ne_a nqe) (g5.ne_c nqe)]; exact hqe
    have laN : ∀ l ∈ evs, LAt (but2 H6 a c) l := fun l hl => but2_obj g6.st (la6 l hl) (fun _ z => nomatch z)
    generalize but2 H6 a c = N at gN s5N hqeN laN
    clear g5 g6 s6 nqe hqe la6
    have s3N := s35.trans s5N
    have hclN := s3N _ _ hcl
    have htbN := s3N _ _ htb
    have okcN := okc.same s3N
    have oktN := okt.same s3N
    have askN := ask.same s3N
    have htpN := s5N _ _ htp
    have faN : ∀ f ∈ ps, FAt N f := fun f hf => (faB f (psub f hf)).imm (same_imm (s5.trans s5N))
    have ownP : OwnF cs ts ps := fun f hf => ownF f (psub f hf)
    have ownE : ∀ l ∈ evs, ∃ r ∈ ts, LofT cs r l.2 := fun l hl => by
      have h : l.2 ∈ ts3.flatMap (looksT cs) := by rw [← kl]; exact List.mem_map_of_mem hl
      obtain ⟨r, hr, hk⟩ := List.mem_flatMap.mp h
      exact ⟨r, perm3.mem_iff.mp hr, looksT_of hk⟩
    have elen : evs.length ≤ 1000 := by
      have h := congrArg List.length kl
      rw [List.length_map, (List.Perm.flatMap_right (looksT cs) perm3).length_eq] at h
      rw [h]; exact looks_max okc okt
    have allE : ∀ l, l ∈ ts.flatMap (looksT cs) → l ∈ evs.map (·.2) := fun l hl => by
      rw [kl]; exact (List.Perm.flatMap_right (looksT cs) perm3).mem_iff.mpr hl
    clear gB sB hqcB faB s5 htp hcl htb okc okt ask g3 hp s3 s35 s5N s3N ntp sub
    -- most looks
    refine ⟨_, rfl, qe, rfl, ⟨_, lof (gN.ex _ _ hqeN)⟩, fun D nD => ?_⟩
    have lm : (evs.map lv).length = evs.length := List.length_map _
    refine lc_draw (B := N) (H1 := H6) (a := a) (c := c) (walk_at (K := K) (a := qe) (xs := evs.map lv) .non) gN nD (fun B' H s gd => lof (gd.ex _ _ (s _ _ hqeN))) (by rw [lm]; exact Nat.lt_of_le_of_lt (show evs.length ≤ 1000 by omega) (by decide))
      (fun i acc _ => ∃ gs : List LRow, acc = gs.map lv ∧ gs.length ≤ i ∧ ∀ x ∈ gs, x ∈ evs) ⟨[], rfl, Nat.le_refl _, fun _ z => nomatch z⟩ (fun _ _ _ _ h _ => h) (fun i acc _ ⟨zs, e, l, _⟩ => by rw [e, List.length_map]; exact l)
      (fun i H7 B7 acc Q1 Q2 hi s7 g7 p7 d7 k1 k2 => ?_) (fun H7 B7 acc s7 g7 d7 p7 => ?_)
    · obtain ⟨gs, rfl, lg, sub⟩ := p7
      rw [lm] at hi
      have ev : (evs.map lv).getD i .non = lv evs[i] := by rw [List.getD_eq_getElem?_getD, List.getElem?_map, List.getElem?_eq_getElem hi]; rfl
      rw [ev]
      refine ⟨rfl, ?_⟩
      refine ⟨_, rfl, a, c, 20, rfl, g7.st, by decide, by decide, fun r H8 r0 r1 st8 fr8 => ⟨r, 0, rfl, rfl, _, rfl, ite2 (fun _ => ?_) (fun _ => ?_)⟩⟩
      · refine ⟨_, rfl, k1 _ _ B7 (Same.refl _) (g7.fr fr8 st8) ⟨gs ++ [evs[i]], by rw [List.map_append]; rfl, by rw [List.length_append]; exact Nat.succ_le_succ lg, fun x hx => ?_⟩⟩
        rcases List.mem_append.mp hx with hx | hx
        · exact sub x hx
        · rw [List.mem_singleton] at hx; rw [hx]; exact List.getElem_mem hi
      · exact k2 _ B7 (Same.refl _) (g7.fr fr8 st8) ⟨gs, rfl, Nat.le_succ_of_le lg, sub⟩
    obtain ⟨vl, rfl, vlen, vsub⟩ := p7
    rw [lm] at vlen
    have okcB := okcN.same s7
    have oktB := oktN.same s7
    -- the store, its open rows
    refine ⟨_, rfl, _, rfl, fun y dy ny ndy ne => make_plan ny ndy ne (.inl (g7.ex _ _ (s7 _ _ hclN))) (.inl (g7.ex _ _ (s7 _ _ htbN))) (okcB.same g7.ex) (oktB.same g7.ex) fun H8 s8 pl8 => ⟨rfl, ?_⟩⟩
    have s78 := s7.trans (g7.ex.trans s8)
    refine ⟨_, rfl, fun sx dx nx ndx ne => make_store nx ndx ne pl8 (okcN.same s78) (oktN.same s78) (.lst (s78 _ _ htpN)) (fun f hf => (faN f hf).imm (same_imm s78)) ownP (by omega) fun H9 gs s9 st9 km gsub => ⟨rfl, ?_⟩⟩
    have sN9 := s78.trans s9
    have sB9 : Same B7 H9 := g7.ex.trans (s8.trans s9)
    have la9 : ∀ l ∈ vl, LAt H9 l := fun l hl => sN9 _ _ (laN l (vsub l hl))
    refine ⟨_, rfl, _, rfl, _, rfl, _, rfl, cl, as, tp, D, cs, ts, ss, ks, ps, vl, rfl, sN9 _ _ hclN, okcN.same sN9, oktN.same sN9, askN.same sN9, ok, rows, sN9 _ _ htpN, fun f hf => (faN f hf).imm (same_imm sN9), by omega, sB9 _ _ d7, la9, by omega, fun qo wo H10 s10 nqo hqo wao kwo => ⟨_, _, rfl, ?_⟩⟩
    have glen : gs.length ≤ 1000 := by
      obtain ⟨dx', pr', fa', us', h1, h2, h3, h4, h5, h6, h7⟩ := id st9
      have h := nd_lenM (l1 := keysF gs) (l2 := keysF ps) h7.1 fun k hk => (km k).mp hk
      unfold keysF at h
      rw [List.length_map, List.length_map] at h
      omega
    have sN10 := sN9.trans s10
    have sE : ∀ (v : Addr) (zs : List LRow), (∀ z ∈ zs, z ∈ evs) → zs.length ≤ 1000 → H10 v = some (.lst (zs.map lv)) → SetAt P w K H10 C S sx y v as gs zs ss ks cs ts := fun v zs zsub zlen hv =>
      ⟨st9.same s10, by omega, (pl8.same s9).same s10, okcN.same sN10, oktN.same sN10, .lst hv, fun x hx => sN10 _ _ (laN x (zsub x hx)), fun x hx => ownE x (zsub x hx), by omega, askN.same sN10, ok, rows⟩
    have z10 := sE D vl vsub (by omega) (s10 _ _ (sB9 _ _ d7))
    have ze10 := sE qe evs (fun _ h => h) elen (sN10 _ _ hqeN)
    rw [openRows_congr (fun k => (km k).symm)] at kwo
    refine ⟨_, rfl, _, rfl, _, rfl, sx, y, D, as, gs, vl, ss, ks, cs, ts, rfl, z10, fun v1 H11 s11 rv => ?_⟩
    have wao11 : ∀ r ∈ wo, WAt H11 r := fun r hr => s11 _ _ (wao r hr)
    have wolen : wo.length ≤ 5000 := by
      have h := congrArg List.length kwo
      rw [List.length_map] at h
      have h2 : (openRows cs ss ks (keysF gs) (vl.map (·.2))).length ≤ (rowsL (ss.map (lotOf cs))).length := List.length_filter_le _ _
      rw [rowsL_count] at h2
      have h3 : (lenL (ss.map (lotOf cs)) : Int) ≤ 5000 := by rw [← prodI_lenL]; exact rows
      omega
    refine ⟨_, rfl, by show 1 ≤ sizeLine; decide, fun L2 nL2 => ?_⟩
    have s12 : Same H11 (upd H11 L2 (.lst [.non])) := same_new nL2
    have hL2 : (upd H11 L2 (.lst [.non])) L2 = some (.lst [.non]) := upd_same
    generalize upd H11 L2 (.lst [.non]) = H12 at s12 hL2 ⊢
    refine ⟨qo, L2, _, _, rfl, rfl, (s11.trans s12) _ _ hqo, hL2, by rw [List.length_map]; exact Nat.le_trans (show wo.length + 1 ≤ 5001 by omega) (by decide), fun pc npc => ?_⟩
    have s13 : Same H12 (upd H12 pc (.lst (wo.map wv ++ [.non]))) := same_new npc
    have hpc : (upd H12 pc (.lst (wo.map wv ++ [.non]))) pc = some (.lst (wo.map wv ++ [.non])) := upd_same
    generalize upd H12 pc (.lst (wo.map wv ++ [.non])) = H13 at s13 hpc ⊢
    have s1013 := s11.trans (s12.trans s13)
    refine (fun (K1 : ∃ v0, atI (wo.map wv ++ [.non]) 0 = some v0 ∧ rNeD K v1 v0 H13 _) => let ⟨v0, e0, ne0⟩ := K1; ⟨pc, _, 0, v0, rfl, rfl, lof hpc, e0, ne0⟩) (ne_rowV (rv.same (s12.trans s13)) kwo (fun r hr => s1013 _ _ (wao r hr)) ⟨_, rfl, iteF ?_⟩)
    refine ⟨_, rfl, _, rfl, _, rfl, sx, y, D, as, gs, vl, ss, ks, cs, ts, rfl, z10.same s1013, fun H14 s14 => ?_⟩
    have s1014 := s1013.trans s14
    refine ⟨_, rfl, Nat.zero_le _, fun e ne => ?_⟩
    have s15 : Same H14 (upd H14 e (.lst [])) := same_new ne
    refine eq_nil (B := H14) (plain_ws fun r hr => s1014 _ _ (wao r hr)) s15 (s15 _ _ (s1014 _ _ hqo)) upd_same ?_
    rw [nil_rows kwo]
    refine ⟨.bool _, .bool _, .bl _, .bl _, rfl, rfl, _, rfl, ?_⟩
    have eb : ∀ b : Bool, (!PyData.eqv (.bool b) (.bool b)) = false := fun b => by cases b <;> rfl
    rw [eb]
    refine iteF ?_
    refine ⟨_, rfl, _, rfl, _, rfl, sx, y, qe, as, gs, evs, ss, ks, cs, ts, rfl, ze10.same (s1014.trans s15), fun H16 s16 => ?_⟩
    rw [openRows_none okcN oktN ok allE, decide_eq_true rfl]
    exact ⟨true, true, rfl, rfl, q _⟩
end
end As

/-! ## G38 -/
namespace As
open PySem PySem.Spec PyProof.Rows L2 TL
open PySem.W (dataLe AllAlike Sortable dataLt alike alikeAll)
/-! k21's law -/
theorem any_row {rs : List (List Int)} {r : List Int} : ((rs.map rowD).any fun z => PyData.eqv z (rowD r)) = decide (r ∈ rs) := by
  rw [List.any_map]
  induction rs with
  | nil => simp
  | cons a l ih =>
    rw [List.any_cons, ih]
    show (PyData.eqv (rowD a) (rowD r) || _) = _
    rw [eqv_row]
    by_cases h : a = r
    · subst h; simp
    · have h2 : ¬ r = a := fun z => h z.symm
      simp [h, h2]
theorem dp_wsM {K : PySem.W.Frag} {H : Hp} : ∀ {ws : List WRow}, (∀ r ∈ ws, WAt H r) → DpAll K H (ws.map wv) ((ws.map (·.2)).map rowD)
  | [], _ => .nil
  | r :: _, h => .cons (.tup (tof (h r List.mem_cons_self)) dp_ints) (dp_wsM fun x hx => h x (List.mem_cons_of_mem _ hx))
/-- a row that is open and answered is not answered by the seen facts -/
theorem open_gone {cs : List CRow} {ss : List SRow} {ks : List KRow} {ps : List FRow} {ls : List LK} {r : List Int} (h1 : r ∈ openRows cs ss ks (keysF ps) ls) (h2 : r ∈ ansL cs ss ks (keysF ps)) : decide (r ∈ ansL cs ss ks (keysF (ps.filter fun f => seenL ls f.2.2))) = false := by
  refine decide_eq_false fun h3 => ?_
  have o := (List.mem_filter.mp h1).2
  have a := (List.mem_filter.mp h2).2
  have b := (List.mem_filter.mp h3).2
  unfold openB shutB at o
  rw [if_pos a] at o
  have sn : ((rowK ss ks r r.length).all (seenL ls)) = true := List.all_eq_true.mpr fun k hk => by
    have := of_decide_eq_true (List.all_eq_true.mp b k hk)
    unfold keysF at this
    obtain ⟨f, hf, e⟩ := List.mem_map.mp this
    rw [← e]; exact (List.mem_filter.mp hf).2
  rw [sn] at o
  cases o
section
variable {P : Program} {w : World} {K : PySem.W.Frag} {mg : Str → Option Value} {base : Heap}
abbrev nLaw : List Str := ["script", "state", "turn", "stops", "columns", "tables", "asked", "present", "shop", "again", "views", "rows", "found", "seen", "fact"]
theorem sc_law : FnScope nLaw ["script"] (defScope s_law) := ⟨rfl, rfl, rfl, by decide +kernel, rfl, by decide +kernel, by decide +kernel⟩
set_option maxHeartbeats 8000000 in
theorem ok_law {f fst fdr fca flf fso flv flo flw fis fgr fin fsi forw C S : Addr} {fd dst ddr dca dlf dso dlv dlo dlw dis dgr din dsi dorw : FuncData}
    (D : Df K mg "law" s_law ["script"] f fd) (T : Bi mg) (L : PlC K mg C) (Mk' : Mk K C fin) (bin : Binds K din ["self", "columns", "tables"] []) (Gin : FnOk P w K mg base CX0 4 fin din ["self", "columns", "tables"] (spInit K C))
    (Sc : StC K mg S fsi dsi) (GSi : FnOk P w K mg base CX0 5 fsi dsi ["self", "plan", "present"] (spSInit P w K C S))
    (Dst : Df K mg "_law_state" s_state ["script"] fst dst) (Gst : FnOk P w K mg base CX0 1 fst dst ["script"] (spState K))
    (Ddr : Df K mg "_law_draw" s_draw ["state", "many"] fdr ddr) (Gdr : FnOk P w K mg base CX0 1 fdr ddr ["state", "many"] spDraw)
    (Dca : Df K mg "_law_case" s_lcase ["state", "stops", "greatest"] fca dca) (Gca : FnOk P w K mg base CX0 4 fca dca ["state", "stops", "greatest"] (spCase K))
    (Dlf : Df K mg "_law_all_facts" s_lall_facts ["columns", "tables"] flf dlf) (Glf : FnOk P w K mg base CX0 2 flf dlf ["columns", "tables"] spLAllFacts)
    (Dso : Df K mg "_law_some" s_lsome ["state", "items"] fso dso) (Gso : FnOk P w K mg base CX0 3 fso dso ["state", "items"] spLSomeV)
    (Dlv : Df K mg "_law_views" s_lviews ["state", "columns", "tables", "asked", "present"] flv dlv) (Glv : FnOk P w K mg base CX0 5 flv dlv ["state", "columns", "tables", "asked", "present"] spLViews)
    (Dlo : Df K mg "_law_open_rows" s_lopen_rows ["columns", "asked", "present", "views"] flo dlo) (Glo : FnOk P w K mg base CX0 4 flo dlo ["columns", "asked", "present", "views"] spLORows)
    (Dlw : Df K mg "_law_answer" s_lanswer ["columns", "asked", "present"] flw dlw) (Glw : FnOk P w K mg base CX0 2 flw dlw ["columns", "asked", "present"] (spLAnswer P w))
    (Dis : Df K mg "_law_is_seen" s_lis_seen ["views", "fact"] fis dis) (Gis : FnOk P w K mg base CX0 2 fis dis ["views", "fact"] (spLSeen P w))
    (Dor : Df K mg "open_row" s_open_row ["store", "looks", "ask"] forw dorw) (Gor : FnOk P w K mg base CX0 9 forw dorw ["store", "looks", "ask"] (spOpenRow P w K C S))
    (Nor : KBn K dorw ["store", "looks", "ask"] 0 ["ask", "looks", "store"] (pk2 [2, 1, 0]) (pk2 [2, 1, 0]))
    (Dgr : Df K mg "_law_great_right" s_lgreat_right ["state"] fgr dgr) (Ggr : FnOk P w K mg base CX0 10 fgr dgr ["state"] spGreat) : FnOk P w K mg base CX0 11 f fd ["script"] (spLaw K) := by
  refine D.F.ok sc_law (fun vs H Q E h => ?_) (fun cdv A outer s H vs Q E hr h => ?_)
  · obtain ⟨sa, ns, rfl, _⟩ := h; rfl
  · obtain ⟨sa, ns, rfl, hs, hl, q⟩ := h
    have hu := hu64 hr
    have hu65 : (A.deeper (envOfC (Str.ofString "law") (defScope s_law) s.heap.objs.size f cdv)).units + 65 < cLine := by have := hr.un; omega
    have hr1 : Room 1 _ := hr.mono (by decide)
    have hr2 : Room 2 _ := hr.mono (by decide)
    have hr3 : Room 3 _ := hr.mono (by decide)
    have hr4 : Room 4 _ := hr.mono (by decide)
    have hr5 : Room 5 _ := hr.mono (by decide)
    have hr6 : Room 6 _ := hr.mono (by decide)
    have hr9 : Room 9 _ := hr.mono (by decide)
    refine ⟨_, pss_cons (ps_set (i := 1) sc_law.nd rfl (Or.inl rfl) (pcall Dst Gst hr1 (pa_cons (pv 0) pa_nil)))
      (pss_cons (ps_for PassesOwn.never rfl (pi_range1 rfl T.range (pa_cons pe_int pa_nil)) (pg_name (i := 2) sc_law.nd rfl (Or.inl rfl))
        (pss_cons (ps_set (i := 3) sc_law.nd rfl (Or.inl rfl) (pe_op op_add pe_int (pcall Ddr Gdr hr1 (pa_cons (pv 1) (pa_cons pe_int pa_nil)))))
        (pss_cons (ps_asg (pcall Dca Gca hr4 (pa_cons (pv 1) (pa_cons (pv 3) (pa_cons (pe_ix ix_list (pe_lst (pa_cons pe_int (pa_cons pe_int (pa_cons pe_int (pa_cons pe_int (pa_cons pe_int (pa_cons pe_int pa_nil))))))) (pe_op op_sub (pv 3) pe_int) (fun _ _ => rfl)) pa_nil)))) (pg_tup rfl (pgs_cons (pg_name (i := 4) sc_law.nd rfl (Or.inl rfl)) (pgs_cons (pg_name (i := 5) sc_law.nd rfl (Or.inl rfl)) (pgs_cons (pg_name (i := 6) sc_law.nd rfl (Or.inl rfl)) pgs_nil)))))
        (pss_cons (ps_set (i := 7) sc_law.nd rfl (Or.inl rfl) (pcall Dso Gso hr3 (pa_cons (pv 1) (pa_cons (pcall Dlf Glf hr2 (pa_cons (pv 4) (pa_cons (pv 5) pa_nil))) pa_nil))))
        (pss_cons (ps_set (i := 8) sc_law.nd rfl (Or.inl rfl) (pe_make Sc.mkr GSi hr6 rfl Sc.m Sc.b .nil pass0 (pa_cons (pe_make Mk' Gin hr5 rfl L.m bin .nil pass0 (pa_cons (pv 4) (pa_cons (pv 5) pa_nil))) (pa_cons (pv 7) pa_nil))))
        (pss_one (ps_for PassesOwn.never rfl (pi_range1 rfl T.range (pa_cons pe_int pa_nil)) (pg_name (i := 9) sc_law.nd rfl (Or.inl rfl))
          (pss_cons (ps_set (i := 10) sc_law.nd rfl (Or.inr rfl) (pcall Dlv Glv hr5 (pa_cons (pv 1) (pa_cons (pv 4) (pa_cons (pv 5) (pa_cons (pv 6) (pa_cons (pv 7) pa_nil)))))))
          (pss_cons (ps_set (i := 11) sc_law.nd rfl (Or.inl rfl) (pcall Dlo Glo hr4 (pa_cons (pv 4) (pa_cons (pv 6) (pa_cons (pv 7) (pa_cons (pv 10) pa_nil))))))
          (pss_cons (ps_for PassesOwn.never rfl (pi_list (pe_lst (pa_cons (pcall Dor Gor hr9 (pa_cons (pv 8) (pa_cons (pv 10) (pa_cons (pv 6) pa_nil)))) (pa_cons (pe_callN0 Gor hr9 Dor.m Dor.F.kp Nor (pk_cons (pv 6) (pk_cons (tupK K (hm := T.tuple) (pv 10)) (pk_cons (pv 8) pk_nil)))) pa_nil)))) (pg_name (i := 12) sc_law.nd rfl (Or.inl rfl))
            (pss_cons (ps_if (PW.pt (pw_and (pt_cmpR (op_eqD hu) (pv 11) (pe_lst pa_nil) (nomark _)) (pw_and1 (pt_cmp (pc_notN (pv 12))))))
              (pss_one (ps_ret pe_bl))
              pss_nil)
            (pss_one (ps_if (PW.pt (pw_and (pt_cmpR (op_neD hu) (pv 11) (pe_lst pa_nil) (nomark _)) (pw_and1 (PW.pt (pw_or (pt_not (pt_val (pe_callB call_isi (by rfl) T.isinst (by decide +kernel) (pa_cons (pv 12) (pa_cons (pe_bltn (v := .ty "tuple") (by rfl) T.tuple (by decide +kernel) rfl) pa_nil))))) (pw_or1 (pt_cmpR (op_neD hu) (pv 12) (pe_ix ix_list (pv 11) pe_int (fun _ _ => rfl)) (nomark _))))))))
              (pss_one (ps_ret pe_bl))
              pss_nil))))
          (pss_one (ps_if (PW.pt (pw_and (pt_cmpR (op_neD hu) (pv 11) (pe_lst pa_nil) (nomark _)) (pw_and1 (pt_cmpR (inDK K hu65) (pe_ix ix_list (pv 11) pe_int (fun _ _ => rfl)) (pcall Dlw Glw hr2 (pa_cons (pv 4) (pa_cons (pv 6) (pa_cons (pv 7) pa_nil)))) rfl))))
            (pss_cons (ps_setLc (i := 13) (own := [("fact", 14)]) (g := gName 14) (tt := tB (tCall (spLSeen P w) [] E0 (tCons (tVar 10) (tCons (tVar 14) tNil)))) rfl sc_law.nd rfl rfl (sw_true rfl rfl rfl (by decide +kernel)) (pi_list (pv 7)) (blkOk_by (N := nLaw) (sc := defScope s_law) (by decide +kernel)) (fun _ _ _ _ _ => pg_name (i := 14) sc_law.nd rfl (Or.inl rfl)) (fun _ _ _ _ _ => pts_one (pt_val (pcall Dis Gis hr2 (pa_cons (pv 10) (pa_cons (pv 14) pa_nil))))) (fun _ _ _ _ _ => pv 14))
            (pss_one (ps_if (pt_cmpR (inDK K hu65) (pe_ix ix_list (pv 11) pe_int (fun _ _ => rfl)) (pcall Dlw Glw hr2 (pa_cons (pv 4) (pa_cons (pv 6) (pa_cons (pv 13) pa_nil)))) rfl)
              (pss_one (ps_ret pe_bl))
              pss_nil)))
            pss_nil))))))))))))
      (pss_one (ps_ret (pcall Dgr Ggr hr (pa_cons (pv 1) pa_nil))))), ?_⟩
    refine ⟨_, rfl, sa, ns, rfl, hs, hl, fun a c H1 g1 => ?_⟩
    refine ⟨4, rfl, by decide, by decide, for_range (lo := 0) (n := 4) (fun i σ H' => ∃ x2 x3 x4 x5 x6 x7 x8 x9 x10 x11 x12 x13 : Option V, σ = [some (.ref sa), some (.ref a), x2, x3, x4, x5, x6, x7, x8, x9, x10, x11, x12, x13, none] ∧ StAt H' a c) ⟨none, none, none, none, none, none, none, none, none, none, none, none, rfl, g1.st⟩ ?_ ?_⟩
    · clear g1
      rintro i σ H1 hi ⟨x2, x3, x4, x5, x6, x7, x8, x9, x10, x11, x12, x13, rfl, st1⟩
      refine ⟨_, rfl, a, c, 6, rfl, st1, by decide, by decide, fun r H2 r0 r1 st2 fr2 => ⟨1, r, rfl, rfl, ?_⟩⟩
      obtain ⟨gr, egr, gr0, few⟩ : ∃ gr : Int, atI [V.int 6, .int 6, .int 5, .int 4, .int 4, .int 3] (1 + r - 1) = some (.int gr) ∧ (1 ≤ gr ∧ gr ≤ 6) ∧ gr ^ (1 + r).toNat ≤ 5000 := by
        rcases (show r = 0 ∨ r = 1 ∨ r = 2 ∨ r = 3 ∨ r = 4 ∨ r = 5 by omega) with rfl | rfl | rfl | rfl | rfl | rfl
        · exact ⟨6, rfl, by decide, by decide⟩
        · exact ⟨6, rfl, by decide, by decide⟩
        · exact ⟨5, rfl, by decide, by decide⟩
        · exact ⟨4, rfl, by decide, by decide⟩
        · exact ⟨4, rfl, by decide, by decide⟩
        · exact ⟨3, rfl, by decide, by decide⟩
      refine ⟨_, rfl, _, rfl, by show 6 ≤ sizeLine; decide, fun L nL => ⟨_, rfl, 1 + r, 1, rfl, rfl, L, _, 1 + r - 1, .int gr, rfl, rfl, lof upd_same, egr, ?_⟩⟩
      have st2 := st2.same (same_new (o := .lst [V.int 6, .int 6, .int 5, .int 4, .int 4, .int 3]) nL)
      generalize upd H2 L (.lst [V.int 6, .int 6, .int 5, .int 4, .int 4, .int 3]) = H2 at st2 ⊢
      refine ⟨a, c, 1 + r, gr, but2 H2 a c, rfl, but2_gd st2, by omega, gr0, fun p cl tb as cs ts ss ks B3 H3 s3 g3 hp hcl okc lc3 szs htb okt ask ok sl => ?_⟩
      refine ⟨p, _, rfl, tof (g3.ex _ _ hp), rfl, _, _, rfl, _, _, rfl, _, _, rfl, rfl, ?_⟩
      have rows : rowsOf cs ss ≤ 5000 := by
        have := rows_few (gr := gr) okc ok (by omega) szs
        rw [show ss.length = (1 + r).toNat by omega] at this
        omega
      -- the facts that stand
      refine ⟨_, rfl, _, rfl, _, rfl, cl, tb, cs, ts, rfl, g3.ex _ _ hcl, okc.same g3.ex, g3.ex _ _ htb, okt.same g3.ex, fun qc fs ts2 H4 s4 nqc hqc fa4 perm kf => ?_⟩
      have g4 := g3.same s4
      have gB := but2_gd g4.st
      have sB : Same B3 (but2 H4 a c) := but2_sub g4
      have hqcB : but2 H4 a c qc = some (.lst (fs.map fv)) := by rw [but2_at (g3.ne_a nqc) (g3.ne_c nqc)]; exact hqc
      have faB : ∀ f ∈ fs, FAt (but2 H4 a c) f := fun f hf => (fa4 f hf).imm fun b xs e => but2_obj g4.st e (fun _ z => nomatch z)
      generalize but2 H4 a c = B4 at gB sB hqcB faB
      clear g4 s4 nqc hqc fa4
      have ownF : OwnF cs ts fs := fun f hf => by
        have h : f.2.2 ∈ ts2.flatMap (factsT cs) := by rw [← kf]; exact List.mem_map_of_mem hf
        obtain ⟨r, hr, hk⟩ := List.mem_flatMap.mp h
        exact ⟨r, perm.mem_iff.mp hr, factsT_of hk⟩
      have flen : fs.length ≤ 1000 := by
        have h := congrArg List.length kf
        rw [List.length_map, (List.Perm.flatMap_right (factsT cs) perm).length_eq] at h
        rw [h]; exact facts_max okc okt
      refine ⟨a, c, qc, fs.map fv, B4, rfl, gB, hqcB, by rw [List.length_map]; omega, fun tp ys B5 H5 s5 g5 ntp htp sub ly => ?_⟩
      obtain ⟨ps, rfl, psub⟩ := rows_of sub
      rw [List.length_map, List.length_map] at ly
      have s35 := sB.trans s5
      have okc5 := okc.same s35
      have okt5 := okt.same s35
      -- the store
      refine ⟨_, rfl, _, rfl, fun y dy ny ndy ne => make_plan ny ndy ne (.inl (g5.ex _ _ (s35 _ _ hcl))) (.inl (g5.ex _ _ (s35 _ _ htb))) (okc5.same g5.ex) (okt5.same g5.ex) fun H6 s6 pl6 => ⟨rfl, ?_⟩⟩
      have s56 := g5.ex.trans s6
      have ownP : OwnF cs ts ps := fun f hf => ownF f (psub f hf)
      have fa5 : ∀ f ∈ ps, FAt B5 f := fun f hf => (faB f (psub f hf)).imm (same_imm s5)
      refine ⟨_, rfl, fun sx dx nx ndx ne => make_store nx ndx ne pl6 (okc5.same s56) (okt5.same s56) (.lst (s56 _ _ htp)) (fun f hf => (fa5 f hf).imm (same_imm s56)) ownP (by omega) fun H7 gs s7 st7 km gsub => ⟨rfl, ?_⟩⟩
      have g7 := (g5.same s6).same s7
      have glen : gs.length ≤ 1000 := by
        obtain ⟨dx', pr', fa', us', h1, h2, h3, h4, h5, h6, h7⟩ := id st7
        have h := nd_lenM (l1 := keysF gs) (l2 := keysF ps) h7.1 fun k hk => (km k).mp hk
        unfold keysF at h
        rw [List.length_map, List.length_map] at h
        omega
      have gN := but2_gd g7.st
      have s5N : Same B5 (but2 H7 a c) := but2_sub g7
      have stN : StoreAt P w (but2 H7 a c) S sx y gs := by
        obtain ⟨dx', pr', fa', us', h1, h2, h3, h4, h5, h6, h7⟩ := st7
        exact ⟨dx', pr', fa', us', but2_obj g7.st h1 (fun _ z => nomatch z), but2_obj g7.st h2 (fun _ z => nomatch z), fun f hf => (h3 f hf).imm fun b xs e => but2_obj g7.st e (fun _ z => nomatch z), h4, but2_obj g7.st h5 (fun _ z => nomatch z), h6, h7⟩
      have plN : PlanAt (but2 H7 a c) C y cs ts := (pl6.same s7).sub fun b o e n _ => but2_obj g7.st e n
      generalize but2 H7 a c = N at gN s5N stN plN
      have s3N := s35.trans s5N
      have hclN := s3N _ _ hcl
      have htbN := s3N _ _ htb
      have okcN := okc.same s3N
      have oktN := okt.same s3N
      have askN := ask.same s3N
      have htpN := s5N _ _ htp
      have faN : ∀ f ∈ ps, FAt N f := fun f hf => (fa5 f hf).imm (same_imm s5N)
      have nmP := ownP.nm oktN
      clear gB sB hqcB faB s5 htp hcl htb okc okt ask g3 hp s3 s35 s5N s3N ntp sub g5 g7 st7 s6 s7 pl6 okc5 okt5 fa5 s56 nx ndx ny ndy
      refine ⟨2, rfl, by decide, by decide, for_range (lo := 0) (n := 2) (fun j σ H' => ∃ x9 x10 x11 x12 x13 : Option V, σ = [some (.ref sa), some (.ref a), some (.int (0 + (i : Int))), some (.int (1 + r)), some (.ref cl), some (.ref tb), some (.ref as), some (.ref tp), some (.ref sx), x9, x10, x11, x12, x13, none] ∧ Gd a c N H') ⟨_, _, _, _, _, rfl, gN⟩ ?_ ?_⟩
      · clear gN
        rintro j σ H1 hj ⟨x9, x10, x11, x12, x13, rfl, g1⟩
        refine ⟨_, rfl, _, rfl, _, rfl, _, rfl, _, rfl, a, c, cl, tb, as, tp, cs, ts, ss, ks, ps, N, rfl, g1, hclN, okcN, htbN, oktN, askN, ok, rows, htpN, faN, by omega, fun tv ls B1 H2 s2 g2 ntv htv lav lov lenv => ?_⟩
        have sN2 := s2.trans g2.ex
        have gN2 := g2.less s2
        have htv2 := g2.ex _ _ htv
        have lav2 : ∀ l ∈ ls, LAt H2 l := fun l hl => g2.ex _ _ (lav l hl)
        clear g2 s2 htv lav ntv
        refine ⟨_, rfl, _, rfl, _, rfl, _, rfl, cl, as, tp, tv, cs, ts, ss, ks, ps, ls, rfl, sN2 _ _ hclN, okcN.same sN2, oktN.same sN2, askN.same sN2, ok, rows, sN2 _ _ htpN, fun f hf => (faN f hf).imm (same_imm sN2), by omega, htv2, lav2, by omega, fun qo wo H3 s3 nqo hqo wao kwo => ?_⟩
        have sN3 := sN2.trans s3
        have z3 : SetAt P w K H3 C S sx y tv as gs ls ss ks cs ts := ⟨stN.same sN3, by omega, plN.same sN3, okcN.same sN3, oktN.same sN3, .lst (s3 _ _ htv2), fun x hx => s3 _ _ (lav2 x hx), lov, by omega, askN.same sN3, ok, rows⟩
        have rowE : openRows cs ss ks (keysF gs) (ls.map (·.2)) = openRows cs ss ks (keysF ps) (ls.map (·.2)) := openRows_congr km
        refine ⟨_, rfl, _, rfl, _, rfl, sx, y, tv, as, gs, ls, ss, ks, cs, ts, rfl, z3, fun v1 H4 s4 rv1 => ?_⟩
        have z4 := z3.same s4
        refine ⟨_, rfl, _, rfl, kTup_seq (.inl ((s3.trans s4) _ _ htv2)) fun q5 H5 s5 hq5 => ⟨_, rfl, rfl, rfl, sx, y, q5, as, gs, ls, ss, ks, cs, ts, rfl, { (z4.same s5) with hl := .tup hq5 }, fun v2 H6 s6 rv2 => ⟨by show 2 ≤ sizeLine; decide, fun F nF => ?_⟩⟩⟩
        rw [rowE] at rv1 rv2
        have s7 : Same H6 (upd H6 F (.lst [v1, v2])) := same_new nF
        have hF : (upd H6 F (.lst [v1, v2])) F = some (.lst [v1, v2]) := upd_same
        generalize upd H6 F (.lst [v1, v2]) = H7 at s7 hF ⊢
        have s37 := s4.trans (s5.trans (s6.trans s7))
        have rv1' := rv1.same (s5.trans (s6.trans s7))
        have rv2' := rv2.same s7
        have hqo7 := s37 _ _ hqo
        have wao7 : ∀ r ∈ wo, WAt H7 r := fun r hr => s37 _ _ (wao r hr)
        have lav7 : ∀ l ∈ ls, LAt H7 l := fun l hl => s37 _ _ (s3 _ _ (lav2 l hl))
        have htv7 := s37 _ _ (s3 _ _ htv2)
        have sN7 := sN3.trans s37
        have g7 := gN2.same (s3.trans s37)
        clear z3 z4 rv1 rv2 s37 s4 s5 s6 s7 hqo wao lav2 htv2 nqo nF s3 sN3 sN2 gN2 g1 hq5
        refine ⟨F, rfl, ⟨_, lof hF⟩, for_list (K := K) (a := F) (xs := [v1, v2]) (fun j' σ H' => (∃ x12, σ = [some (.ref sa), some (.ref a), some (.int (0 + (i : Int))), some (.int (1 + r)), some (.ref cl), some (.ref tb), some (.ref as), some (.ref tp), some (.ref sx), some (.int (0 + (j : Int))), some (.ref tv), some (.ref qo), x12, x13, none]) ∧ Same H7 H')
          ⟨⟨_, rfl⟩, Same.refl _⟩ (fun j σ H' _ ⟨_, e⟩ => lof (e _ _ hF)) ?_ ?_⟩
        · rintro j' x σ H8 hx ⟨⟨x12, rfl⟩, s8⟩
          have rv : RowV H7 (openRows cs ss ks (keysF ps) (ls.map (·.2))) x := by
            have := List.mem_of_getElem? hx
            simp only [List.mem_cons, List.not_mem_nil, or_false] at this
            rcases this with rfl | rfl
            · exact rv1'
            · exact rv2'
          have wa8 : ∀ r ∈ wo, WAt H8 r := fun r hr => s8 _ _ (wao7 r hr)
          refine ⟨_, rfl, Nat.zero_le _, fun e ne => ?_⟩
          have s9 : Same H8 (upd H8 e (.lst [])) := same_new ne
          refine eq_nil (B := H8) (plain_ws wa8) s9 (s9 _ _ (s8 _ _ hqo7)) upd_same ⟨_, rfl, ?_⟩
          rw [nil_rows kwo]
          generalize upd H8 e (.lst []) = H9 at s9 ⊢
          have s89 := s8.trans s9
          have wa9 : ∀ r ∈ wo, WAt H9 r := fun r hr => s89 _ _ (wao7 r hr)
          rcases rv.same s89 with ⟨h1, rfl⟩ | ⟨r, rest, t, h1, rfl, ht⟩
          · rw [h1, decide_eq_true rfl]
            refine iteT ⟨_, rfl, false, rfl, iteF ?_⟩
            refine ⟨_, rfl, Nat.zero_le _, fun e ne => ?_⟩
            have s10 : Same H9 (upd H9 e (.lst [])) := same_new ne
            refine ne_nil (B := H9) (plain_ws wa9) s10 (s10 _ _ (s89 _ _ hqo7)) upd_same ⟨_, rfl, ?_⟩
            rw [nil_rows kwo, h1, decide_eq_true rfl]
            exact iteF (iteF ⟨⟨_, rfl⟩, s89.trans s10⟩)
          · rw [h1, decide_eq_false (by simp)]
            refine iteF (iteF ?_)
            refine ⟨_, rfl, Nat.zero_le _, fun e ne => ?_⟩
            have s10 : Same H9 (upd H9 e (.lst [])) := same_new ne
            refine ne_nil (B := H9) (plain_ws wa9) s10 (s10 _ _ (s89 _ _ hqo7)) upd_same ⟨_, rfl, ?_⟩
            rw [nil_rows kwo, h1, decide_eq_false (by simp)]
            refine iteT ?_
            refine ⟨_, rfl, _, _, _, _, true, rfl, .ty "tuple", .base (.tup (s10 _ _ ht)), kit_ty (by decide +kernel), true, rfl, iteF ?_⟩
            obtain ⟨w0, wo', ew⟩ : ∃ w0 wo', wo = w0 :: wo' := by
              cases wo with
              | nil => rw [h1] at kwo; cases kwo
              | cons w0 wo' => exact ⟨w0, wo', rfl⟩
            have k1 : w0.2 = r := by rw [h1, ew, List.map_cons] at kwo; injection kwo
            have hq10 := (s89.trans s10) _ _ hqo7
            rw [ew] at hq10
            refine ⟨_, rfl, _, rfl, qo, _, 0, wv w0, rfl, rfl, lof hq10, by rw [List.map_cons]; exact atI_zero, rowD r, rowD w0.2, .tup (tof (s10 _ _ ht)) dp_ints, .tup (tof (s10 _ _ (wa9 w0 (by rw [ew]; exact List.mem_cons_self)))) dp_ints, shaped_row _, shaped_row _, _, rfl, ?_⟩
            rw [eqv_row, decide_eq_true k1.symm]
            exact iteF ⟨⟨_, rfl⟩, s89.trans s10⟩
        rintro σ H8 ⟨⟨x12, rfl⟩, s8⟩
        -- a row that is open, and answered
        have g8 := g7.same s8
        have sN8 := sN7.trans s8
        have wa8 : ∀ r ∈ wo, WAt H8 r := fun r hr => s8 _ _ (wao7 r hr)
        have hq8 := s8 _ _ hqo7
        refine ⟨_, rfl, Nat.zero_le _, fun e ne => ?_⟩
        have s9 : Same H8 (upd H8 e (.lst [])) := same_new ne
        refine ne_nil (B := H8) (plain_ws wa8) s9 (s9 _ _ hq8) upd_same ⟨_, rfl, ?_⟩
        rw [nil_rows kwo]
        generalize upd H8 e (.lst []) = H9 at s9 ⊢
        have g9 := g8.same s9
        have sN9 := sN8.trans s9
        cases erow : openRows cs ss ks (keysF ps) (ls.map (·.2)) with
        | nil =>
          rw [decide_eq_true rfl]
          exact iteF (iteF ⟨_, _, _, _, _, rfl, g9⟩)
        | cons r0 rest =>
          rw [decide_eq_false (by simp)]
          refine iteT ?_
          obtain ⟨w0, wo', ew⟩ : ∃ w0 wo', wo = w0 :: wo' := by
            cases wo with
            | nil => rw [erow] at kwo; cases kwo
            | cons w0 wo' => exact ⟨w0, wo', rfl⟩
          have k1 : w0.2 = r0 := by rw [erow, ew, List.map_cons] at kwo; injection kwo
          have hop : w0.2 ∈ openRows cs ss ks (keysF ps) (ls.map (·.2)) := by rw [erow, k1]; exact List.mem_cons_self
          have wa0 : WAt H9 w0 := s9 _ _ (wa8 w0 (by rw [ew]; exact List.mem_cons_self))
          have hq9 := s9 _ _ hq8
          rw [ew] at hq9
          have at0 : atI ((w0 :: wo').map wv) 0 = some (wv w0) := by rw [List.map_cons]; exact atI_zero
          refine ⟨_, rfl, qo, _, 0, wv w0, rfl, rfl, lof hq9, at0, _, rfl, _, rfl, _, rfl, cl, as, tp, cs, ts, ss, ks, ps, rfl, sN9 _ _ hclN, okcN.same sN9, oktN.same sN9, askN.same sN9, ok, rows, sN9 _ _ htpN, fun f hf => (faN f hf).imm (same_imm sN9), by omega, fun qa wa H10 s10 nqa hqa waa kwa => ?_⟩
          refine ⟨rowD w0.2, (wa.map (·.2)).map rowD, .tup (tof (s10 _ _ wa0)) dp_ints, .lst (lof hqa) (dp_wsM waa), shaped_row _, shaped_lst lay_rows.1 lay_rows.2, ?_⟩
          rw [any_row, kwa]
          refine ⟨_, rfl, ite2 (fun hin => ?_) (fun _ => ⟨_, _, _, _, _, rfl, g9.same s10⟩)⟩
          have hin := of_decide_eq_true hin
          have sN10 := sN9.trans s10
          have htp10 := sN10 _ _ htpN
          have va10 : ViewsAt P w H10 tv (ls.map (·.2)) := .inl ⟨ls, (s8.trans (s9.trans s10)) _ _ htv7, fun l hl => (s8.trans (s9.trans s10)) _ _ (lav7 l hl), fun l hl => own_nm oktN (lov l hl), rfl⟩
          refine ⟨_, rfl, tp, rfl, ⟨_, lof htp10⟩, fun D nD => ?_⟩
          refine lc_fm (v := fv) (u := fv) (xs := ps) (fun x => seenL (ls.map (·.2)) x.2.2) walk_list nD (fun H e => lof (e _ _ htp10)) (by omega) (fun x H11 Q1 Q2 hx s11 k1 k2 => ?_) (fun H11 s11 hD11 => ?_)
          · obtain ⟨r', hr', of⟩ := ownP x hx
            refine ⟨rfl, ?_⟩
            refine ⟨_, rfl, _, rfl, tv, x, ls.map (·.2), rfl, va10.same s11, (faN x hx).imm (same_imm (sN10.trans s11)), (oft_len of).2.1, nmP x hx, fun H12 s12 => ⟨_, rfl, ?_⟩⟩
            cases e2 : seenL (ls.map (·.2)) x.2.2 with
            | true => exact iteT ⟨_, rfl, k1 e2 _ s12⟩
            | false => exact iteF (k2 e2 _ s12)
          have sN11 := sN10.trans s11
          refine ⟨_, rfl, qo, _, 0, wv w0, rfl, rfl, lof ((s10.trans s11) _ _ hq9), at0, _, rfl, _, rfl, _, rfl, cl, as, D, cs, ts, ss, ks, (ps.filter fun x => seenL (ls.map (·.2)) x.2.2), rfl, sN11 _ _ hclN, okcN.same sN11, oktN.same sN11, askN.same sN11, ok, rows, hD11, fun f hf => (faN f (List.mem_filter.mp hf).1).imm (same_imm sN11), Nat.le_trans (List.length_filter_le _ _) (by omega), fun qb wb H12 s12 nqb hqb wab kwb => ?_⟩
          refine ⟨rowD w0.2, (wb.map (·.2)).map rowD, .tup (tof ((s10.trans (s11.trans s12)) _ _ wa0)) dp_ints, .lst (lof hqb) (dp_wsM wab), shaped_row _, shaped_lst lay_rows.1 lay_rows.2, ?_⟩
          rw [any_row, kwb, open_gone hop hin]
          exact ⟨_, rfl, iteF ⟨_, _, _, _, _, rfl, ((g9.same s10).same s11).same s12⟩⟩
      · rintro σ H' ⟨x9, x10, x11, x12, x13, rfl, g'⟩
        exact ⟨_, _, _, _, _, _, _, _, _, _, _, _, rfl, g'.st⟩
    · rintro σ H' ⟨x2, x3, x4, x5, x6, x7, x8, x9, x10, x11, x12, x13, rfl, st⟩
      exact ⟨_, rfl, a, c, rfl, st, fun H' => q _⟩
end
end As

/-! ## Z1 -/
namespace As
open PySem PySem.Spec PyProof.Rows L2 TL
set_option maxHeartbeats 0 in
theorem all_mk {l : PySem.W.OpenLaw} {w : World} {K : PySem.W.Frag} {h : Heap} {mg : Str → Option Value} {fa C : Addr} {S : Addr} {t6 t8 wMOST_VALUES wMOST_LETTERS wMOST_SIDES wMOST_ROWS wMOST_STOPS : Tok} (X : K.In h) (G : h.Ns mainGlobals mg) (hfa : mg "law" = some (.ref fa))
    {f__law_state : Addr} {od__law_state an__law_state : Option Addr} {sl__law_state : Array (Option Value)} {oc__law_state kV__law_state dc__law_state pm__law_state cd__law_state ct__law_state : Value} {f__law_draw : Addr} {od__law_draw an__law_draw : Option Addr} {sl__law_draw : Array (Option Value)} {oc__law_draw kV__law_draw dc__law_draw pm__law_draw cd__law_draw ct__law_draw : Value} {f__law_case : Addr} {od__law_case an__law_case : Option Addr} {sl__law_case : Array (Option Value)} {oc__law_case kV__law_case dc__law_case pm__law_case cd__law_case ct__law_case : Value} {f__law_all_facts : Addr} {od__law_all_facts an__law_all_facts : Option Addr} {sl__law_all_facts : Array (Option Value)} {oc__law_all_facts kV__law_all_facts dc__law_all_facts pm__law_all_facts cd__law_all_facts ct__law_all_facts : Value} {f__law_some : Addr} {od__law_some an__law_some : Option Addr} {sl__law_some : Array (Option Value)} {oc__law_some kV__law_some dc__law_some pm__law_some cd__law_some ct__law_some : Value} {f__law_views : Addr} {od__law_views an__law_views : Option Addr} {sl__law_views : Array (Option Value)} {oc__law_views kV__law_views dc__law_views pm__law_views cd__law_views ct__law_views : Value} {f__law_open_rows : Addr} {od__law_open_rows an__law_open_rows : Option Addr} {sl__law_open_rows : Array (Option Value)} {oc__law_open_rows kV__law_open_rows dc__law_open_rows pm__law_open_rows cd__law_open_rows ct__law_open_rows : Value} {f__law_answer : Addr} {od__law_answer an__law_answer : Option Addr} {sl__law_answer : Array (Option Value)} {oc__law_answer kV__law_answer dc__law_answer pm__law_answer cd__law_answer ct__law_answer : Value} {f__law_is_seen : Addr} {od__law_is_seen an__law_is_seen : Option Addr} {sl__law_is_seen : Array (Option Value)} {oc__law_is_seen kV__law_is_seen dc__law_is_seen pm__law_is_seen cd__law_is_seen ct__law_is_seen : Value} {f_open_row : Addr} {od_open_row an_open_row : Option Addr} {sl_open_row : Array (Option Value)} {oc_open_row kV_open_row dc_open_row pm_open_row cd_open_row ct_open_row : Value} {f__law_great_right : Addr} {od__law_great_right an__law_great_right : Option Addr} {sl__law_great_right : Array (Option Value)} {oc__law_great_right kV__law_great_right dc__law_great_right pm__law_great_right cd__law_great_right ct__law_great_right : Value} {f_are_columns : Addr} {od_are_columns an_are_columns : Option Addr} {sl_are_columns : Array (Option Value)} {oc_are_columns kV_are_columns dc_are_columns pm_are_columns cd_are_columns ct_are_columns : Value} {f_are_tables : Addr} {od_are_tables an_are_tables : Option Addr} {sl_are_tables : Array (Option Value)} {oc_are_tables kV_are_tables dc_are_tables pm_are_tables cd_are_tables ct_are_tables : Value} {f_is_list : Addr} {od_is_list an_is_list : Option Addr} {sl_is_list : Array (Option Value)} {oc_is_list kV_is_list dc_is_list pm_is_list cd_is_list ct_is_list : Value} {f_is_column : Addr} {od_is_column an_is_column : Option Addr} {sl_is_column : Array (Option Value)} {oc_is_column kV_is_column dc_is_column pm_is_column cd_is_column ct_is_column : Value} {f_have_distinct_names : Addr} {od_have_distinct_names an_have_distinct_names : Option Addr} {sl_have_distinct_names : Array (Option Value)} {oc_have_distinct_names kV_have_distinct_names dc_have_distinct_names pm_have_distinct_names cd_have_distinct_names ct_have_distinct_names : Value} {f_is_pair : Addr} {od_is_pair an_is_pair : Option Addr} {sl_is_pair : Array (Option Value)} {oc_is_pair kV_is_pair dc_is_pair pm_is_pair cd_is_pair ct_is_pair : Value} {f_is_name : Addr} {od_is_name an_is_name : Option Addr} {sl_is_name : Array (Option Value)} {oc_is_name kV_is_name dc_is_name pm_is_name cd_is_name ct_is_name : Value} {f_is_number : Addr} {od_is_number an_is_number : Option Addr} {sl_is_number : Array (Option Value)} {oc_is_number kV_is_number dc_is_number pm_is_number cd_is_number ct_is_number : Value} {f_is_table : Addr} {od_is_table an_is_table : Option Addr} {sl_is_table : Array (Option Value)} {oc_is_table kV_is_table dc_is_table pm_is_table cd_is_table ct_is_table : Value} {f_are_facts : Addr} {od_are_facts an_are_facts : Option Addr} {sl_are_facts : Array (Option Value)} {oc_are_facts kV_are_facts dc_are_facts pm_are_facts cd_are_facts ct_are_facts : Value} {f_is_fact : Addr} {od_is_fact an_is_fact : Option Addr} {sl_is_fact : Array (Option Value)} {oc_is_fact kV_is_fact dc_is_fact pm_is_fact cd_is_fact ct_is_fact : Value} {f_is_below : Addr} {od_is_below an_is_below : Option Addr} {sl_is_below : Array (Option Value)} {oc_is_below kV_is_below dc_is_below pm_is_below cd_is_below ct_is_below : Value} {f__law_labels : Addr} {od__law_labels an__law_labels : Option Addr} {sl__law_labels : Array (Option Value)} {oc__law_labels kV__law_labels dc__law_labels pm__law_labels cd__law_labels ct__law_labels : Value} {f__law_pick : Addr} {od__law_pick an__law_pick : Option Addr} {sl__law_pick : Array (Option Value)} {oc__law_pick kV__law_pick dc__law_pick pm__law_pick cd__law_pick ct__law_pick : Value} {f__law_lot : Addr} {od__law_lot an__law_lot : Option Addr} {sl__law_lot : Array (Option Value)} {oc__law_lot kV__law_lot dc__law_lot pm__law_lot cd__law_lot ct__law_lot : Value} {f__law_shuffled : Addr} {od__law_shuffled an__law_shuffled : Option Addr} {sl__law_shuffled : Array (Option Value)} {oc__law_shuffled kV__law_shuffled dc__law_shuffled pm__law_shuffled cd__law_shuffled ct__law_shuffled : Value} {f__law_all_rows : Addr} {od__law_all_rows an__law_all_rows : Option Addr} {sl__law_all_rows : Array (Option Value)} {oc__law_all_rows kV__law_all_rows dc__law_all_rows pm__law_all_rows cd__law_all_rows ct__law_all_rows : Value} {f__law_all_looks : Addr} {od__law_all_looks an__law_all_looks : Option Addr} {sl__law_all_looks : Array (Option Value)} {oc__law_all_looks kV__law_all_looks dc__law_all_looks pm__law_all_looks cd__law_all_looks ct__law_all_looks : Value} {f__law_lots : Addr} {od__law_lots an__law_lots : Option Addr} {sl__law_lots : Array (Option Value)} {oc__law_lots kV__law_lots dc__law_lots pm__law_lots cd__law_lots ct__law_lots : Value} {f__law_facts : Addr} {od__law_facts an__law_facts : Option Addr} {sl__law_facts : Array (Option Value)} {oc__law_facts kV__law_facts dc__law_facts pm__law_facts cd__law_facts ct__law_facts : Value} {f__law_is_open : Addr} {od__law_is_open an__law_is_open : Option Addr} {sl__law_is_open : Array (Option Value)} {oc__law_is_open kV__law_is_open dc__law_is_open pm__law_is_open cd__law_is_open ct__law_is_open : Value} {f__law_seers : Addr} {od__law_seers an__law_seers : Option Addr} {sl__law_seers : Array (Option Value)} {oc__law_seers kV__law_seers dc__law_seers pm__law_seers cd__law_seers ct__law_seers : Value} {f_check_settling : Addr} {od_check_settling an_check_settling : Option Addr} {sl_check_settling : Array (Option Value)} {oc_check_settling kV_check_settling dc_check_settling pm_check_settling cd_check_settling ct_check_settling : Value} {f_open_pair : Addr} {od_open_pair an_open_pair : Option Addr} {sl_open_pair : Array (Option Value)} {oc_open_pair kV_open_pair dc_open_pair pm_open_pair cd_open_pair ct_open_pair : Value} {f_check_looks : Addr} {od_check_looks an_check_looks : Option Addr} {sl_check_looks : Array (Option Value)} {oc_check_looks kV_check_looks dc_check_looks pm_check_looks cd_check_looks ct_check_looks : Value} {f_check_ask : Addr} {od_check_ask an_check_ask : Option Addr} {sl_check_ask : Array (Option Value)} {oc_check_ask kV_check_ask dc_check_ask pm_check_ask cd_check_ask ct_check_ask : Value} {f_is_look : Addr} {od_is_look an_is_look : Option Addr} {sl_is_look : Array (Option Value)} {oc_is_look kV_is_look dc_is_look pm_is_look cd_is_look ct_is_look : Value} {f_check_any_ask : Addr} {od_check_any_ask an_check_any_ask : Option Addr} {sl_check_any_ask : Array (Option Value)} {oc_check_any_ask kV_check_any_ask dc_check_any_ask pm_check_any_ask cd_check_any_ask ct_check_any_ask : Value} {f_product_of_sizes : Addr} {od_product_of_sizes an_product_of_sizes : Option Addr} {sl_product_of_sizes : Array (Option Value)} {oc_product_of_sizes kV_product_of_sizes dc_product_of_sizes pm_product_of_sizes cd_product_of_sizes ct_product_of_sizes : Value} {f_lots_of : Addr} {od_lots_of an_lots_of : Option Addr} {sl_lots_of : Array (Option Value)} {oc_lots_of kV_lots_of dc_lots_of pm_lots_of cd_lots_of ct_lots_of : Value} {f_is_ask : Addr} {od_is_ask an_is_ask : Option Addr} {sl_is_ask : Array (Option Value)} {oc_is_ask kV_is_ask dc_is_ask pm_is_ask cd_is_ask ct_is_ask : Value} {f_stops_of : Addr} {od_stops_of an_stops_of : Option Addr} {sl_stops_of : Array (Option Value)} {oc_stops_of kV_stops_of dc_stops_of pm_stops_of cd_stops_of ct_stops_of : Value} {f_links_of : Addr} {od_links_of an_links_of : Option Addr} {sl_links_of : Array (Option Value)} {oc_links_of kV_links_of dc_links_of pm_links_of cd_links_of ct_links_of : Value} {f_tables_of : Addr} {od_tables_of an_tables_of : Option Addr} {sl_tables_of : Array (Option Value)} {oc_tables_of kV_tables_of dc_tables_of pm_tables_of cd_tables_of ct_tables_of : Value} {f_is_stop : Addr} {od_is_stop an_is_stop : Option Addr} {sl_is_stop : Array (Option Value)} {oc_is_stop kV_is_stop dc_is_stop pm_is_stop cd_is_stop ct_is_stop : Value} {f_is_link : Addr} {od_is_link an_is_link : Option Addr} {sl_is_link : Array (Option Value)} {oc_is_link kV_is_link dc_is_link pm_is_link cd_is_link ct_is_link : Value} {f_is_lot : Addr} {od_is_lot an_is_lot : Option Addr} {sl_is_lot : Array (Option Value)} {oc_is_lot kV_is_lot dc_is_lot pm_is_lot cd_is_lot ct_is_lot : Value} {f_are_ones : Addr} {od_are_ones an_are_ones : Option Addr} {sl_are_ones : Array (Option Value)} {oc_are_ones kV_are_ones dc_are_ones pm_are_ones cd_are_ones ct_are_ones : Value} {f_is_rising : Addr} {od_is_rising an_is_rising : Option Addr} {sl_is_rising : Array (Option Value)} {oc_is_rising kV_is_rising dc_is_rising pm_is_rising cd_is_rising ct_is_rising : Value} {f_in_columns_order : Addr} {od_in_columns_order an_in_columns_order : Option Addr} {sl_in_columns_order : Array (Option Value)} {oc_in_columns_order kV_in_columns_order dc_in_columns_order pm_in_columns_order cd_in_columns_order ct_in_columns_order : Value} {f_present_facts : Addr} {od_present_facts an_present_facts : Option Addr} {sl_present_facts : Array (Option Value)} {oc_present_facts kV_present_facts dc_present_facts pm_present_facts cd_present_facts ct_present_facts : Value} {f_rows_with_facts : Addr} {od_rows_with_facts an_rows_with_facts : Option Addr} {sl_rows_with_facts : Array (Option Value)} {oc_rows_with_facts kV_rows_with_facts dc_rows_with_facts pm_rows_with_facts cd_rows_with_facts ct_rows_with_facts : Value} {f_seen_by : Addr} {od_seen_by an_seen_by : Option Addr} {sl_seen_by : Array (Option Value)} {oc_seen_by kV_seen_by dc_seen_by pm_seen_by cd_seen_by ct_seen_by : Value} {f_first_open : Addr} {od_first_open an_first_open : Option Addr} {sl_first_open : Array (Option Value)} {oc_first_open kV_first_open dc_first_open pm_first_open cd_first_open ct_first_open : Value} {f_facts_added : Addr} {od_facts_added an_facts_added : Option Addr} {sl_facts_added : Array (Option Value)} {oc_facts_added kV_facts_added dc_facts_added pm_facts_added cd_facts_added ct_facts_added : Value} {f_all_facts : Addr} {od_all_facts an_all_facts : Option Addr} {sl_all_facts : Array (Option Value)} {oc_all_facts kV_all_facts dc_all_facts pm_all_facts cd_all_facts ct_all_facts : Value} {f_looks_that_see : Addr} {od_looks_that_see an_looks_that_see : Option Addr} {sl_looks_that_see : Array (Option Value)} {oc_looks_that_see kV_looks_that_see dc_looks_that_see pm_looks_that_see cd_looks_that_see ct_looks_that_see : Value} {f_all_rows : Addr} {od_all_rows an_all_rows : Option Addr} {sl_all_rows : Array (Option Value)} {oc_all_rows kV_all_rows dc_all_rows pm_all_rows cd_all_rows ct_all_rows : Value} {f_is_shut : Addr} {od_is_shut an_is_shut : Option Addr} {sl_is_shut : Array (Option Value)} {oc_is_shut kV_is_shut dc_is_shut pm_is_shut cd_is_shut ct_is_shut : Value} {f_absent_of : Addr} {od_absent_of an_absent_of : Option Addr} {sl_absent_of : Array (Option Value)} {oc_absent_of kV_absent_of dc_absent_of pm_absent_of cd_absent_of ct_absent_of : Value} {f_settles : Addr} {od_settles an_settles : Option Addr} {sl_settles : Array (Option Value)} {oc_settles kV_settles dc_settles pm_settles cd_settles ct_settles : Value} {f_law : Addr} {od_law an_law : Option Addr} {sl_law : Array (Option Value)} {oc_law kV_law dc_law pm_law cd_law ct_law : Value} {f_Plan___init__ : Addr} {od_Plan___init__ an_Plan___init__ : Option Addr} {sl_Plan___init__ : Array (Option Value)} {oc_Plan___init__ kV_Plan___init__ dc_Plan___init__ pm_Plan___init__ cd_Plan___init__ ct_Plan___init__ : Value} {f_Plan_spans : Addr} {od_Plan_spans an_Plan_spans : Option Addr} {sl_Plan_spans : Array (Option Value)} {oc_Plan_spans kV_Plan_spans dc_Plan_spans pm_Plan_spans cd_Plan_spans ct_Plan_spans : Value} {p_Store_plan : Addr} {rest_Store_plan : List Value} {f_Store_plan : Addr} {od_Store_plan an_Store_plan : Option Addr} {sl_Store_plan : Array (Option Value)} {oc_Store_plan kV_Store_plan dc_Store_plan pm_Store_plan cd_Store_plan ct_Store_plan : Value} {f_Plan_size_of : Addr} {od_Plan_size_of an_Plan_size_of : Option Addr} {sl_Plan_size_of : Array (Option Value)} {oc_Plan_size_of kV_Plan_size_of dc_Plan_size_of pm_Plan_size_of cd_Plan_size_of ct_Plan_size_of : Value} {f_Plan_columns_of : Addr} {od_Plan_columns_of an_Plan_columns_of : Option Addr} {sl_Plan_columns_of : Array (Option Value)} {oc_Plan_columns_of kV_Plan_columns_of dc_Plan_columns_of pm_Plan_columns_of cd_Plan_columns_of ct_Plan_columns_of : Value} {p_Store_facts : Addr} {rest_Store_facts : List Value} {f_Store_facts : Addr} {od_Store_facts an_Store_facts : Option Addr} {sl_Store_facts : Array (Option Value)} {oc_Store_facts kV_Store_facts dc_Store_facts pm_Store_facts cd_Store_facts ct_Store_facts : Value} {f_Plan_table_names : Addr} {od_Plan_table_names an_Plan_table_names : Option Addr} {sl_Plan_table_names : Array (Option Value)} {oc_Plan_table_names kV_Plan_table_names dc_Plan_table_names pm_Plan_table_names cd_Plan_table_names ct_Plan_table_names : Value} {f_Store___init__ dT_Store___init__ eT_Store___init__ : Addr} {od_Store___init__ an_Store___init__ ot_Store___init__ oe_Store___init__ : Option Addr} {nt_Store___init__ ne_Store___init__ : Nat} {cT_Store___init__ : Value} {sl_Store___init__ st_Store___init__ se_Store___init__ : Array (Option Value)} {oc_Store___init__ kV_Store___init__ dc_Store___init__ pm_Store___init__ cd_Store___init__ ct_Store___init__ : Value}
    (a__law_state : PySem.W.nsIn K mainGlobals "_law_state" = some (some (.ref f__law_state)))
    (l__law_state : K.lookup f__law_state = some ⟨oc__law_state, od__law_state, .func (PySem.W.fnOf "_law_state" "_law_state" (defArgs s_state) (defBody s_state) (defScope s_state) .none kV__law_state dc__law_state pm__law_state an__law_state cd__law_state ct__law_state), sl__law_state⟩)
    (c__law_state : PySem.W.codeIn K cd__law_state "_law_state" = true)
    (kp__law_state : PySem.W.keepIn K (.ref f__law_state) = true)
    (a__law_draw : PySem.W.nsIn K mainGlobals "_law_draw" = some (some (.ref f__law_draw)))
    (l__law_draw : K.lookup f__law_draw = some ⟨oc__law_draw, od__law_draw, .func (PySem.W.fnOf "_law_draw" "_law_draw" (defArgs s_draw) (defBody s_draw) (defScope s_draw) .none kV__law_draw dc__law_draw pm__law_draw an__law_draw cd__law_draw ct__law_draw), sl__law_draw⟩)
    (c__law_draw : PySem.W.codeIn K cd__law_draw "_law_draw" = true)
    (kp__law_draw : PySem.W.keepIn K (.ref f__law_draw) = true)
    (a__law_case : PySem.W.nsIn K mainGlobals "_law_case" = some (some (.ref f__law_case)))
    (l__law_case : K.lookup f__law_case = some ⟨oc__law_case, od__law_case, .func (PySem.W.fnOf "_law_case" "_law_case" (defArgs s_lcase) (defBody s_lcase) (defScope s_lcase) .none kV__law_case dc__law_case pm__law_case an__law_case cd__law_case ct__law_case), sl__law_case⟩)
    (c__law_case : PySem.W.codeIn K cd__law_case "_law_case" = true)
    (kp__law_case : PySem.W.keepIn K (.ref f__law_case) = true)
    (a__law_all_facts : PySem.W.nsIn K mainGlobals "_law_all_facts" = some (some (.ref f__law_all_facts)))
    (l__law_all_facts : K.lookup f__law_all_facts = some ⟨oc__law_all_facts, od__law_all_facts, .func (PySem.W.fnOf "_law_all_facts" "_law_all_facts" (defArgs s_lall_facts) (defBody s_lall_facts) (defScope s_lall_facts) .none kV__law_all_facts dc__law_all_facts pm__law_all_facts an__law_all_facts cd__law_all_facts ct__law_all_facts), sl__law_all_facts⟩)
    (c__law_all_facts : PySem.W.codeIn K cd__law_all_facts "_law_all_facts" = true)
    (kp__law_all_facts : PySem.W.keepIn K (.ref f__law_all_facts) = true)
    (a__law_some : PySem.W.nsIn K mainGlobals "_law_some" = some (some (.ref f__law_some)))
    (l__law_some : K.lookup f__law_some = some ⟨oc__law_some, od__law_some, .func (PySem.W.fnOf "_law_some" "_law_some" (defArgs s_lsome) (defBody s_lsome) (defScope s_lsome) .none kV__law_some dc__law_some pm__law_some an__law_some cd__law_some ct__law_some), sl__law_some⟩)
    (c__law_some : PySem.W.codeIn K cd__law_some "_law_some" = true)
    (kp__law_some : PySem.W.keepIn K (.ref f__law_some) = true)
    (a__law_views : PySem.W.nsIn K mainGlobals "_law_views" = some (some (.ref f__law_views)))
    (l__law_views : K.lookup f__law_views = some ⟨oc__law_views, od__law_views, .func (PySem.W.fnOf "_law_views" "_law_views" (defArgs s_lviews) (defBody s_lviews) (defScope s_lviews) .none kV__law_views dc__law_views pm__law_views an__law_views cd__law_views ct__law_views), sl__law_views⟩)
    (c__law_views : PySem.W.codeIn K cd__law_views "_law_views" = true)
    (kp__law_views : PySem.W.keepIn K (.ref f__law_views) = true)
    (a__law_open_rows : PySem.W.nsIn K mainGlobals "_law_open_rows" = some (some (.ref f__law_open_rows)))
    (l__law_open_rows : K.lookup f__law_open_rows = some ⟨oc__law_open_rows, od__law_open_rows, .func (PySem.W.fnOf "_law_open_rows" "_law_open_rows" (defArgs s_lopen_rows) (defBody s_lopen_rows) (defScope s_lopen_rows) .none kV__law_open_rows dc__law_open_rows pm__law_open_rows an__law_open_rows cd__law_open_rows ct__law_open_rows), sl__law_open_rows⟩)
    (c__law_open_rows : PySem.W.codeIn K cd__law_open_rows "_law_open_rows" = true)
    (kp__law_open_rows : PySem.W.keepIn K (.ref f__law_open_rows) = true)
    (a__law_answer : PySem.W.nsIn K mainGlobals "_law_answer" = some (some (.ref f__law_answer)))
    (l__law_answer : K.lookup f__law_answer = some ⟨oc__law_answer, od__law_answer, .func (PySem.W.fnOf "_law_answer" "_law_answer" (defArgs s_lanswer) (defBody s_lanswer) (defScope s_lanswer) .none kV__law_answer dc__law_answer pm__law_answer an__law_answer cd__law_answer ct__law_answer), sl__law_answer⟩)
    (c__law_answer : PySem.W.codeIn K cd__law_answer "_law_answer" = true)
    (kp__law_answer : PySem.W.keepIn K (.ref f__law_answer) = true)
    (a__law_is_seen : PySem.W.nsIn K mainGlobals "_law_is_seen" = some (some (.ref f__law_is_seen)))
    (l__law_is_seen : K.lookup f__law_is_seen = some ⟨oc__law_is_seen, od__law_is_seen, .func (PySem.W.fnOf "_law_is_seen" "_law_is_seen" (defArgs s_lis_seen) (defBody s_lis_seen) (defScope s_lis_seen) .none kV__law_is_seen dc__law_is_seen pm__law_is_seen an__law_is_seen cd__law_is_seen ct__law_is_seen), sl__law_is_seen⟩)
    (c__law_is_seen : PySem.W.codeIn K cd__law_is_seen "_law_is_seen" = true)
    (kp__law_is_seen : PySem.W.keepIn K (.ref f__law_is_seen) = true)
    (a_open_row : PySem.W.nsIn K mainGlobals "open_row" = some (some (.ref f_open_row)))
    (l_open_row : K.lookup f_open_row = some ⟨oc_open_row, od_open_row, .func (PySem.W.fnOf "open_row" "open_row" (defArgs s_open_row) (defBody s_open_row) (defScope s_open_row) .none kV_open_row dc_open_row pm_open_row an_open_row cd_open_row ct_open_row), sl_open_row⟩)
    (c_open_row : PySem.W.codeIn K cd_open_row "open_row" = true)
    (kp_open_row : PySem.W.keepIn K (.ref f_open_row) = true)
    (a__law_great_right : PySem.W.nsIn K mainGlobals "_law_great_right" = some (some (.ref f__law_great_right)))
    (l__law_great_right : K.lookup f__law_great_right = some ⟨oc__law_great_right, od__law_great_right, .func (PySem.W.fnOf "_law_great_right" "_law_great_right" (defArgs s_lgreat_right) (defBody s_lgreat_right) (defScope s_lgreat_right) .none kV__law_great_right dc__law_great_right pm__law_great_right an__law_great_right cd__law_great_right ct__law_great_right), sl__law_great_right⟩)
    (c__law_great_right : PySem.W.codeIn K cd__law_great_right "_law_great_right" = true)
    (kp__law_great_right : PySem.W.keepIn K (.ref f__law_great_right) = true)
    (a_are_columns : PySem.W.nsIn K mainGlobals "are_columns" = some (some (.ref f_are_columns)))
    (l_are_columns : K.lookup f_are_columns = some ⟨oc_are_columns, od_are_columns, .func (PySem.W.fnOf "are_columns" "are_columns" (defArgs s_are_columns) (defBody s_are_columns) (defScope s_are_columns) .none kV_are_columns dc_are_columns pm_are_columns an_are_columns cd_are_columns ct_are_columns), sl_are_columns⟩)
    (c_are_columns : PySem.W.codeIn K cd_are_columns "are_columns" = true)
    (kp_are_columns : PySem.W.keepIn K (.ref f_are_columns) = true)
    (a_are_tables : PySem.W.nsIn K mainGlobals "are_tables" = some (some (.ref f_are_tables)))
    (l_are_tables : K.lookup f_are_tables = some ⟨oc_are_tables, od_are_tables, .func (PySem.W.fnOf "are_tables" "are_tables" (defArgs s_are_tables) (defBody s_are_tables) (defScope s_are_tables) .none kV_are_tables dc_are_tables pm_are_tables an_are_tables cd_are_tables ct_are_tables), sl_are_tables⟩)
    (c_are_tables : PySem.W.codeIn K cd_are_tables "are_tables" = true)
    (kp_are_tables : PySem.W.keepIn K (.ref f_are_tables) = true)
    (a_is_list : PySem.W.nsIn K mainGlobals "is_list" = some (some (.ref f_is_list)))
    (l_is_list : K.lookup f_is_list = some ⟨oc_is_list, od_is_list, .func (PySem.W.fnOf "is_list" "is_list" (defArgs s_is_list) (defBody s_is_list) (defScope s_is_list) .none kV_is_list dc_is_list pm_is_list an_is_list cd_is_list ct_is_list), sl_is_list⟩)
    (c_is_list : PySem.W.codeIn K cd_is_list "is_list" = true)
    (kp_is_list : PySem.W.keepIn K (.ref f_is_list) = true)
    (a_is_column : PySem.W.nsIn K mainGlobals "is_column" = some (some (.ref f_is_column)))
    (l_is_column : K.lookup f_is_column = some ⟨oc_is_column, od_is_column, .func (PySem.W.fnOf "is_column" "is_column" (defArgs s_is_column) (defBody s_is_column) (defScope s_is_column) .none kV_is_column dc_is_column pm_is_column an_is_column cd_is_column ct_is_column), sl_is_column⟩)
    (c_is_column : PySem.W.codeIn K cd_is_column "is_column" = true)
    (kp_is_column : PySem.W.keepIn K (.ref f_is_column) = true)
    (a_have_distinct_names : PySem.W.nsIn K mainGlobals "have_distinct_names" = some (some (.ref f_have_distinct_names)))
    (l_have_distinct_names : K.lookup f_have_distinct_names = some ⟨oc_have_distinct_names, od_have_distinct_names, .func (PySem.W.fnOf "have_distinct_names" "have_distinct_names" (defArgs s_have_distinct_names) (defBody s_have_distinct_names) (defScope s_have_distinct_names) .none kV_have_distinct_names dc_have_distinct_names pm_have_distinct_names an_have_distinct_names cd_have_distinct_names ct_have_distinct_names), sl_have_distinct_names⟩)
    (c_have_distinct_names : PySem.W.codeIn K cd_have_distinct_names "have_distinct_names" = true)
    (kp_have_distinct_names : PySem.W.keepIn K (.ref f_have_distinct_names) = true)
    (a_is_pair : PySem.W.nsIn K mainGlobals "is_pair" = some (some (.ref f_is_pair)))
    (l_is_pair : K.lookup f_is_pair = some ⟨oc_is_pair, od_is_pair, .func (PySem.W.fnOf "is_pair" "is_pair" (defArgs s_is_pair) (defBody s_is_pair) (defScope s_is_pair) .none kV_is_pair dc_is_pair pm_is_pair an_is_pair cd_is_pair ct_is_pair), sl_is_pair⟩)
    (c_is_pair : PySem.W.codeIn K cd_is_pair "is_pair" = true)
    (kp_is_pair : PySem.W.keepIn K (.ref f_is_pair) = true)
    (a_is_name : PySem.W.nsIn K mainGlobals "is_name" = some (some (.ref f_is_name)))
    (l_is_name : K.lookup f_is_name = some ⟨oc_is_name, od_is_name, .func (PySem.W.fnOf "is_name" "is_name" (defArgs s_is_name) (defBody s_is_name) (defScope s_is_name) .none kV_is_name dc_is_name pm_is_name an_is_name cd_is_name ct_is_name), sl_is_name⟩)
    (c_is_name : PySem.W.codeIn K cd_is_name "is_name" = true)
    (kp_is_name : PySem.W.keepIn K (.ref f_is_name) = true)
    (a_is_number : PySem.W.nsIn K mainGlobals "is_number" = some (some (.ref f_is_number)))
    (l_is_number : K.lookup f_is_number = some ⟨oc_is_number, od_is_number, .func (PySem.W.fnOf "is_number" "is_number" (defArgs s_is_number) (defBody s_is_number) (defScope s_is_number) .none kV_is_number dc_is_number pm_is_number an_is_number cd_is_number ct_is_number), sl_is_number⟩)
    (c_is_number : PySem.W.codeIn K cd_is_number "is_number" = true)
    (kp_is_number : PySem.W.keepIn K (.ref f_is_number) = true)
    (a_is_table : PySem.W.nsIn K mainGlobals "is_table" = some (some (.ref f_is_table)))
    (l_is_table : K.lookup f_is_table = some ⟨oc_is_table, od_is_table, .func (PySem.W.fnOf "is_table" "is_table" (defArgs s_is_table) (defBody s_is_table) (defScope s_is_table) .none kV_is_table dc_is_table pm_is_table an_is_table cd_is_table ct_is_table), sl_is_table⟩)
    (c_is_table : PySem.W.codeIn K cd_is_table "is_table" = true)
    (kp_is_table : PySem.W.keepIn K (.ref f_is_table) = true)
    (a_are_facts : PySem.W.nsIn K mainGlobals "are_facts" = some (some (.ref f_are_facts)))
    (l_are_facts : K.lookup f_are_facts = some ⟨oc_are_facts, od_are_facts, .func (PySem.W.fnOf "are_facts" "are_facts" (defArgs s_are_facts) (defBody s_are_facts) (defScope s_are_facts) .none kV_are_facts dc_are_facts pm_are_facts an_are_facts cd_are_facts ct_are_facts), sl_are_facts⟩)
    (c_are_facts : PySem.W.codeIn K cd_are_facts "are_facts" = true)
    (kp_are_facts : PySem.W.keepIn K (.ref f_are_facts) = true)
    (a_is_fact : PySem.W.nsIn K mainGlobals "is_fact" = some (some (.ref f_is_fact)))
    (l_is_fact : K.lookup f_is_fact = some ⟨oc_is_fact, od_is_fact, .func (PySem.W.fnOf "is_fact" "is_fact" (defArgs s_is_fact) (defBody s_is_fact) (defScope s_is_fact) .none kV_is_fact dc_is_fact pm_is_fact an_is_fact cd_is_fact ct_is_fact), sl_is_fact⟩)
    (c_is_fact : PySem.W.codeIn K cd_is_fact "is_fact" = true)
    (kp_is_fact : PySem.W.keepIn K (.ref f_is_fact) = true)
    (a_is_below : PySem.W.nsIn K mainGlobals "is_below" = some (some (.ref f_is_below)))
    (l_is_below : K.lookup f_is_below = some ⟨oc_is_below, od_is_below, .func (PySem.W.fnOf "is_below" "is_below" (defArgs s_is_below) (defBody s_is_below) (defScope s_is_below) .none kV_is_below dc_is_below pm_is_below an_is_below cd_is_below ct_is_below), sl_is_below⟩)
    (c_is_below : PySem.W.codeIn K cd_is_below "is_below" = true)
    (kp_is_below : PySem.W.keepIn K (.ref f_is_below) = true)
    (a__law_labels : PySem.W.nsIn K mainGlobals "_law_labels" = some (some (.ref f__law_labels)))
    (l__law_labels : K.lookup f__law_labels = some ⟨oc__law_labels, od__law_labels, .func (PySem.W.fnOf "_law_labels" "_law_labels" (defArgs s_llabels) (defBody s_llabels) (defScope s_llabels) .none kV__law_labels dc__law_labels pm__law_labels an__law_labels cd__law_labels ct__law_labels), sl__law_labels⟩)
    (c__law_labels : PySem.W.codeIn K cd__law_labels "_law_labels" = true)
    (kp__law_labels : PySem.W.keepIn K (.ref f__law_labels) = true)
    (a__law_pick : PySem.W.nsIn K mainGlobals "_law_pick" = some (some (.ref f__law_pick)))
    (l__law_pick : K.lookup f__law_pick = some ⟨oc__law_pick, od__law_pick, .func (PySem.W.fnOf "_law_pick" "_law_pick" (defArgs s_pick) (defBody s_pick) (defScope s_pick) .none kV__law_pick dc__law_pick pm__law_pick an__law_pick cd__law_pick ct__law_pick), sl__law_pick⟩)
    (c__law_pick : PySem.W.codeIn K cd__law_pick "_law_pick" = true)
    (kp__law_pick : PySem.W.keepIn K (.ref f__law_pick) = true)
    (a__law_lot : PySem.W.nsIn K mainGlobals "_law_lot" = some (some (.ref f__law_lot)))
    (l__law_lot : K.lookup f__law_lot = some ⟨oc__law_lot, od__law_lot, .func (PySem.W.fnOf "_law_lot" "_law_lot" (defArgs s_llot) (defBody s_llot) (defScope s_llot) .none kV__law_lot dc__law_lot pm__law_lot an__law_lot cd__law_lot ct__law_lot), sl__law_lot⟩)
    (c__law_lot : PySem.W.codeIn K cd__law_lot "_law_lot" = true)
    (kp__law_lot : PySem.W.keepIn K (.ref f__law_lot) = true)
    (a__law_shuffled : PySem.W.nsIn K mainGlobals "_law_shuffled" = some (some (.ref f__law_shuffled)))
    (l__law_shuffled : K.lookup f__law_shuffled = some ⟨oc__law_shuffled, od__law_shuffled, .func (PySem.W.fnOf "_law_shuffled" "_law_shuffled" (defArgs s_lshuffled) (defBody s_lshuffled) (defScope s_lshuffled) .none kV__law_shuffled dc__law_shuffled pm__law_shuffled an__law_shuffled cd__law_shuffled ct__law_shuffled), sl__law_shuffled⟩)
    (c__law_shuffled : PySem.W.codeIn K cd__law_shuffled "_law_shuffled" = true)
    (kp__law_shuffled : PySem.W.keepIn K (.ref f__law_shuffled) = true)
    (a__law_all_rows : PySem.W.nsIn K mainGlobals "_law_all_rows" = some (some (.ref f__law_all_rows)))
    (l__law_all_rows : K.lookup f__law_all_rows = some ⟨oc__law_all_rows, od__law_all_rows, .func (PySem.W.fnOf "_law_all_rows" "_law_all_rows" (defArgs s_lall_rows) (defBody s_lall_rows) (defScope s_lall_rows) .none kV__law_all_rows dc__law_all_rows pm__law_all_rows an__law_all_rows cd__law_all_rows ct__law_all_rows), sl__law_all_rows⟩)
    (c__law_all_rows : PySem.W.codeIn K cd__law_all_rows "_law_all_rows" = true)
    (kp__law_all_rows : PySem.W.keepIn K (.ref f__law_all_rows) = true)
    (a__law_all_looks : PySem.W.nsIn K mainGlobals "_law_all_looks" = some (some (.ref f__law_all_looks)))
    (l__law_all_looks : K.lookup f__law_all_looks = some ⟨oc__law_all_looks, od__law_all_looks, .func (PySem.W.fnOf "_law_all_looks" "_law_all_looks" (defArgs s_lall_looks) (defBody s_lall_looks) (defScope s_lall_looks) .none kV__law_all_looks dc__law_all_looks pm__law_all_looks an__law_all_looks cd__law_all_looks ct__law_all_looks), sl__law_all_looks⟩)
    (c__law_all_looks : PySem.W.codeIn K cd__law_all_looks "_law_all_looks" = true)
    (kp__law_all_looks : PySem.W.keepIn K (.ref f__law_all_looks) = true)
    (a__law_lots : PySem.W.nsIn K mainGlobals "_law_lots" = some (some (.ref f__law_lots)))
    (l__law_lots : K.lookup f__law_lots = some ⟨oc__law_lots, od__law_lots, .func (PySem.W.fnOf "_law_lots" "_law_lots" (defArgs s_llots) (defBody s_llots) (defScope s_llots) .none kV__law_lots dc__law_lots pm__law_lots an__law_lots cd__law_lots ct__law_lots), sl__law_lots⟩)
    (c__law_lots : PySem.W.codeIn K cd__law_lots "_law_lots" = true)
    (kp__law_lots : PySem.W.keepIn K (.ref f__law_lots) = true)
    (a__law_facts : PySem.W.nsIn K mainGlobals "_law_facts" = some (some (.ref f__law_facts)))
    (l__law_facts : K.lookup f__law_facts = some ⟨oc__law_facts, od__law_facts, .func (PySem.W.fnOf "_law_facts" "_law_facts" (defArgs s_lfacts) (defBody s_lfacts) (defScope s_lfacts) .none kV__law_facts dc__law_facts pm__law_facts an__law_facts cd__law_facts ct__law_facts), sl__law_facts⟩)
    (c__law_facts : PySem.W.codeIn K cd__law_facts "_law_facts" = true)
    (kp__law_facts : PySem.W.keepIn K (.ref f__law_facts) = true)
    (a__law_is_open : PySem.W.nsIn K mainGlobals "_law_is_open" = some (some (.ref f__law_is_open)))
    (l__law_is_open : K.lookup f__law_is_open = some ⟨oc__law_is_open, od__law_is_open, .func (PySem.W.fnOf "_law_is_open" "_law_is_open" (defArgs s_lis_open) (defBody s_lis_open) (defScope s_lis_open) .none kV__law_is_open dc__law_is_open pm__law_is_open an__law_is_open cd__law_is_open ct__law_is_open), sl__law_is_open⟩)
    (c__law_is_open : PySem.W.codeIn K cd__law_is_open "_law_is_open" = true)
    (kp__law_is_open : PySem.W.keepIn K (.ref f__law_is_open) = true)
    (a__law_seers : PySem.W.nsIn K mainGlobals "_law_seers" = some (some (.ref f__law_seers)))
    (l__law_seers : K.lookup f__law_seers = some ⟨oc__law_seers, od__law_seers, .func (PySem.W.fnOf "_law_seers" "_law_seers" (defArgs s_lseers) (defBody s_lseers) (defScope s_lseers) .none kV__law_seers dc__law_seers pm__law_seers an__law_seers cd__law_seers ct__law_seers), sl__law_seers⟩)
    (c__law_seers : PySem.W.codeIn K cd__law_seers "_law_seers" = true)
    (kp__law_seers : PySem.W.keepIn K (.ref f__law_seers) = true)
    (a_check_settling : PySem.W.nsIn K mainGlobals "check_settling" = some (some (.ref f_check_settling)))
    (l_check_settling : K.lookup f_check_settling = some ⟨oc_check_settling, od_check_settling, .func (PySem.W.fnOf "check_settling" "check_settling" (defArgs s_check_settling) (defBody s_check_settling) (defScope s_check_settling) .none kV_check_settling dc_check_settling pm_check_settling an_check_settling cd_check_settling ct_check_settling), sl_check_settling⟩)
    (c_check_settling : PySem.W.codeIn K cd_check_settling "check_settling" = true)
    (kp_check_settling : PySem.W.keepIn K (.ref f_check_settling) = true)
    (a_open_pair : PySem.W.nsIn K mainGlobals "open_pair" = some (some (.ref f_open_pair)))
    (l_open_pair : K.lookup f_open_pair = some ⟨oc_open_pair, od_open_pair, .func (PySem.W.fnOf "open_pair" "open_pair" (defArgs s_open_pair) (defBody s_open_pair) (defScope s_open_pair) .none kV_open_pair dc_open_pair pm_open_pair an_open_pair cd_open_pair ct_open_pair), sl_open_pair⟩)
    (c_open_pair : PySem.W.codeIn K cd_open_pair "open_pair" = true)
    (kp_open_pair : PySem.W.keepIn K (.ref f_open_pair) = true)
    (a_check_looks : PySem.W.nsIn K mainGlobals "check_looks" = some (some (.ref f_check_looks)))
    (l_check_looks : K.lookup f_check_looks = some ⟨oc_check_looks, od_check_looks, .func (PySem.W.fnOf "check_looks" "check_looks" (defArgs s_check_looks) (defBody s_check_looks) (defScope s_check_looks) .none kV_check_looks dc_check_looks pm_check_looks an_check_looks cd_check_looks ct_check_looks), sl_check_looks⟩)
    (c_check_looks : PySem.W.codeIn K cd_check_looks "check_looks" = true)
    (kp_check_looks : PySem.W.keepIn K (.ref f_check_looks) = true)
    (a_check_ask : PySem.W.nsIn K mainGlobals "check_ask" = some (some (.ref f_check_ask)))
    (l_check_ask : K.lookup f_check_ask = some ⟨oc_check_ask, od_check_ask, .func (PySem.W.fnOf "check_ask" "check_ask" (defArgs s_check_ask) (defBody s_check_ask) (defScope s_check_ask) .none kV_check_ask dc_check_ask pm_check_ask an_check_ask cd_check_ask ct_check_ask), sl_check_ask⟩)
    (c_check_ask : PySem.W.codeIn K cd_check_ask "check_ask" = true)
    (kp_check_ask : PySem.W.keepIn K (.ref f_check_ask) = true)
    (a_is_look : PySem.W.nsIn K mainGlobals "is_look" = some (some (.ref f_is_look)))
    (l_is_look : K.lookup f_is_look = some ⟨oc_is_look, od_is_look, .func (PySem.W.fnOf "is_look" "is_look" (defArgs s_is_look) (defBody s_is_look) (defScope s_is_look) .none kV_is_look dc_is_look pm_is_look an_is_look cd_is_look ct_is_look), sl_is_look⟩)
    (c_is_look : PySem.W.codeIn K cd_is_look "is_look" = true)
    (kp_is_look : PySem.W.keepIn K (.ref f_is_look) = true)
    (a_check_any_ask : PySem.W.nsIn K mainGlobals "check_any_ask" = some (some (.ref f_check_any_ask)))
    (l_check_any_ask : K.lookup f_check_any_ask = some ⟨oc_check_any_ask, od_check_any_ask, .func (PySem.W.fnOf "check_any_ask" "check_any_ask" (defArgs s_check_any_ask) (defBody s_check_any_ask) (defScope s_check_any_ask) .none kV_check_any_ask dc_check_any_ask pm_check_any_ask an_check_any_ask cd_check_any_ask ct_check_any_ask), sl_check_any_ask⟩)
    (c_check_any_ask : PySem.W.codeIn K cd_check_any_ask "check_any_ask" = true)
    (kp_check_any_ask : PySem.W.keepIn K (.ref f_check_any_ask) = true)
    (a_product_of_sizes : PySem.W.nsIn K mainGlobals "product_of_sizes" = some (some (.ref f_product_of_sizes)))
    (l_product_of_sizes : K.lookup f_product_of_sizes = some ⟨oc_product_of_sizes, od_product_of_sizes, .func (PySem.W.fnOf "product_of_sizes" "product_of_sizes" (defArgs s_product_of_sizes) (defBody s_product_of_sizes) (defScope s_product_of_sizes) .none kV_product_of_sizes dc_product_of_sizes pm_product_of_sizes an_product_of_sizes cd_product_of_sizes ct_product_of_sizes), sl_product_of_sizes⟩)
    (c_product_of_sizes : PySem.W.codeIn K cd_product_of_sizes "product_of_sizes" = true)
    (kp_product_of_sizes : PySem.W.keepIn K (.ref f_product_of_sizes) = true)
    (a_lots_of : PySem.W.nsIn K mainGlobals "lots_of" = some (some (.ref f_lots_of)))
    (l_lots_of : K.lookup f_lots_of = some ⟨oc_lots_of, od_lots_of, .func (PySem.W.fnOf "lots_of" "lots_of" (defArgs s_lots_of) (defBody s_lots_of) (defScope s_lots_of) .none kV_lots_of dc_lots_of pm_lots_of an_lots_of cd_lots_of ct_lots_of), sl_lots_of⟩)
    (c_lots_of : PySem.W.codeIn K cd_lots_of "lots_of" = true)
    (kp_lots_of : PySem.W.keepIn K (.ref f_lots_of) = true)
    (a_is_ask : PySem.W.nsIn K mainGlobals "is_ask" = some (some (.ref f_is_ask)))
    (l_is_ask : K.lookup f_is_ask = some ⟨oc_is_ask, od_is_ask, .func (PySem.W.fnOf "is_ask" "is_ask" (defArgs s_is_ask) (defBody s_is_ask) (defScope s_is_ask) .none kV_is_ask dc_is_ask pm_is_ask an_is_ask cd_is_ask ct_is_ask), sl_is_ask⟩)
    (c_is_ask : PySem.W.codeIn K cd_is_ask "is_ask" = true)
    (kp_is_ask : PySem.W.keepIn K (.ref f_is_ask) = true)
    (a_stops_of : PySem.W.nsIn K mainGlobals "stops_of" = some (some (.ref f_stops_of)))
    (l_stops_of : K.lookup f_stops_of = some ⟨oc_stops_of, od_stops_of, .func (PySem.W.fnOf "stops_of" "stops_of" (defArgs s_stops_of) (defBody s_stops_of) (defScope s_stops_of) .none kV_stops_of dc_stops_of pm_stops_of an_stops_of cd_stops_of ct_stops_of), sl_stops_of⟩)
    (c_stops_of : PySem.W.codeIn K cd_stops_of "stops_of" = true)
    (kp_stops_of : PySem.W.keepIn K (.ref f_stops_of) = true)
    (a_links_of : PySem.W.nsIn K mainGlobals "links_of" = some (some (.ref f_links_of)))
    (l_links_of : K.lookup f_links_of = some ⟨oc_links_of, od_links_of, .func (PySem.W.fnOf "links_of" "links_of" (defArgs s_links_of) (defBody s_links_of) (defScope s_links_of) .none kV_links_of dc_links_of pm_links_of an_links_of cd_links_of ct_links_of), sl_links_of⟩)
    (c_links_of : PySem.W.codeIn K cd_links_of "links_of" = true)
    (kp_links_of : PySem.W.keepIn K (.ref f_links_of) = true)
    (a_tables_of : PySem.W.nsIn K mainGlobals "tables_of" = some (some (.ref f_tables_of)))
    (l_tables_of : K.lookup f_tables_of = some ⟨oc_tables_of, od_tables_of, .func (PySem.W.fnOf "tables_of" "tables_of" (defArgs s_tables_of) (defBody s_tables_of) (defScope s_tables_of) .none kV_tables_of dc_tables_of pm_tables_of an_tables_of cd_tables_of ct_tables_of), sl_tables_of⟩)
    (c_tables_of : PySem.W.codeIn K cd_tables_of "tables_of" = true)
    (kp_tables_of : PySem.W.keepIn K (.ref f_tables_of) = true)
    (a_is_stop : PySem.W.nsIn K mainGlobals "is_stop" = some (some (.ref f_is_stop)))
    (l_is_stop : K.lookup f_is_stop = some ⟨oc_is_stop, od_is_stop, .func (PySem.W.fnOf "is_stop" "is_stop" (defArgs s_is_stop) (defBody s_is_stop) (defScope s_is_stop) .none kV_is_stop dc_is_stop pm_is_stop an_is_stop cd_is_stop ct_is_stop), sl_is_stop⟩)
    (c_is_stop : PySem.W.codeIn K cd_is_stop "is_stop" = true)
    (kp_is_stop : PySem.W.keepIn K (.ref f_is_stop) = true)
    (a_is_link : PySem.W.nsIn K mainGlobals "is_link" = some (some (.ref f_is_link)))
    (l_is_link : K.lookup f_is_link = some ⟨oc_is_link, od_is_link, .func (PySem.W.fnOf "is_link" "is_link" (defArgs s_is_link) (defBody s_is_link) (defScope s_is_link) .none kV_is_link dc_is_link pm_is_link an_is_link cd_is_link ct_is_link), sl_is_link⟩)
    (c_is_link : PySem.W.codeIn K cd_is_link "is_link" = true)
    (kp_is_link : PySem.W.keepIn K (.ref f_is_link) = true)
    (a_is_lot : PySem.W.nsIn K mainGlobals "is_lot" = some (some (.ref f_is_lot)))
    (l_is_lot : K.lookup f_is_lot = some ⟨oc_is_lot, od_is_lot, .func (PySem.W.fnOf "is_lot" "is_lot" (defArgs s_is_lot) (defBody s_is_lot) (defScope s_is_lot) .none kV_is_lot dc_is_lot pm_is_lot an_is_lot cd_is_lot ct_is_lot), sl_is_lot⟩)
    (c_is_lot : PySem.W.codeIn K cd_is_lot "is_lot" = true)
    (kp_is_lot : PySem.W.keepIn K (.ref f_is_lot) = true)
    (a_are_ones : PySem.W.nsIn K mainGlobals "are_ones" = some (some (.ref f_are_ones)))
    (l_are_ones : K.lookup f_are_ones = some ⟨oc_are_ones, od_are_ones, .func (PySem.W.fnOf "are_ones" "are_ones" (defArgs s_are_ones) (defBody s_are_ones) (defScope s_are_ones) .none kV_are_ones dc_are_ones pm_are_ones an_are_ones cd_are_ones ct_are_ones), sl_are_ones⟩)
    (c_are_ones : PySem.W.codeIn K cd_are_ones "are_ones" = true)
    (kp_are_ones : PySem.W.keepIn K (.ref f_are_ones) = true)
    (a_is_rising : PySem.W.nsIn K mainGlobals "is_rising" = some (some (.ref f_is_rising)))
    (l_is_rising : K.lookup f_is_rising = some ⟨oc_is_rising, od_is_rising, .func (PySem.W.fnOf "is_rising" "is_rising" (defArgs s_is_rising) (defBody s_is_rising) (defScope s_is_rising) .none kV_is_rising dc_is_rising pm_is_rising an_is_rising cd_is_rising ct_is_rising), sl_is_rising⟩)
    (c_is_rising : PySem.W.codeIn K cd_is_rising "is_rising" = true)
    (kp_is_rising : PySem.W.keepIn K (.ref f_is_rising) = true)
    (a_in_columns_order : PySem.W.nsIn K mainGlobals "in_columns_order" = some (some (.ref f_in_columns_order)))
    (l_in_columns_order : K.lookup f_in_columns_order = some ⟨oc_in_columns_order, od_in_columns_order, .func (PySem.W.fnOf "in_columns_order" "in_columns_order" (defArgs s_in_columns_order) (defBody s_in_columns_order) (defScope s_in_columns_order) .none kV_in_columns_order dc_in_columns_order pm_in_columns_order an_in_columns_order cd_in_columns_order ct_in_columns_order), sl_in_columns_order⟩)
    (c_in_columns_order : PySem.W.codeIn K cd_in_columns_order "in_columns_order" = true)
    (kp_in_columns_order : PySem.W.keepIn K (.ref f_in_columns_order) = true)
    (a_present_facts : PySem.W.nsIn K mainGlobals "present_facts" = some (some (.ref f_present_facts)))
    (l_present_facts : K.lookup f_present_facts = some ⟨oc_present_facts, od_present_facts, .func (PySem.W.fnOf "present_facts" "present_facts" (defArgs s_present_facts) (defBody s_present_facts) (defScope s_present_facts) .none kV_present_facts dc_present_facts pm_present_facts an_present_facts cd_present_facts ct_present_facts), sl_present_facts⟩)
    (c_present_facts : PySem.W.codeIn K cd_present_facts "present_facts" = true)
    (kp_present_facts : PySem.W.keepIn K (.ref f_present_facts) = true)
    (a_rows_with_facts : PySem.W.nsIn K mainGlobals "rows_with_facts" = some (some (.ref f_rows_with_facts)))
    (l_rows_with_facts : K.lookup f_rows_with_facts = some ⟨oc_rows_with_facts, od_rows_with_facts, .func (PySem.W.fnOf "rows_with_facts" "rows_with_facts" (defArgs s_rows_with_facts) (defBody s_rows_with_facts) (defScope s_rows_with_facts) .none kV_rows_with_facts dc_rows_with_facts pm_rows_with_facts an_rows_with_facts cd_rows_with_facts ct_rows_with_facts), sl_rows_with_facts⟩)
    (c_rows_with_facts : PySem.W.codeIn K cd_rows_with_facts "rows_with_facts" = true)
    (kp_rows_with_facts : PySem.W.keepIn K (.ref f_rows_with_facts) = true)
    (a_seen_by : PySem.W.nsIn K mainGlobals "seen_by" = some (some (.ref f_seen_by)))
    (l_seen_by : K.lookup f_seen_by = some ⟨oc_seen_by, od_seen_by, .func (PySem.W.fnOf "seen_by" "seen_by" (defArgs s_seen_by) (defBody s_seen_by) (defScope s_seen_by) .none kV_seen_by dc_seen_by pm_seen_by an_seen_by cd_seen_by ct_seen_by), sl_seen_by⟩)
    (c_seen_by : PySem.W.codeIn K cd_seen_by "seen_by" = true)
    (kp_seen_by : PySem.W.keepIn K (.ref f_seen_by) = true)
    (a_first_open : PySem.W.nsIn K mainGlobals "first_open" = some (some (.ref f_first_open)))
    (l_first_open : K.lookup f_first_open = some ⟨oc_first_open, od_first_open, .func (PySem.W.fnOf "first_open" "first_open" (defArgs s_first_open) (defBody s_first_open) (defScope s_first_open) .none kV_first_open dc_first_open pm_first_open an_first_open cd_first_open ct_first_open), sl_first_open⟩)
    (c_first_open : PySem.W.codeIn K cd_first_open "first_open" = true)
    (kp_first_open : PySem.W.keepIn K (.ref f_first_open) = true)
    (a_facts_added : PySem.W.nsIn K mainGlobals "facts_added" = some (some (.ref f_facts_added)))
    (l_facts_added : K.lookup f_facts_added = some ⟨oc_facts_added, od_facts_added, .func (PySem.W.fnOf "facts_added" "facts_added" (defArgs s_facts_added) (defBody s_facts_added) (defScope s_facts_added) .none kV_facts_added dc_facts_added pm_facts_added an_facts_added cd_facts_added ct_facts_added), sl_facts_added⟩)
    (c_facts_added : PySem.W.codeIn K cd_facts_added "facts_added" = true)
    (kp_facts_added : PySem.W.keepIn K (.ref f_facts_added) = true)
    (a_all_facts : PySem.W.nsIn K mainGlobals "all_facts" = some (some (.ref f_all_facts)))
    (l_all_facts : K.lookup f_all_facts = some ⟨oc_all_facts, od_all_facts, .func (PySem.W.fnOf "all_facts" "all_facts" (defArgs s_all_facts) (defBody s_all_facts) (defScope s_all_facts) .none kV_all_facts dc_all_facts pm_all_facts an_all_facts cd_all_facts ct_all_facts), sl_all_facts⟩)
    (c_all_facts : PySem.W.codeIn K cd_all_facts "all_facts" = true)
    (kp_all_facts : PySem.W.keepIn K (.ref f_all_facts) = true)
    (a_looks_that_see : PySem.W.nsIn K mainGlobals "looks_that_see" = some (some (.ref f_looks_that_see)))
    (l_looks_that_see : K.lookup f_looks_that_see = some ⟨oc_looks_that_see, od_looks_that_see, .func (PySem.W.fnOf "looks_that_see" "looks_that_see" (defArgs s_looks_that_see) (defBody s_looks_that_see) (defScope s_looks_that_see) .none kV_looks_that_see dc_looks_that_see pm_looks_that_see an_looks_that_see cd_looks_that_see ct_looks_that_see), sl_looks_that_see⟩)
    (c_looks_that_see : PySem.W.codeIn K cd_looks_that_see "looks_that_see" = true)
    (kp_looks_that_see : PySem.W.keepIn K (.ref f_looks_that_see) = true)
    (a_all_rows : PySem.W.nsIn K mainGlobals "all_rows" = some (some (.ref f_all_rows)))
    (l_all_rows : K.lookup f_all_rows = some ⟨oc_all_rows, od_all_rows, .func (PySem.W.fnOf "all_rows" "all_rows" (defArgs s_all_rows) (defBody s_all_rows) (defScope s_all_rows) .none kV_all_rows dc_all_rows pm_all_rows an_all_rows cd_all_rows ct_all_rows), sl_all_rows⟩)
    (c_all_rows : PySem.W.codeIn K cd_all_rows "all_rows" = true)
    (kp_all_rows : PySem.W.keepIn K (.ref f_all_rows) = true)
    (a_is_shut : PySem.W.nsIn K mainGlobals "is_shut" = some (some (.ref f_is_shut)))
    (l_is_shut : K.lookup f_is_shut = some ⟨oc_is_shut, od_is_shut, .func (PySem.W.fnOf "is_shut" "is_shut" (defArgs s_is_shut) (defBody s_is_shut) (defScope s_is_shut) .none kV_is_shut dc_is_shut pm_is_shut an_is_shut cd_is_shut ct_is_shut), sl_is_shut⟩)
    (c_is_shut : PySem.W.codeIn K cd_is_shut "is_shut" = true)
    (kp_is_shut : PySem.W.keepIn K (.ref f_is_shut) = true)
    (a_absent_of : PySem.W.nsIn K mainGlobals "absent_of" = some (some (.ref f_absent_of)))
    (l_absent_of : K.lookup f_absent_of = some ⟨oc_absent_of, od_absent_of, .func (PySem.W.fnOf "absent_of" "absent_of" (defArgs s_absent_of) (defBody s_absent_of) (defScope s_absent_of) .none kV_absent_of dc_absent_of pm_absent_of an_absent_of cd_absent_of ct_absent_of), sl_absent_of⟩)
    (c_absent_of : PySem.W.codeIn K cd_absent_of "absent_of" = true)
    (kp_absent_of : PySem.W.keepIn K (.ref f_absent_of) = true)
    (a_settles : PySem.W.nsIn K mainGlobals "settles" = some (some (.ref f_settles)))
    (l_settles : K.lookup f_settles = some ⟨oc_settles, od_settles, .func (PySem.W.fnOf "settles" "settles" (defArgs s_settles) (defBody s_settles) (defScope s_settles) .none kV_settles dc_settles pm_settles an_settles cd_settles ct_settles), sl_settles⟩)
    (c_settles : PySem.W.codeIn K cd_settles "settles" = true)
    (kp_settles : PySem.W.keepIn K (.ref f_settles) = true)
    (a_law : PySem.W.nsIn K mainGlobals "law" = some (some (.ref f_law)))
    (l_law : K.lookup f_law = some ⟨oc_law, od_law, .func (PySem.W.fnOf "law" "law" (defArgs s_law) (defBody s_law) (defScope s_law) .none kV_law dc_law pm_law an_law cd_law ct_law), sl_law⟩)
    (c_law : PySem.W.codeIn K cd_law "law" = true)
    (kp_law : PySem.W.keepIn K (.ref f_law) = true)
    (aC : PySem.W.nsIn K mainGlobals "Plan" = some (some (.ref C)))
    (aS : PySem.W.nsIn K mainGlobals "Store" = some (some (.ref S)))
    (a_Plan___init__ : PySem.W.findIn K (.ref C) "__init__" = some (some (.ref f_Plan___init__)))
    (i_Plan___init__ : PySem.W.isFn K (.ref f_Plan___init__) = true)
    (l_Plan___init__ : K.lookup f_Plan___init__ = some ⟨oc_Plan___init__, od_Plan___init__, .func (PySem.W.fnOf "__init__" "Plan.__init__" (defArgs s_init) (defBody s_init) (defScope s_init) .none kV_Plan___init__ dc_Plan___init__ pm_Plan___init__ an_Plan___init__ cd_Plan___init__ ct_Plan___init__), sl_Plan___init__⟩)
    (c_Plan___init__ : PySem.W.codeIn K cd_Plan___init__ "Plan.__init__" = true)
    (kp_Plan___init__ : PySem.W.keepIn K (.ref f_Plan___init__) = true)
    (a_Plan_spans : PySem.W.findIn K (.ref C) "spans" = some (some (.ref f_Plan_spans)))
    (i_Plan_spans : PySem.W.isFn K (.ref f_Plan_spans) = true)
    (l_Plan_spans : K.lookup f_Plan_spans = some ⟨oc_Plan_spans, od_Plan_spans, .func (PySem.W.fnOf "spans" "Plan.spans" (defArgs s_spans) (defBody s_spans) (defScope s_spans) .none kV_Plan_spans dc_Plan_spans pm_Plan_spans an_Plan_spans cd_Plan_spans ct_Plan_spans), sl_Plan_spans⟩)
    (c_Plan_spans : PySem.W.codeIn K cd_Plan_spans "Plan.spans" = true)
    (kp_Plan_spans : PySem.W.keepIn K (.ref f_Plan_spans) = true)
    (a_Store_plan : PySem.W.findIn K (.ref S) "plan" = some (some (.ref p_Store_plan)))
    (g_Store_plan : PySem.W.specialIn K (.ref p_Store_plan) "__get__" = some (some (.builtin "property.__get__")))
    (t_Store_plan : PySem.W.takesIn K (.ref p_Store_plan) = some true)
    (r_Store_plan : PySem.W.recIn K p_Store_plan "property" = some (.ref f_Store_plan :: rest_Store_plan))
    (l_Store_plan : K.lookup f_Store_plan = some ⟨oc_Store_plan, od_Store_plan, .func (PySem.W.fnOf "plan" "Store.plan" (defArgs s_Splan) (defBody s_Splan) (defScope s_Splan) .none kV_Store_plan dc_Store_plan pm_Store_plan an_Store_plan cd_Store_plan ct_Store_plan), sl_Store_plan⟩)
    (c_Store_plan : PySem.W.codeIn K cd_Store_plan "Store.plan" = true)
    (kp_Store_plan : PySem.W.keepIn K (.ref f_Store_plan) = true)
    (a_Plan_size_of : PySem.W.findIn K (.ref C) "size_of" = some (some (.ref f_Plan_size_of)))
    (i_Plan_size_of : PySem.W.isFn K (.ref f_Plan_size_of) = true)
    (l_Plan_size_of : K.lookup f_Plan_size_of = some ⟨oc_Plan_size_of, od_Plan_size_of, .func (PySem.W.fnOf "size_of" "Plan.size_of" (defArgs s_size_of) (defBody s_size_of) (defScope s_size_of) .none kV_Plan_size_of dc_Plan_size_of pm_Plan_size_of an_Plan_size_of cd_Plan_size_of ct_Plan_size_of), sl_Plan_size_of⟩)
    (c_Plan_size_of : PySem.W.codeIn K cd_Plan_size_of "Plan.size_of" = true)
    (kp_Plan_size_of : PySem.W.keepIn K (.ref f_Plan_size_of) = true)
    (a_Plan_columns_of : PySem.W.findIn K (.ref C) "columns_of" = some (some (.ref f_Plan_columns_of)))
    (i_Plan_columns_of : PySem.W.isFn K (.ref f_Plan_columns_of) = true)
    (l_Plan_columns_of : K.lookup f_Plan_columns_of = some ⟨oc_Plan_columns_of, od_Plan_columns_of, .func (PySem.W.fnOf "columns_of" "Plan.columns_of" (defArgs s_columns_of) (defBody s_columns_of) (defScope s_columns_of) .none kV_Plan_columns_of dc_Plan_columns_of pm_Plan_columns_of an_Plan_columns_of cd_Plan_columns_of ct_Plan_columns_of), sl_Plan_columns_of⟩)
    (c_Plan_columns_of : PySem.W.codeIn K cd_Plan_columns_of "Plan.columns_of" = true)
    (kp_Plan_columns_of : PySem.W.keepIn K (.ref f_Plan_columns_of) = true)
    (a_Store_facts : PySem.W.findIn K (.ref S) "facts" = some (some (.ref p_Store_facts)))
    (g_Store_facts : PySem.W.specialIn K (.ref p_Store_facts) "__get__" = some (some (.builtin "property.__get__")))
    (t_Store_facts : PySem.W.takesIn K (.ref p_Store_facts) = some true)
    (r_Store_facts : PySem.W.recIn K p_Store_facts "property" = some (.ref f_Store_facts :: rest_Store_facts))
    (l_Store_facts : K.lookup f_Store_facts = some ⟨oc_Store_facts, od_Store_facts, .func (PySem.W.fnOf "facts" "Store.facts" (defArgs s_Sfacts) (defBody s_Sfacts) (defScope s_Sfacts) .none kV_Store_facts dc_Store_facts pm_Store_facts an_Store_facts cd_Store_facts ct_Store_facts), sl_Store_facts⟩)
    (c_Store_facts : PySem.W.codeIn K cd_Store_facts "Store.facts" = true)
    (kp_Store_facts : PySem.W.keepIn K (.ref f_Store_facts) = true)
    (a_Plan_table_names : PySem.W.findIn K (.ref C) "table_names" = some (some (.ref f_Plan_table_names)))
    (i_Plan_table_names : PySem.W.isFn K (.ref f_Plan_table_names) = true)
    (l_Plan_table_names : K.lookup f_Plan_table_names = some ⟨oc_Plan_table_names, od_Plan_table_names, .func (PySem.W.fnOf "table_names" "Plan.table_names" (defArgs s_table_names) (defBody s_table_names) (defScope s_table_names) .none kV_Plan_table_names dc_Plan_table_names pm_Plan_table_names an_Plan_table_names cd_Plan_table_names ct_Plan_table_names), sl_Plan_table_names⟩)
    (c_Plan_table_names : PySem.W.codeIn K cd_Plan_table_names "Plan.table_names" = true)
    (kp_Plan_table_names : PySem.W.keepIn K (.ref f_Plan_table_names) = true)
    (a_Store___init__ : PySem.W.findIn K (.ref S) "__init__" = some (some (.ref f_Store___init__)))
    (i_Store___init__ : PySem.W.isFn K (.ref f_Store___init__) = true)
    (l_Store___init__ : K.lookup f_Store___init__ = some ⟨oc_Store___init__, od_Store___init__, .func (PySem.W.fnOf "__init__" "Store.__init__" (defArgs s_Sinit) (defBody s_Sinit) (defScope s_Sinit) (.ref dT_Store___init__) kV_Store___init__ dc_Store___init__ pm_Store___init__ an_Store___init__ cd_Store___init__ ct_Store___init__), sl_Store___init__⟩)
    (lt_Store___init__ : K.lookup dT_Store___init__ = some ⟨cT_Store___init__, ot_Store___init__, .seq #[.ref eT_Store___init__] nt_Store___init__, st_Store___init__⟩)
    (c_Store___init__ : PySem.W.codeIn K cd_Store___init__ "Store.__init__" = true)
    (kp_Store___init__ : PySem.W.keepIn K (.ref f_Store___init__) = true)
    (le_Store___init__ : K.lookup eT_Store___init__ = some ⟨.type "tuple", oe_Store___init__, .seq #[] ne_Store___init__, se_Store___init__⟩)
    (pg : PySem.W.plainGet K C Str.empty = true)
    (hd : PySem.W.hasDictIn K C = true)
    (po : PySem.W.plainOver K C = true)
    (sa : PySem.W.findIn K (.ref C) "__setattr__" = some (some (.builtin "object.__setattr__")))
    (mk : PySem.W.makesIn K C = true)
    (kc : PySem.W.keepIn K (.ref C) = true)
    (nC : PySem.W.findIn K (.ref C) "_columns" = some none)
    (nT : PySem.W.findIn K (.ref C) "_tables" = some none)
    (nS : PySem.W.findIn K (.ref C) "_sizes" = some none)
    (nP : PySem.W.findIn K (.ref C) "_spans" = some none)
    (nH : PySem.W.findIn K (.ref C) "_shapes" = some none)
    (rd : PySem.W.readsIn K C (.type "type") = true)
    (ga : PySem.W.specialIn K (.ref C) "__getattribute__" = some (some (.builtin "type.__getattribute__")))
    (v6 : PySem.W.findCls K (.ref C) (.type "type") "MOST_COLUMNS" = some (.val (.int 6 t6)))
    (v8 : PySem.W.findCls K (.ref C) (.type "type") "MOST_TABLES" = some (.val (.int 8 t8)))
    (pgS : PySem.W.plainGet K S Str.empty = true)
    (hdS : PySem.W.hasDictIn K S = true)
    (poS : PySem.W.plainOver K S = true)
    (saS : PySem.W.findIn K (.ref S) "__setattr__" = some (some (.builtin "object.__setattr__")))
    (mkS : PySem.W.makesIn K S = true)
    (kcS : PySem.W.keepIn K (.ref S) = true)
    (nSp : PySem.W.findIn K (.ref S) "_plan" = some none)
    (nSe : PySem.W.findIn K (.ref S) "_present" = some none)
    (nSf : PySem.W.findIn K (.ref S) "_facts" = some none)
    (z_isinstance : PySem.W.nsIn K mainGlobals "isinstance" = some none)
    (z_len : PySem.W.nsIn K mainGlobals "len" = some none)
    (z_all : PySem.W.nsIn K mainGlobals "all" = some none)
    (z_list : PySem.W.nsIn K mainGlobals "list" = some none)
    (z_tuple : PySem.W.nsIn K mainGlobals "tuple" = some none)
    (z_range : PySem.W.nsIn K mainGlobals "range" = some none)
    (z_abs : PySem.W.nsIn K mainGlobals "abs" = some none)
    (z_min : PySem.W.nsIn K mainGlobals "min" = some none)
    (z_int : PySem.W.nsIn K mainGlobals "int" = some none)
    (z_bool : PySem.W.nsIn K mainGlobals "bool" = some none)
    (z_str : PySem.W.nsIn K mainGlobals "str" = some none)
    (z_sorted : PySem.W.nsIn K mainGlobals "sorted" = some none)
    (z_dict : PySem.W.nsIn K mainGlobals "dict" = some none)
    (z_any : PySem.W.nsIn K mainGlobals "any" = some none)
    (z_enumerate : PySem.W.nsIn K mainGlobals "enumerate" = some none)
    (z_set : PySem.W.nsIn K mainGlobals "set" = some none)
    (z_zip : PySem.W.nsIn K mainGlobals "zip" = some none)
    (y_MOST_VALUES : PySem.W.nsIn K mainGlobals "MOST_VALUES" = some (some (.int 6 wMOST_VALUES)))
    (y_MOST_LETTERS : PySem.W.nsIn K mainGlobals "MOST_LETTERS" = some (some (.int 8 wMOST_LETTERS)))
    (y_MOST_SIDES : PySem.W.nsIn K mainGlobals "MOST_SIDES" = some (some (.int 2 wMOST_SIDES)))
    (y_MOST_ROWS : PySem.W.nsIn K mainGlobals "MOST_ROWS" = some (some (.int 5000 wMOST_ROWS)))
    (y_MOST_STOPS : PySem.W.nsIn K mainGlobals "MOST_STOPS" = some (some (.int 6 wMOST_STOPS)))
    : ∃ fd : FuncData, (∀ (s : Shared) (v : Value), BindsTo s fd ⟨[v], []⟩ [("script", v)]) ∧ ∀ base : Heap, K.In base → base.Ns mainGlobals mg → FnOk l.prog w K mg base CX0 11 fa fd ["script"] (spLaw K) := by
  have e := hfa.symm.trans (PySem.W.mg_of X G a_law)
  cases e
  have T : Bi mg := ⟨PySem.W.mg_none_of X G z_isinstance, PySem.W.mg_none_of X G z_len, PySem.W.mg_none_of X G z_all, PySem.W.mg_none_of X G z_list, PySem.W.mg_none_of X G z_tuple, PySem.W.mg_none_of X G z_range, PySem.W.mg_none_of X G z_abs, PySem.W.mg_none_of X G z_min, PySem.W.mg_none_of X G z_int, PySem.W.mg_none_of X G z_bool, PySem.W.mg_none_of X G z_str, PySem.W.mg_none_of X G z_sorted, PySem.W.mg_none_of X G z_dict⟩
  have n_any := PySem.W.mg_none_of X G z_any
  have n_enumerate := PySem.W.mg_none_of X G z_enumerate
  have n_set := PySem.W.mg_none_of X G z_set
  have n_zip := PySem.W.mg_none_of X G z_zip
  have mMOST_VALUES := PySem.W.mg_of X G y_MOST_VALUES
  have mMOST_LETTERS := PySem.W.mg_of X G y_MOST_LETTERS
  have mMOST_SIDES := PySem.W.mg_of X G y_MOST_SIDES
  have mMOST_ROWS := PySem.W.mg_of X G y_MOST_ROWS
  have mMOST_STOPS := PySem.W.mg_of X G y_MOST_STOPS
  obtain ⟨d__law_state, F__law_state, D__law_state⟩ : ∃ fd, Fun K "_law_state" "_law_state" s_state f__law_state fd ∧ Df K mg "_law_state" s_state ["script"] f__law_state fd := ⟨_, fun_mk (st := s_state) l__law_state c__law_state kp__law_state, fun_mk (st := s_state) l__law_state c__law_state kp__law_state, PySem.W.mg_of X G a__law_state, (fun_mk (st := s_state) l__law_state c__law_state kp__law_state).binds (ps := ["script"]) fun _ _ _ _ _ _ us hl => match us, hl with | [_], _ => rfl⟩
  obtain ⟨d__law_draw, F__law_draw, D__law_draw⟩ : ∃ fd, Fun K "_law_draw" "_law_draw" s_draw f__law_draw fd ∧ Df K mg "_law_draw" s_draw ["state", "many"] f__law_draw fd := ⟨_, fun_mk (st := s_draw) l__law_draw c__law_draw kp__law_draw, fun_mk (st := s_draw) l__law_draw c__law_draw kp__law_draw, PySem.W.mg_of X G a__law_draw, (fun_mk (st := s_draw) l__law_draw c__law_draw kp__law_draw).binds (ps := ["state", "many"]) fun _ _ _ _ _ _ us hl => match us, hl with | [_, _], _ => rfl⟩
  obtain ⟨d__law_case, F__law_case, D__law_case⟩ : ∃ fd, Fun K "_law_case" "_law_case" s_lcase f__law_case fd ∧ Df K mg "_law_case" s_lcase ["state", "stops", "greatest"] f__law_case fd := ⟨_, fun_mk (st := s_lcase) l__law_case c__law_case kp__law_case, fun_mk (st := s_lcase) l__law_case c__law_case kp__law_case, PySem.W.mg_of X G a__law_case, (fun_mk (st := s_lcase) l__law_case c__law_case kp__law_case).binds (ps := ["state", "stops", "greatest"]) fun _ _ _ _ _ _ us hl => match us, hl with | [_, _, _], _ => rfl⟩
  obtain ⟨d__law_all_facts, F__law_all_facts, D__law_all_facts⟩ : ∃ fd, Fun K "_law_all_facts" "_law_all_facts" s_lall_facts f__law_all_facts fd ∧ Df K mg "_law_all_facts" s_lall_facts ["columns", "tables"] f__law_all_facts fd := ⟨_, fun_mk (st := s_lall_facts) l__law_all_facts c__law_all_facts kp__law_all_facts, fun_mk (st := s_lall_facts) l__law_all_facts c__law_all_facts kp__law_all_facts, PySem.W.mg_of X G a__law_all_facts, (fun_mk (st := s_lall_facts) l__law_all_facts c__law_all_facts kp__law_all_facts).binds (ps := ["columns", "tables"]) fun _ _ _ _ _ _ us hl => match us, hl with | [_, _], _ => rfl⟩
  obtain ⟨d__law_some, F__law_some, D__law_some⟩ : ∃ fd, Fun K "_law_some" "_law_some" s_lsome f__law_some fd ∧ Df K mg "_law_some" s_lsome ["state", "items"] f__law_some fd := ⟨_, fun_mk (st := s_lsome) l__law_some c__law_some kp__law_some, fun_mk (st := s_lsome) l__law_some c__law_some kp__law_some, PySem.W.mg_of X G a__law_some, (fun_mk (st := s_lsome) l__law_some c__law_some kp__law_some).binds (ps := ["state", "items"]) fun _ _ _ _ _ _ us hl => match us, hl with | [_, _], _ => rfl⟩
  obtain ⟨d__law_views, F__law_views, D__law_views⟩ : ∃ fd, Fun K "_law_views" "_law_views" s_lviews f__law_views fd ∧ Df K mg "_law_views" s_lviews ["state", "columns", "tables", "asked", "present"] f__law_views fd := ⟨_, fun_mk (st := s_lviews) l__law_views c__law_views kp__law_views, fun_mk (st := s_lviews) l__law_views c__law_views kp__law_views, PySem.W.mg_of X G a__law_views, (fun_mk (st := s_lviews) l__law_views c__law_views kp__law_views).binds (ps := ["state", "columns", "tables", "asked", "present"]) fun _ _ _ _ _ _ us hl => match us, hl with | [_, _, _, _, _], _ => rfl⟩
  obtain ⟨d__law_open_rows, F__law_open_rows, D__law_open_rows⟩ : ∃ fd, Fun K "_law_open_rows" "_law_open_rows" s_lopen_rows f__law_open_rows fd ∧ Df K mg "_law_open_rows" s_lopen_rows ["columns", "asked", "present", "views"] f__law_open_rows fd := ⟨_, fun_mk (st := s_lopen_rows) l__law_open_rows c__law_open_rows kp__law_open_rows, fun_mk (st := s_lopen_rows) l__law_open_rows c__law_open_rows kp__law_open_rows, PySem.W.mg_of X G a__law_open_rows, (fun_mk (st := s_lopen_rows) l__law_open_rows c__law_open_rows kp__law_open_rows).binds (ps := ["columns", "asked", "present", "views"]) fun _ _ _ _ _ _ us hl => match us, hl with | [_, _, _, _], _ => rfl⟩
  obtain ⟨d__law_answer, F__law_answer, D__law_answer⟩ : ∃ fd, Fun K "_law_answer" "_law_answer" s_lanswer f__law_answer fd ∧ Df K mg "_law_answer" s_lanswer ["columns", "asked", "present"] f__law_answer fd := ⟨_, fun_mk (st := s_lanswer) l__law_answer c__law_answer kp__law_answer, fun_mk (st := s_lanswer) l__law_answer c__law_answer kp__law_answer, PySem.W.mg_of X G a__law_answer, (fun_mk (st := s_lanswer) l__law_answer c__law_answer kp__law_answer).binds (ps := ["columns", "asked", "present"]) fun _ _ _ _ _ _ us hl => match us, hl with | [_, _, _], _ => rfl⟩
  obtain ⟨d__law_is_seen, F__law_is_seen, D__law_is_seen⟩ : ∃ fd, Fun K "_law_is_seen" "_law_is_seen" s_lis_seen f__law_is_seen fd ∧ Df K mg "_law_is_seen" s_lis_seen ["views", "fact"] f__law_is_seen fd := ⟨_, fun_mk (st := s_lis_seen) l__law_is_seen c__law_is_seen kp__law_is_seen, fun_mk (st := s_lis_seen) l__law_is_seen c__law_is_seen kp__law_is_seen, PySem.W.mg_of X G a__law_is_seen, (fun_mk (st := s_lis_seen) l__law_is_seen c__law_is_seen kp__law_is_seen).binds (ps := ["views", "fact"]) fun _ _ _ _ _ _ us hl => match us, hl with | [_, _], _ => rfl⟩
  obtain ⟨d_open_row, F_open_row, D_open_row⟩ : ∃ fd, Fun K "open_row" "open_row" s_open_row f_open_row fd ∧ Df K mg "open_row" s_open_row ["store", "looks", "ask"] f_open_row fd := ⟨_, fun_mk (st := s_open_row) l_open_row c_open_row kp_open_row, fun_mk (st := s_open_row) l_open_row c_open_row kp_open_row, PySem.W.mg_of X G a_open_row, (fun_mk (st := s_open_row) l_open_row c_open_row kp_open_row).binds (ps := ["store", "looks", "ask"]) fun _ _ _ _ _ _ us hl => match us, hl with | [_, _, _], _ => rfl⟩
  obtain ⟨d__law_great_right, F__law_great_right, D__law_great_right⟩ : ∃ fd, Fun K "_law_great_right" "_law_great_right" s_lgreat_right f__law_great_right fd ∧ Df K mg "_law_great_right" s_lgreat_right ["state"] f__law_great_right fd := ⟨_, fun_mk (st := s_lgreat_right) l__law_great_right c__law_great_right kp__law_great_right, fun_mk (st := s_lgreat_right) l__law_great_right c__law_great_right kp__law_great_right, PySem.W.mg_of X G a__law_great_right, (fun_mk (st := s_lgreat_right) l__law_great_right c__law_great_right kp__law_great_right).binds (ps := ["state"]) fun _ _ _ _ _ _ us hl => match us, hl with | [_], _ => rfl⟩
  obtain ⟨d_are_columns, F_are_columns, D_are_columns⟩ : ∃ fd, Fun K "are_columns" "are_columns" s_are_columns f_are_columns fd ∧ Df K mg "are_columns" s_are_columns ["thing"] f_are_columns fd := ⟨_, fun_mk (st := s_are_columns) l_are_columns c_are_columns kp_are_columns, fun_mk (st := s_are_columns) l_are_columns c_are_columns kp_are_columns, PySem.W.mg_of X G a_are_columns, (fun_mk (st := s_are_columns) l_are_columns c_are_columns kp_are_columns).binds (ps := ["thing"]) fun _ _ _ _ _ _ us hl => match us, hl with | [_], _ => rfl⟩
  obtain ⟨d_are_tables, F_are_tables, D_are_tables⟩ : ∃ fd, Fun K "are_tables" "are_tables" s_are_tables f_are_tables fd ∧ Df K mg "are_tables" s_are_tables ["thing", "columns"] f_are_tables fd := ⟨_, fun_mk (st := s_are_tables) l_are_tables c_are_tables kp_are_tables, fun_mk (st := s_are_tables) l_are_tables c_are_tables kp_are_tables, PySem.W.mg_of X G a_are_tables, (fun_mk (st := s_are_tables) l_are_tables c_are_tables kp_are_tables).binds (ps := ["thing", "columns"]) fun _ _ _ _ _ _ us hl => match us, hl with | [_, _], _ => rfl⟩
  obtain ⟨d_is_list, F_is_list, D_is_list⟩ : ∃ fd, Fun K "is_list" "is_list" s_is_list f_is_list fd ∧ Df K mg "is_list" s_is_list ["thing"] f_is_list fd := ⟨_, fun_mk (st := s_is_list) l_is_list c_is_list kp_is_list, fun_mk (st := s_is_list) l_is_list c_is_list kp_is_list, PySem.W.mg_of X G a_is_list, (fun_mk (st := s_is_list) l_is_list c_is_list kp_is_list).binds (ps := ["thing"]) fun _ _ _ _ _ _ us hl => match us, hl with | [_], _ => rfl⟩
  obtain ⟨d_is_column, F_is_column, D_is_column⟩ : ∃ fd, Fun K "is_column" "is_column" s_is_column f_is_column fd ∧ Df K mg "is_column" s_is_column ["thing"] f_is_column fd := ⟨_, fun_mk (st := s_is_column) l_is_column c_is_column kp_is_column, fun_mk (st := s_is_column) l_is_column c_is_column kp_is_column, PySem.W.mg_of X G a_is_column, (fun_mk (st := s_is_column) l_is_column c_is_column kp_is_column).binds (ps := ["thing"]) fun _ _ _ _ _ _ us hl => match us, hl with | [_], _ => rfl⟩
  obtain ⟨d_have_distinct_names, F_have_distinct_names, D_have_distinct_names⟩ : ∃ fd, Fun K "have_distinct_names" "have_distinct_names" s_have_distinct_names f_have_distinct_names fd ∧ Df K mg "have_distinct_names" s_have_distinct_names ["pairs"] f_have_distinct_names fd := ⟨_, fun_mk (st := s_have_distinct_names) l_have_distinct_names c_have_distinct_names kp_have_distinct_names, fun_mk (st := s_have_distinct_names) l_have_distinct_names c_have_distinct_names kp_have_distinct_names, PySem.W.mg_of X G a_have_distinct_names, (fun_mk (st := s_have_distinct_names) l_have_distinct_names c_have_distinct_names kp_have_distinct_names).binds (ps := ["pairs"]) fun _ _ _ _ _ _ us hl => match us, hl with | [_], _ => rfl⟩
  obtain ⟨d_is_pair, F_is_pair, D_is_pair⟩ : ∃ fd, Fun K "is_pair" "is_pair" s_is_pair f_is_pair fd ∧ Df K mg "is_pair" s_is_pair ["thing"] f_is_pair fd := ⟨_, fun_mk (st := s_is_pair) l_is_pair c_is_pair kp_is_pair, fun_mk (st := s_is_pair) l_is_pair c_is_pair kp_is_pair, PySem.W.mg_of X G a_is_pair, (fun_mk (st := s_is_pair) l_is_pair c_is_pair kp_is_pair).binds (ps := ["thing"]) fun _ _ _ _ _ _ us hl => match us, hl with | [_], _ => rfl⟩
  obtain ⟨d_is_name, F_is_name, D_is_name⟩ : ∃ fd, Fun K "is_name" "is_name" s_is_name f_is_name fd ∧ Df K mg "is_name" s_is_name ["thing"] f_is_name fd := ⟨_, fun_mk (st := s_is_name) l_is_name c_is_name kp_is_name, fun_mk (st := s_is_name) l_is_name c_is_name kp_is_name, PySem.W.mg_of X G a_is_name, (fun_mk (st := s_is_name) l_is_name c_is_name kp_is_name).binds (ps := ["thing"]) fun _ _ _ _ _ _ us hl => match us, hl with | [_], _ => rfl⟩
  obtain ⟨d_is_number, F_is_number, D_is_number⟩ : ∃ fd, Fun K "is_number" "is_number" s_is_number f_is_number fd ∧ Df K mg "is_number" s_is_number ["thing"] f_is_number fd := ⟨_, fun_mk (st := s_is_number) l_is_number c_is_number kp_is_number, fun_mk (st := s_is_number) l_is_number c_is_number kp_is_number, PySem.W.mg_of X G a_is_number, (fun_mk (st := s_is_number) l_is_number c_is_number kp_is_number).binds (ps := ["thing"]) fun _ _ _ _ _ _ us hl => match us, hl with | [_], _ => rfl⟩
  obtain ⟨d_is_table, F_is_table, D_is_table⟩ : ∃ fd, Fun K "is_table" "is_table" s_is_table f_is_table fd ∧ Df K mg "is_table" s_is_table ["thing", "column_names"] f_is_table fd := ⟨_, fun_mk (st := s_is_table) l_is_table c_is_table kp_is_table, fun_mk (st := s_is_table) l_is_table c_is_table kp_is_table, PySem.W.mg_of X G a_is_table, (fun_mk (st := s_is_table) l_is_table c_is_table kp_is_table).binds (ps := ["thing", "column_names"]) fun _ _ _ _ _ _ us hl => match us, hl with | [_, _], _ => rfl⟩
  obtain ⟨d_are_facts, F_are_facts, D_are_facts⟩ : ∃ fd, Fun K "are_facts" "are_facts" s_are_facts f_are_facts fd ∧ Df K mg "are_facts" s_are_facts ["plan", "thing"] f_are_facts fd := ⟨_, fun_mk (st := s_are_facts) l_are_facts c_are_facts kp_are_facts, fun_mk (st := s_are_facts) l_are_facts c_are_facts kp_are_facts, PySem.W.mg_of X G a_are_facts, (fun_mk (st := s_are_facts) l_are_facts c_are_facts kp_are_facts).binds (ps := ["plan", "thing"]) fun _ _ _ _ _ _ us hl => match us, hl with | [_, _], _ => rfl⟩
  obtain ⟨d_is_fact, F_is_fact, D_is_fact⟩ : ∃ fd, Fun K "is_fact" "is_fact" s_is_fact f_is_fact fd ∧ Df K mg "is_fact" s_is_fact ["plan", "thing"] f_is_fact fd := ⟨_, fun_mk (st := s_is_fact) l_is_fact c_is_fact kp_is_fact, fun_mk (st := s_is_fact) l_is_fact c_is_fact kp_is_fact, PySem.W.mg_of X G a_is_fact, (fun_mk (st := s_is_fact) l_is_fact c_is_fact kp_is_fact).binds (ps := ["plan", "thing"]) fun _ _ _ _ _ _ us hl => match us, hl with | [_, _], _ => rfl⟩
  obtain ⟨d_is_below, F_is_below, D_is_below⟩ : ∃ fd, Fun K "is_below" "is_below" s_is_below f_is_below fd ∧ Df K mg "is_below" s_is_below ["thing", "bound"] f_is_below fd := ⟨_, fun_mk (st := s_is_below) l_is_below c_is_below kp_is_below, fun_mk (st := s_is_below) l_is_below c_is_below kp_is_below, PySem.W.mg_of X G a_is_below, (fun_mk (st := s_is_below) l_is_below c_is_below kp_is_below).binds (ps := ["thing", "bound"]) fun _ _ _ _ _ _ us hl => match us, hl with | [_, _], _ => rfl⟩
  obtain ⟨d__law_labels, F__law_labels, D__law_labels⟩ : ∃ fd, Fun K "_law_labels" "_law_labels" s_llabels f__law_labels fd ∧ Df K mg "_law_labels" s_llabels ["state", "many"] f__law_labels fd := ⟨_, fun_mk (st := s_llabels) l__law_labels c__law_labels kp__law_labels, fun_mk (st := s_llabels) l__law_labels c__law_labels kp__law_labels, PySem.W.mg_of X G a__law_labels, (fun_mk (st := s_llabels) l__law_labels c__law_labels kp__law_labels).binds (ps := ["state", "many"]) fun _ _ _ _ _ _ us hl => match us, hl with | [_, _], _ => rfl⟩
  obtain ⟨d__law_pick, F__law_pick, D__law_pick⟩ : ∃ fd, Fun K "_law_pick" "_law_pick" s_pick f__law_pick fd ∧ Df K mg "_law_pick" s_pick ["state", "some"] f__law_pick fd := ⟨_, fun_mk (st := s_pick) l__law_pick c__law_pick kp__law_pick, fun_mk (st := s_pick) l__law_pick c__law_pick kp__law_pick, PySem.W.mg_of X G a__law_pick, (fun_mk (st := s_pick) l__law_pick c__law_pick kp__law_pick).binds (ps := ["state", "some"]) fun _ _ _ _ _ _ us hl => match us, hl with | [_, _], _ => rfl⟩
  obtain ⟨d__law_lot, F__law_lot, D__law_lot⟩ : ∃ fd, Fun K "_law_lot" "_law_lot" s_llot f__law_lot fd ∧ Df K mg "_law_lot" s_llot ["state", "size"] f__law_lot fd := ⟨_, fun_mk (st := s_llot) l__law_lot c__law_lot kp__law_lot, fun_mk (st := s_llot) l__law_lot c__law_lot kp__law_lot, PySem.W.mg_of X G a__law_lot, (fun_mk (st := s_llot) l__law_lot c__law_lot kp__law_lot).binds (ps := ["state", "size"]) fun _ _ _ _ _ _ us hl => match us, hl with | [_, _], _ => rfl⟩
  obtain ⟨d__law_shuffled, F__law_shuffled, D__law_shuffled⟩ : ∃ fd, Fun K "_law_shuffled" "_law_shuffled" s_lshuffled f__law_shuffled fd ∧ Df K mg "_law_shuffled" s_lshuffled ["state", "some"] f__law_shuffled fd := ⟨_, fun_mk (st := s_lshuffled) l__law_shuffled c__law_shuffled kp__law_shuffled, fun_mk (st := s_lshuffled) l__law_shuffled c__law_shuffled kp__law_shuffled, PySem.W.mg_of X G a__law_shuffled, (fun_mk (st := s_lshuffled) l__law_shuffled c__law_shuffled kp__law_shuffled).binds (ps := ["state", "some"]) fun _ _ _ _ _ _ us hl => match us, hl with | [_, _], _ => rfl⟩
  obtain ⟨d__law_all_rows, F__law_all_rows, D__law_all_rows⟩ : ∃ fd, Fun K "_law_all_rows" "_law_all_rows" s_lall_rows f__law_all_rows fd ∧ Df K mg "_law_all_rows" s_lall_rows ["lots"] f__law_all_rows fd := ⟨_, fun_mk (st := s_lall_rows) l__law_all_rows c__law_all_rows kp__law_all_rows, fun_mk (st := s_lall_rows) l__law_all_rows c__law_all_rows kp__law_all_rows, PySem.W.mg_of X G a__law_all_rows, (fun_mk (st := s_lall_rows) l__law_all_rows c__law_all_rows kp__law_all_rows).binds (ps := ["lots"]) fun _ _ _ _ _ _ us hl => match us, hl with | [_], _ => rfl⟩
  obtain ⟨d__law_all_looks, F__law_all_looks, D__law_all_looks⟩ : ∃ fd, Fun K "_law_all_looks" "_law_all_looks" s_lall_looks f__law_all_looks fd ∧ Df K mg "_law_all_looks" s_lall_looks ["columns", "tables"] f__law_all_looks fd := ⟨_, fun_mk (st := s_lall_looks) l__law_all_looks c__law_all_looks kp__law_all_looks, fun_mk (st := s_lall_looks) l__law_all_looks c__law_all_looks kp__law_all_looks, PySem.W.mg_of X G a__law_all_looks, (fun_mk (st := s_lall_looks) l__law_all_looks c__law_all_looks kp__law_all_looks).binds (ps := ["columns", "tables"]) fun _ _ _ _ _ _ us hl => match us, hl with | [_, _], _ => rfl⟩
  obtain ⟨d__law_lots, F__law_lots, D__law_lots⟩ : ∃ fd, Fun K "_law_lots" "_law_lots" s_llots f__law_lots fd ∧ Df K mg "_law_lots" s_llots ["columns", "asked"] f__law_lots fd := ⟨_, fun_mk (st := s_llots) l__law_lots c__law_lots kp__law_lots, fun_mk (st := s_llots) l__law_lots c__law_lots kp__law_lots, PySem.W.mg_of X G a__law_lots, (fun_mk (st := s_llots) l__law_lots c__law_lots kp__law_lots).binds (ps := ["columns", "asked"]) fun _ _ _ _ _ _ us hl => match us, hl with | [_, _], _ => rfl⟩
  obtain ⟨d__law_facts, F__law_facts, D__law_facts⟩ : ∃ fd, Fun K "_law_facts" "_law_facts" s_lfacts f__law_facts fd ∧ Df K mg "_law_facts" s_lfacts ["asked", "row"] f__law_facts fd := ⟨_, fun_mk (st := s_lfacts) l__law_facts c__law_facts kp__law_facts, fun_mk (st := s_lfacts) l__law_facts c__law_facts kp__law_facts, PySem.W.mg_of X G a__law_facts, (fun_mk (st := s_lfacts) l__law_facts c__law_facts kp__law_facts).binds (ps := ["asked", "row"]) fun _ _ _ _ _ _ us hl => match us, hl with | [_, _], _ => rfl⟩
  obtain ⟨d__law_is_open, F__law_is_open, D__law_is_open⟩ : ∃ fd, Fun K "_law_is_open" "_law_is_open" s_lis_open f__law_is_open fd ∧ Df K mg "_law_is_open" s_lis_open ["present", "views", "claims"] f__law_is_open fd := ⟨_, fun_mk (st := s_lis_open) l__law_is_open c__law_is_open kp__law_is_open, fun_mk (st := s_lis_open) l__law_is_open c__law_is_open kp__law_is_open, PySem.W.mg_of X G a__law_is_open, (fun_mk (st := s_lis_open) l__law_is_open c__law_is_open kp__law_is_open).binds (ps := ["present", "views", "claims"]) fun _ _ _ _ _ _ us hl => match us, hl with | [_, _, _], _ => rfl⟩
  obtain ⟨d__law_seers, F__law_seers, D__law_seers⟩ : ∃ fd, Fun K "_law_seers" "_law_seers" s_lseers f__law_seers fd ∧ Df K mg "_law_seers" s_lseers ["fact"] f__law_seers fd := ⟨_, fun_mk (st := s_lseers) l__law_seers c__law_seers kp__law_seers, fun_mk (st := s_lseers) l__law_seers c__law_seers kp__law_seers, PySem.W.mg_of X G a__law_seers, (fun_mk (st := s_lseers) l__law_seers c__law_seers kp__law_seers).binds (ps := ["fact"]) fun _ _ _ _ _ _ us hl => match us, hl with | [_], _ => rfl⟩
  obtain ⟨d_check_settling, F_check_settling, D_check_settling⟩ : ∃ fd, Fun K "check_settling" "check_settling" s_check_settling f_check_settling fd ∧ Df K mg "check_settling" s_check_settling ["plan", "looks", "ask"] f_check_settling fd := ⟨_, fun_mk (st := s_check_settling) l_check_settling c_check_settling kp_check_settling, fun_mk (st := s_check_settling) l_check_settling c_check_settling kp_check_settling, PySem.W.mg_of X G a_check_settling, (fun_mk (st := s_check_settling) l_check_settling c_check_settling kp_check_settling).binds (ps := ["plan", "looks", "ask"]) fun _ _ _ _ _ _ us hl => match us, hl with | [_, _, _], _ => rfl⟩
  obtain ⟨d_open_pair, F_open_pair, D_open_pair⟩ : ∃ fd, Fun K "open_pair" "open_pair" s_open_pair f_open_pair fd ∧ Df K mg "open_pair" s_open_pair ["store", "looks", "ask"] f_open_pair fd := ⟨_, fun_mk (st := s_open_pair) l_open_pair c_open_pair kp_open_pair, fun_mk (st := s_open_pair) l_open_pair c_open_pair kp_open_pair, PySem.W.mg_of X G a_open_pair, (fun_mk (st := s_open_pair) l_open_pair c_open_pair kp_open_pair).binds (ps := ["store", "looks", "ask"]) fun _ _ _ _ _ _ us hl => match us, hl with | [_, _, _], _ => rfl⟩
  obtain ⟨d_check_looks, F_check_looks, D_check_looks⟩ : ∃ fd, Fun K "check_looks" "check_looks" s_check_looks f_check_looks fd ∧ Df K mg "check_looks" s_check_looks ["plan", "thing"] f_check_looks fd := ⟨_, fun_mk (st := s_check_looks) l_check_looks c_check_looks kp_check_looks, fun_mk (st := s_check_looks) l_check_looks c_check_looks kp_check_looks, PySem.W.mg_of X G a_check_looks, (fun_mk (st := s_check_looks) l_check_looks c_check_looks kp_check_looks).binds (ps := ["plan", "thing"]) fun _ _ _ _ _ _ us hl => match us, hl with | [_, _], _ => rfl⟩
  obtain ⟨d_check_ask, F_check_ask, D_check_ask⟩ : ∃ fd, Fun K "check_ask" "check_ask" s_check_ask f_check_ask fd ∧ Df K mg "check_ask" s_check_ask ["plan", "thing"] f_check_ask fd := ⟨_, fun_mk (st := s_check_ask) l_check_ask c_check_ask kp_check_ask, fun_mk (st := s_check_ask) l_check_ask c_check_ask kp_check_ask, PySem.W.mg_of X G a_check_ask, (fun_mk (st := s_check_ask) l_check_ask c_check_ask kp_check_ask).binds (ps := ["plan", "thing"]) fun _ _ _ _ _ _ us hl => match us, hl with | [_, _], _ => rfl⟩
  obtain ⟨d_is_look, F_is_look, D_is_look⟩ : ∃ fd, Fun K "is_look" "is_look" s_is_look f_is_look fd ∧ Df K mg "is_look" s_is_look ["plan", "thing"] f_is_look fd := ⟨_, fun_mk (st := s_is_look) l_is_look c_is_look kp_is_look, fun_mk (st := s_is_look) l_is_look c_is_look kp_is_look, PySem.W.mg_of X G a_is_look, (fun_mk (st := s_is_look) l_is_look c_is_look kp_is_look).binds (ps := ["plan", "thing"]) fun _ _ _ _ _ _ us hl => match us, hl with | [_, _], _ => rfl⟩
  obtain ⟨d_check_any_ask, F_check_any_ask, D_check_any_ask⟩ : ∃ fd, Fun K "check_any_ask" "check_any_ask" s_check_any_ask f_check_any_ask fd ∧ Df K mg "check_any_ask" s_check_any_ask ["plan", "thing"] f_check_any_ask fd := ⟨_, fun_mk (st := s_check_any_ask) l_check_any_ask c_check_any_ask kp_check_any_ask, fun_mk (st := s_check_any_ask) l_check_any_ask c_check_any_ask kp_check_any_ask, PySem.W.mg_of X G a_check_any_ask, (fun_mk (st := s_check_any_ask) l_check_any_ask c_check_any_ask kp_check_any_ask).binds (ps := ["plan", "thing"]) fun _ _ _ _ _ _ us hl => match us, hl with | [_, _], _ => rfl⟩
  obtain ⟨d_product_of_sizes, F_product_of_sizes, D_product_of_sizes⟩ : ∃ fd, Fun K "product_of_sizes" "product_of_sizes" s_product_of_sizes f_product_of_sizes fd ∧ Df K mg "product_of_sizes" s_product_of_sizes ["lots"] f_product_of_sizes fd := ⟨_, fun_mk (st := s_product_of_sizes) l_product_of_sizes c_product_of_sizes kp_product_of_sizes, fun_mk (st := s_product_of_sizes) l_product_of_sizes c_product_of_sizes kp_product_of_sizes, PySem.W.mg_of X G a_product_of_sizes, (fun_mk (st := s_product_of_sizes) l_product_of_sizes c_product_of_sizes kp_product_of_sizes).binds (ps := ["lots"]) fun _ _ _ _ _ _ us hl => match us, hl with | [_], _ => rfl⟩
  obtain ⟨d_lots_of, F_lots_of, D_lots_of⟩ : ∃ fd, Fun K "lots_of" "lots_of" s_lots_of f_lots_of fd ∧ Df K mg "lots_of" s_lots_of ["plan", "ask"] f_lots_of fd := ⟨_, fun_mk (st := s_lots_of) l_lots_of c_lots_of kp_lots_of, fun_mk (st := s_lots_of) l_lots_of c_lots_of kp_lots_of, PySem.W.mg_of X G a_lots_of, (fun_mk (st := s_lots_of) l_lots_of c_lots_of kp_lots_of).binds (ps := ["plan", "ask"]) fun _ _ _ _ _ _ us hl => match us, hl with | [_, _], _ => rfl⟩
  obtain ⟨d_is_ask, F_is_ask, D_is_ask⟩ : ∃ fd, Fun K "is_ask" "is_ask" s_is_ask f_is_ask fd ∧ Df K mg "is_ask" s_is_ask ["plan", "thing"] f_is_ask fd := ⟨_, fun_mk (st := s_is_ask) l_is_ask c_is_ask kp_is_ask, fun_mk (st := s_is_ask) l_is_ask c_is_ask kp_is_ask, PySem.W.mg_of X G a_is_ask, (fun_mk (st := s_is_ask) l_is_ask c_is_ask kp_is_ask).binds (ps := ["plan", "thing"]) fun _ _ _ _ _ _ us hl => match us, hl with | [_, _], _ => rfl⟩
  obtain ⟨d_stops_of, F_stops_of, D_stops_of⟩ : ∃ fd, Fun K "stops_of" "stops_of" s_stops_of f_stops_of fd ∧ Df K mg "stops_of" s_stops_of ["ask"] f_stops_of fd := ⟨_, fun_mk (st := s_stops_of) l_stops_of c_stops_of kp_stops_of, fun_mk (st := s_stops_of) l_stops_of c_stops_of kp_stops_of, PySem.W.mg_of X G a_stops_of, (fun_mk (st := s_stops_of) l_stops_of c_stops_of kp_stops_of).binds (ps := ["ask"]) fun _ _ _ _ _ _ us hl => match us, hl with | [_], _ => rfl⟩
  obtain ⟨d_links_of, F_links_of, D_links_of⟩ : ∃ fd, Fun K "links_of" "links_of" s_links_of f_links_of fd ∧ Df K mg "links_of" s_links_of ["ask"] f_links_of fd := ⟨_, fun_mk (st := s_links_of) l_links_of c_links_of kp_links_of, fun_mk (st := s_links_of) l_links_of c_links_of kp_links_of, PySem.W.mg_of X G a_links_of, (fun_mk (st := s_links_of) l_links_of c_links_of kp_links_of).binds (ps := ["ask"]) fun _ _ _ _ _ _ us hl => match us, hl with | [_], _ => rfl⟩
  obtain ⟨d_tables_of, F_tables_of, D_tables_of⟩ : ∃ fd, Fun K "tables_of" "tables_of" s_tables_of f_tables_of fd ∧ Df K mg "tables_of" s_tables_of ["ask"] f_tables_of fd := ⟨_, fun_mk (st := s_tables_of) l_tables_of c_tables_of kp_tables_of, fun_mk (st := s_tables_of) l_tables_of c_tables_of kp_tables_of, PySem.W.mg_of X G a_tables_of, (fun_mk (st := s_tables_of) l_tables_of c_tables_of kp_tables_of).binds (ps := ["ask"]) fun _ _ _ _ _ _ us hl => match us, hl with | [_], _ => rfl⟩
  obtain ⟨d_is_stop, F_is_stop, D_is_stop⟩ : ∃ fd, Fun K "is_stop" "is_stop" s_is_stop f_is_stop fd ∧ Df K mg "is_stop" s_is_stop ["plan", "thing"] f_is_stop fd := ⟨_, fun_mk (st := s_is_stop) l_is_stop c_is_stop kp_is_stop, fun_mk (st := s_is_stop) l_is_stop c_is_stop kp_is_stop, PySem.W.mg_of X G a_is_stop, (fun_mk (st := s_is_stop) l_is_stop c_is_stop kp_is_stop).binds (ps := ["plan", "thing"]) fun _ _ _ _ _ _ us hl => match us, hl with | [_, _], _ => rfl⟩
  obtain ⟨d_is_link, F_is_link, D_is_link⟩ : ∃ fd, Fun K "is_link" "is_link" s_is_link f_is_link fd ∧ Df K mg "is_link" s_is_link ["plan", "thing", "before", "after"] f_is_link fd := ⟨_, fun_mk (st := s_is_link) l_is_link c_is_link kp_is_link, fun_mk (st := s_is_link) l_is_link c_is_link kp_is_link, PySem.W.mg_of X G a_is_link, (fun_mk (st := s_is_link) l_is_link c_is_link kp_is_link).binds (ps := ["plan", "thing", "before", "after"]) fun _ _ _ _ _ _ us hl => match us, hl with | [_, _, _, _], _ => rfl⟩
  obtain ⟨d_is_lot, F_is_lot, D_is_lot⟩ : ∃ fd, Fun K "is_lot" "is_lot" s_is_lot f_is_lot fd ∧ Df K mg "is_lot" s_is_lot ["plan", "column", "thing"] f_is_lot fd := ⟨_, fun_mk (st := s_is_lot) l_is_lot c_is_lot kp_is_lot, fun_mk (st := s_is_lot) l_is_lot c_is_lot kp_is_lot, PySem.W.mg_of X G a_is_lot, (fun_mk (st := s_is_lot) l_is_lot c_is_lot kp_is_lot).binds (ps := ["plan", "column", "thing"]) fun _ _ _ _ _ _ us hl => match us, hl with | [_, _, _], _ => rfl⟩
  obtain ⟨d_are_ones, F_are_ones, D_are_ones⟩ : ∃ fd, Fun K "are_ones" "are_ones" s_are_ones f_are_ones fd ∧ Df K mg "are_ones" s_are_ones ["plan", "column", "thing"] f_are_ones fd := ⟨_, fun_mk (st := s_are_ones) l_are_ones c_are_ones kp_are_ones, fun_mk (st := s_are_ones) l_are_ones c_are_ones kp_are_ones, PySem.W.mg_of X G a_are_ones, (fun_mk (st := s_are_ones) l_are_ones c_are_ones kp_are_ones).binds (ps := ["plan", "column", "thing"]) fun _ _ _ _ _ _ us hl => match us, hl with | [_, _, _], _ => rfl⟩
  obtain ⟨d_is_rising, F_is_rising, D_is_rising⟩ : ∃ fd, Fun K "is_rising" "is_rising" s_is_rising f_is_rising fd ∧ Df K mg "is_rising" s_is_rising ["items"] f_is_rising fd := ⟨_, fun_mk (st := s_is_rising) l_is_rising c_is_rising kp_is_rising, fun_mk (st := s_is_rising) l_is_rising c_is_rising kp_is_rising, PySem.W.mg_of X G a_is_rising, (fun_mk (st := s_is_rising) l_is_rising c_is_rising kp_is_rising).binds (ps := ["items"]) fun _ _ _ _ _ _ us hl => match us, hl with | [_], _ => rfl⟩
  obtain ⟨d_in_columns_order, F_in_columns_order, D_in_columns_order⟩ : ∃ fd, Fun K "in_columns_order" "in_columns_order" s_in_columns_order f_in_columns_order fd ∧ Df K mg "in_columns_order" s_in_columns_order ["way", "before", "after"] f_in_columns_order fd := ⟨_, fun_mk (st := s_in_columns_order) l_in_columns_order c_in_columns_order kp_in_columns_order, fun_mk (st := s_in_columns_order) l_in_columns_order c_in_columns_order kp_in_columns_order, PySem.W.mg_of X G a_in_columns_order, (fun_mk (st := s_in_columns_order) l_in_columns_order c_in_columns_order kp_in_columns_order).binds (ps := ["way", "before", "after"]) fun _ _ _ _ _ _ us hl => match us, hl with | [_, _, _], _ => rfl⟩
  obtain ⟨d_present_facts, F_present_facts, D_present_facts⟩ : ∃ fd, Fun K "present_facts" "present_facts" s_present_facts f_present_facts fd ∧ Df K mg "present_facts" s_present_facts ["store"] f_present_facts fd := ⟨_, fun_mk (st := s_present_facts) l_present_facts c_present_facts kp_present_facts, fun_mk (st := s_present_facts) l_present_facts c_present_facts kp_present_facts, PySem.W.mg_of X G a_present_facts, (fun_mk (st := s_present_facts) l_present_facts c_present_facts kp_present_facts).binds (ps := ["store"]) fun _ _ _ _ _ _ us hl => match us, hl with | [_], _ => rfl⟩
  obtain ⟨d_rows_with_facts, F_rows_with_facts, D_rows_with_facts⟩ : ∃ fd, Fun K "rows_with_facts" "rows_with_facts" s_rows_with_facts f_rows_with_facts fd ∧ Df K mg "rows_with_facts" s_rows_with_facts ["plan", "ask"] f_rows_with_facts fd := ⟨_, fun_mk (st := s_rows_with_facts) l_rows_with_facts c_rows_with_facts kp_rows_with_facts, fun_mk (st := s_rows_with_facts) l_rows_with_facts c_rows_with_facts kp_rows_with_facts, PySem.W.mg_of X G a_rows_with_facts, (fun_mk (st := s_rows_with_facts) l_rows_with_facts c_rows_with_facts kp_rows_with_facts).binds (ps := ["plan", "ask"]) fun _ _ _ _ _ _ us hl => match us, hl with | [_, _], _ => rfl⟩
  obtain ⟨d_seen_by, F_seen_by, D_seen_by⟩ : ∃ fd, Fun K "seen_by" "seen_by" s_seen_by f_seen_by fd ∧ Df K mg "seen_by" s_seen_by ["plan", "looks"] f_seen_by fd := ⟨_, fun_mk (st := s_seen_by) l_seen_by c_seen_by kp_seen_by, fun_mk (st := s_seen_by) l_seen_by c_seen_by kp_seen_by, PySem.W.mg_of X G a_seen_by, (fun_mk (st := s_seen_by) l_seen_by c_seen_by kp_seen_by).binds (ps := ["plan", "looks"]) fun _ _ _ _ _ _ us hl => match us, hl with | [_, _], _ => rfl⟩
  obtain ⟨d_first_open, F_first_open, D_first_open⟩ : ∃ fd, Fun K "first_open" "first_open" s_first_open f_first_open fd ∧ Df K mg "first_open" s_first_open ["pairs", "present", "seen"] f_first_open fd := ⟨_, fun_mk (st := s_first_open) l_first_open c_first_open kp_first_open, fun_mk (st := s_first_open) l_first_open c_first_open kp_first_open, PySem.W.mg_of X G a_first_open, (fun_mk (st := s_first_open) l_first_open c_first_open kp_first_open).binds (ps := ["pairs", "present", "seen"]) fun _ _ _ _ _ _ us hl => match us, hl with | [_, _, _], _ => rfl⟩
  obtain ⟨d_facts_added, F_facts_added, D_facts_added⟩ : ∃ fd, Fun K "facts_added" "facts_added" s_facts_added f_facts_added fd ∧ Df K mg "facts_added" s_facts_added ["ask", "at", "row", "value"] f_facts_added fd := ⟨_, fun_mk (st := s_facts_added) l_facts_added c_facts_added kp_facts_added, fun_mk (st := s_facts_added) l_facts_added c_facts_added kp_facts_added, PySem.W.mg_of X G a_facts_added, (fun_mk (st := s_facts_added) l_facts_added c_facts_added kp_facts_added).binds (ps := ["ask", "at", "row", "value"]) fun _ _ _ _ _ _ us hl => match us, hl with | [_, _, _, _], _ => rfl⟩
  obtain ⟨d_all_facts, F_all_facts, D_all_facts⟩ : ∃ fd, Fun K "all_facts" "all_facts" s_all_facts f_all_facts fd ∧ Df K mg "all_facts" s_all_facts ["plan"] f_all_facts fd := ⟨_, fun_mk (st := s_all_facts) l_all_facts c_all_facts kp_all_facts, fun_mk (st := s_all_facts) l_all_facts c_all_facts kp_all_facts, PySem.W.mg_of X G a_all_facts, (fun_mk (st := s_all_facts) l_all_facts c_all_facts kp_all_facts).binds (ps := ["plan"]) fun _ _ _ _ _ _ us hl => match us, hl with | [_], _ => rfl⟩
  obtain ⟨d_looks_that_see, F_looks_that_see, D_looks_that_see⟩ : ∃ fd, Fun K "looks_that_see" "looks_that_see" s_looks_that_see f_looks_that_see fd ∧ Df K mg "looks_that_see" s_looks_that_see ["fact"] f_looks_that_see fd := ⟨_, fun_mk (st := s_looks_that_see) l_looks_that_see c_looks_that_see kp_looks_that_see, fun_mk (st := s_looks_that_see) l_looks_that_see c_looks_that_see kp_looks_that_see, PySem.W.mg_of X G a_looks_that_see, (fun_mk (st := s_looks_that_see) l_looks_that_see c_looks_that_see kp_looks_that_see).binds (ps := ["fact"]) fun _ _ _ _ _ _ us hl => match us, hl with | [_], _ => rfl⟩
  obtain ⟨d_all_rows, F_all_rows, D_all_rows⟩ : ∃ fd, Fun K "all_rows" "all_rows" s_all_rows f_all_rows fd ∧ Df K mg "all_rows" s_all_rows ["plan", "table"] f_all_rows fd := ⟨_, fun_mk (st := s_all_rows) l_all_rows c_all_rows kp_all_rows, fun_mk (st := s_all_rows) l_all_rows c_all_rows kp_all_rows, PySem.W.mg_of X G a_all_rows, (fun_mk (st := s_all_rows) l_all_rows c_all_rows kp_all_rows).binds (ps := ["plan", "table"]) fun _ _ _ _ _ _ us hl => match us, hl with | [_, _], _ => rfl⟩
  obtain ⟨d_is_shut, F_is_shut, D_is_shut⟩ : ∃ fd, Fun K "is_shut" "is_shut" s_is_shut f_is_shut fd ∧ Df K mg "is_shut" s_is_shut ["found", "present", "seen"] f_is_shut fd := ⟨_, fun_mk (st := s_is_shut) l_is_shut c_is_shut kp_is_shut, fun_mk (st := s_is_shut) l_is_shut c_is_shut kp_is_shut, PySem.W.mg_of X G a_is_shut, (fun_mk (st := s_is_shut) l_is_shut c_is_shut kp_is_shut).binds (ps := ["found", "present", "seen"]) fun _ _ _ _ _ _ us hl => match us, hl with | [_, _, _], _ => rfl⟩
  obtain ⟨d_absent_of, F_absent_of, D_absent_of⟩ : ∃ fd, Fun K "absent_of" "absent_of" s_absent_of f_absent_of fd ∧ Df K mg "absent_of" s_absent_of ["found", "present"] f_absent_of fd := ⟨_, fun_mk (st := s_absent_of) l_absent_of c_absent_of kp_absent_of, fun_mk (st := s_absent_of) l_absent_of c_absent_of kp_absent_of, PySem.W.mg_of X G a_absent_of, (fun_mk (st := s_absent_of) l_absent_of c_absent_of kp_absent_of).binds (ps := ["found", "present"]) fun _ _ _ _ _ _ us hl => match us, hl with | [_, _], _ => rfl⟩
  obtain ⟨d_settles, F_settles, D_settles⟩ : ∃ fd, Fun K "settles" "settles" s_settles f_settles fd ∧ Df K mg "settles" s_settles ["store", "looks", "ask"] f_settles fd := ⟨_, fun_mk (st := s_settles) l_settles c_settles kp_settles, fun_mk (st := s_settles) l_settles c_settles kp_settles, PySem.W.mg_of X G a_settles, (fun_mk (st := s_settles) l_settles c_settles kp_settles).binds (ps := ["store", "looks", "ask"]) fun _ _ _ _ _ _ us hl => match us, hl with | [_, _, _], _ => rfl⟩
  have F_law := fun_mk (st := s_law) l_law c_law kp_law
  have D_law : Df K mg "law" s_law ["script"] fa _ := ⟨F_law, PySem.W.mg_of X G a_law, F_law.binds (ps := ["script"]) fun _ _ _ _ _ _ us hl => match us, hl with | [_], _ => rfl⟩
  have hC := PySem.W.mg_of X G aC
  have hS := PySem.W.mg_of X G aS
  obtain ⟨d_Plan___init__, F_Plan___init__, b_Plan___init__⟩ : ∃ fd, Fun K "__init__" "Plan.__init__" s_init f_Plan___init__ fd ∧ Binds K fd ["self", "columns", "tables"] [] := ⟨_, fun_mk (st := s_init) l_Plan___init__ c_Plan___init__ kp_Plan___init__, (fun_mk (st := s_init) l_Plan___init__ c_Plan___init__ kp_Plan___init__).binds (ps := ["self", "columns", "tables"]) fun _ _ _ _ _ _ us hl => match us, hl with | [_, _, _], _ => rfl⟩
  have M_Plan___init__ : Meth K C "__init__" f_Plan___init__ := ⟨a_Plan___init__, i_Plan___init__, kp_Plan___init__⟩
  obtain ⟨d_Plan_spans, F_Plan_spans, b_Plan_spans⟩ : ∃ fd, Fun K "spans" "Plan.spans" s_spans f_Plan_spans fd ∧ Binds K fd ["self", "table"] [] := ⟨_, fun_mk (st := s_spans) l_Plan_spans c_Plan_spans kp_Plan_spans, (fun_mk (st := s_spans) l_Plan_spans c_Plan_spans kp_Plan_spans).binds (ps := ["self", "table"]) fun _ _ _ _ _ _ us hl => match us, hl with | [_, _], _ => rfl⟩
  have M_Plan_spans : Meth K C "spans" f_Plan_spans := ⟨a_Plan_spans, i_Plan_spans, kp_Plan_spans⟩
  obtain ⟨d_Store_plan, F_Store_plan, b_Store_plan⟩ : ∃ fd, Fun K "plan" "Store.plan" s_Splan f_Store_plan fd ∧ Binds K fd ["self"] [] := ⟨_, fun_mk (st := s_Splan) l_Store_plan c_Store_plan kp_Store_plan, (fun_mk (st := s_Splan) l_Store_plan c_Store_plan kp_Store_plan).binds (ps := ["self"]) fun _ _ _ _ _ _ us hl => match us, hl with | [_], _ => rfl⟩
  have M_Store_plan : PropOf K S "plan" p_Store_plan f_Store_plan := ⟨a_Store_plan, g_Store_plan, t_Store_plan, _, r_Store_plan⟩
  obtain ⟨d_Plan_size_of, F_Plan_size_of, b_Plan_size_of⟩ : ∃ fd, Fun K "size_of" "Plan.size_of" s_size_of f_Plan_size_of fd ∧ Binds K fd ["self", "column"] [] := ⟨_, fun_mk (st := s_size_of) l_Plan_size_of c_Plan_size_of kp_Plan_size_of, (fun_mk (st := s_size_of) l_Plan_size_of c_Plan_size_of kp_Plan_size_of).binds (ps := ["self", "column"]) fun _ _ _ _ _ _ us hl => match us, hl with | [_, _], _ => rfl⟩
  have M_Plan_size_of : Meth K C "size_of" f_Plan_size_of := ⟨a_Plan_size_of, i_Plan_size_of, kp_Plan_size_of⟩
  obtain ⟨d_Plan_columns_of, F_Plan_columns_of, b_Plan_columns_of⟩ : ∃ fd, Fun K "columns_of" "Plan.columns_of" s_columns_of f_Plan_columns_of fd ∧ Binds K fd ["self", "table"] [] := ⟨_, fun_mk (st := s_columns_of) l_Plan_columns_of c_Plan_columns_of kp_Plan_columns_of, (fun_mk (st := s_columns_of) l_Plan_columns_of c_Plan_columns_of kp_Plan_columns_of).binds (ps := ["self", "table"]) fun _ _ _ _ _ _ us hl => match us, hl with | [_, _], _ => rfl⟩
  have M_Plan_columns_of : Meth K C "columns_of" f_Plan_columns_of := ⟨a_Plan_columns_of, i_Plan_columns_of, kp_Plan_columns_of⟩
  obtain ⟨d_Store_facts, F_Store_facts, b_Store_facts⟩ : ∃ fd, Fun K "facts" "Store.facts" s_Sfacts f_Store_facts fd ∧ Binds K fd ["self"] [] := ⟨_, fun_mk (st := s_Sfacts) l_Store_facts c_Store_facts kp_Store_facts, (fun_mk (st := s_Sfacts) l_Store_facts c_Store_facts kp_Store_facts).binds (ps := ["self"]) fun _ _ _ _ _ _ us hl => match us, hl with | [_], _ => rfl⟩
  have M_Store_facts : PropOf K S "facts" p_Store_facts f_Store_facts := ⟨a_Store_facts, g_Store_facts, t_Store_facts, _, r_Store_facts⟩
  obtain ⟨d_Plan_table_names, F_Plan_table_names, b_Plan_table_names⟩ : ∃ fd, Fun K "table_names" "Plan.table_names" s_table_names f_Plan_table_names fd ∧ Binds K fd ["self"] [] := ⟨_, fun_mk (st := s_table_names) l_Plan_table_names c_Plan_table_names kp_Plan_table_names, (fun_mk (st := s_table_names) l_Plan_table_names c_Plan_table_names kp_Plan_table_names).binds (ps := ["self"]) fun _ _ _ _ _ _ us hl => match us, hl with | [_], _ => rfl⟩
  have M_Plan_table_names : Meth K C "table_names" f_Plan_table_names := ⟨a_Plan_table_names, i_Plan_table_names, kp_Plan_table_names⟩
  obtain ⟨d_Store___init__, F_Store___init__⟩ : ∃ fd, FunD K "__init__" "Store.__init__" (defArgs s_Sinit) (defBody s_Sinit) (defScope s_Sinit) [.ref eT_Store___init__] [] f_Store___init__ fd := ⟨_, ⟨⟨_, _, _, _, _, _, _, _, _, _, rfl, l_Store___init__, c_Store___init__, .inr ⟨(fun z => nomatch z), dT_Store___init__, _, [.ref eT_Store___init__], _, rfl, lt_Store___init__, rfl, .cons rfl .nil⟩, .inl rfl⟩, kp_Store___init__⟩⟩
  obtain ⟨ds0_Store___init__, v0_Store___init__, b0_Store___init__⟩ := F_Store___init__.binds1 (ps := ["self", "plan", "present"]) 3 1 (fun z => nomatch z) rfl fun _ _ _ _ _ _ _ us its hu hi => match us, hu, its, hi with | [_, _, _], _, [_], _ => ⟨_, rfl, rfl⟩
  cases v0_Store___init__
  obtain ⟨ds1_Store___init__, v1_Store___init__, b1_Store___init__⟩ := F_Store___init__.binds1 (ps := ["self", "plan", "present"]) 2 0 (fun z => nomatch z) rfl fun _ _ _ _ _ _ _ us its hu hi => match us, hu, its, hi with | [_, _], _, [_], _ => ⟨_, rfl, rfl⟩
  rw [List.drop_zero] at v1_Store___init__
  have eD_Store___init__ : ∀ H, LT K H eT_Store___init__ [] := fun H => .emp le_Store___init__ rfl rfl
  have PF : PlF K C := ⟨⟨pg, hd, po, sa⟩, nC, nT, nS, nP, nH⟩
  have PL : PlC K mg C := ⟨hC, _, _, _, ⟨rd, ga⟩, ⟨v6, ⟨_, rfl⟩⟩, ⟨v8, ⟨_, rfl⟩⟩⟩
  have MKC : Mk K C f_Plan___init__ := ⟨mk, a_Plan___init__, i_Plan___init__, kc⟩
  have SF : StF K S := ⟨⟨pgS, hdS, poS, saS⟩, nSp, nSe, nSf⟩
  have SC : StC K mg S f_Store___init__ d_Store___init__ := ⟨hS, ⟨mkS, a_Store___init__, i_Store___init__, kcS⟩, b0_Store___init__⟩
  have KB0 : KBn K d_open_row ["store", "looks", "ask"] 0 ["ask", "looks", "store"] (pk2 [2, 1, 0]) (pk2 [2, 1, 0]) := kbn_of [2, 1, 0] F_open_row fun _ _ _ _ _ _ us ws h1 h2 => match us, ws, h1, h2 with | [], [_, _, _], _, _ => rfl
  refine ⟨PySem.W.fnOf "law" "law" (defArgs s_law) (defBody s_law) (defScope s_law) .none kV_law dc_law pm_law an_law cd_law ct_law, fun s v => .of_eq rfl, fun base _ _ => ?_⟩
  have G_ok_list : FnOk l.prog w K mg base CX0 1 f_is_list d_is_list ["thing"] (spList K) := by apply ok_list <;> assumption
  have G_ok_pair : FnOk l.prog w K mg base CX0 1 f_is_pair d_is_pair ["thing"] (spPair K) := by apply ok_pair <;> assumption
  have G_ok_name : FnOk l.prog w K mg base CX0 1 f_is_name d_is_name ["thing"] (spName K) := by apply ok_name <;> assumption
  have G_ok_number : FnOk l.prog w K mg base CX0 1 f_is_number d_is_number ["thing"] (spNumber K) := by apply ok_number <;> assumption
  have G_ok_column : FnOk l.prog w K mg base CX0 2 f_is_column d_is_column ["thing"] (spColumn K) := by apply ok_column (dp := d_is_pair) (dn := d_is_name) (du := d_is_number) <;> assumption
  have G_ok_dist : FnOk l.prog w K mg base CX0 1 f_have_distinct_names d_have_distinct_names ["pairs"] (spDist K) := by apply ok_dist <;> assumption
  have G_ok_columns : FnOk l.prog w K mg base CX0 3 f_are_columns d_are_columns ["thing"] (spColumns K) := by apply ok_columns (dl := d_is_list) (dc := d_is_column) (dh := d_have_distinct_names) <;> assumption
  have G_ok_table : FnOk l.prog w K mg base CX0 2 f_is_table d_is_table ["thing", "column_names"] (spTable K) := by apply ok_table (dp := d_is_pair) (dn := d_is_name) <;> assumption
  have G_ok_tables : FnOk l.prog w K mg base CX0 3 f_are_tables d_are_tables ["thing", "columns"] (spTables K) := by apply ok_tables (dl := d_is_list) (dc := d_is_table) (dh := d_have_distinct_names) <;> assumption
  have G_ok_init : FnOk l.prog w K mg base CX0 4 f_Plan___init__ d_Plan___init__ ["self", "columns", "tables"] (spInit K C) := by apply ok_init (dc := d_are_columns) (dt := d_are_tables) <;> assumption
  have G_ok_listX : FnOk l.prog w K mg base CX0 1 f_is_list d_is_list ["thing"] (spListX K) := by apply ok_listX <;> assumption
  have G_ok_pairA : FnOk l.prog w K mg base CX0 1 f_is_pair d_is_pair ["thing"] spPairA := by apply ok_pairA <;> assumption
  have G_ok_below : FnOk l.prog w K mg base CX0 2 f_is_below d_is_below ["thing", "bound"] (spBelow K) := by apply ok_below (du := d_is_number) <;> assumption
  have G_ok_is_fact : FnOk l.prog w K mg base CX0 3 f_is_fact d_is_fact ["plan", "thing"] (spIsFact C) := by apply ok_is_fact (dp := d_is_pair) (db := d_is_below) <;> assumption
  have G_ok_are_facts : FnOk l.prog w K mg base CX0 4 f_are_facts d_are_facts ["plan", "thing"] (spAreF K C) := by apply ok_are_facts (dl := d_is_list) (di := d_is_fact) <;> assumption
  have G_ok_Sinit : FnOk l.prog w K mg base CX0 5 f_Store___init__ d_Store___init__ ["self", "plan", "present"] (spSInit l.prog w K C S) := by apply ok_Sinit (da := d_are_facts) <;> assumption
  have G_ok_state : FnOk l.prog w K mg base CX0 1 f__law_state d__law_state ["script"] (spState K) := by apply ok_state <;> assumption
  have G_ok_draw : FnOk l.prog w K mg base CX0 1 f__law_draw d__law_draw ["state", "many"] spDraw := by apply ok_draw <;> assumption
  have G_ok_pick : FnOk l.prog w K mg base CX0 2 f__law_pick d__law_pick ["state", "some"] spPick := by apply ok_pick (dd := d__law_draw) <;> assumption
  have G_ok_labels : FnOk l.prog w K mg base CX0 3 f__law_labels d__law_labels ["state", "many"] spLabels := by apply ok_labels (dd := d__law_draw) (dp := d__law_pick) <;> assumption
  have G_ok_lot : FnOk l.prog w K mg base CX0 2 f__law_lot d__law_lot ["state", "size"] spLot := by apply ok_lot (dd := d__law_draw) <;> assumption
  have G_ok_mixed : FnOk l.prog w K mg base CX0 2 f__law_shuffled d__law_shuffled ["state", "some"] (spMixed K) := by apply ok_mixed (dd := d__law_draw) <;> assumption
  have G_ok_case : FnOk l.prog w K mg base CX0 4 f__law_case d__law_case ["state", "stops", "greatest"] (spCase K) := by apply ok_case (dlb := d__law_labels) (ddr := d__law_draw) (dpi := d__law_pick) (dlo := d__law_lot) (dmi := d__law_shuffled) <;> assumption
  have G_ok_lallrows : FnOk l.prog w K mg base CX0 1 f__law_all_rows d__law_all_rows ["lots"] spLAllRows := by apply ok_lallrows <;> assumption
  have G_ok_lallfacts : FnOk l.prog w K mg base CX0 2 f__law_all_facts d__law_all_facts ["columns", "tables"] spLAllFacts := by apply ok_lallfacts (dlar := d__law_all_rows) <;> assumption
  have G_ok_lsomeV : FnOk l.prog w K mg base CX0 3 f__law_some d__law_some ["state", "items"] spLSomeV := by apply ok_lsomeV (dpi := d__law_pick) (ddr := d__law_draw) <;> assumption
  have G_ok_lalooks : FnOk l.prog w K mg base CX0 1 f__law_all_looks d__law_all_looks ["columns", "tables"] spLAllLooks := by apply ok_lalooks <;> assumption
  have G_ok_llots : FnOk l.prog w K mg base CX0 1 f__law_lots d__law_lots ["columns", "asked"] spLLots := by apply ok_llots <;> assumption
  have G_ok_lrow : FnOk l.prog w K mg base CX0 1 f__law_facts d__law_facts ["asked", "row"] spLRow := by apply ok_lrow <;> assumption
  have G_ok_lseers : FnOk l.prog w K mg base CX0 1 f__law_seers d__law_seers ["fact"] spLSeers := by apply ok_lseers <;> assumption
  have G_ok_lseen : FnOk l.prog w K mg base CX0 2 f__law_is_seen d__law_is_seen ["views", "fact"] (spLSeen l.prog w) := by apply ok_lseen (dse := d__law_seers) <;> assumption
  have G_ok_lopen : FnOk l.prog w K mg base CX0 3 f__law_is_open d__law_is_open ["present", "views", "claims"] (spLOpen l.prog w) := by apply ok_lopen (dse := d__law_is_seen) <;> assumption
  have G_ok_lorows : FnOk l.prog w K mg base CX0 4 f__law_open_rows d__law_open_rows ["columns", "asked", "present", "views"] spLORows := by apply ok_lorows (dlar := d__law_all_rows) (dll := d__law_lots) (dlf := d__law_facts) (dlo := d__law_is_open) <;> assumption
  have G_ok_lviews : FnOk l.prog w K mg base CX0 5 f__law_views d__law_views ["state", "columns", "tables", "asked", "present"] spLViews := by apply ok_lviews (dal := d__law_all_looks) (dso := d__law_some) (ddr := d__law_draw) (dlar := d__law_all_rows) (dll := d__law_lots) (dmi := d__law_shuffled) (dlo := d__law_open_rows) <;> assumption
  have G_ok_lanswer : FnOk l.prog w K mg base CX0 2 f__law_answer d__law_answer ["columns", "asked", "present"] (spLAnswer l.prog w) := by apply ok_lanswer (dlar := d__law_all_rows) (dll := d__law_lots) (dlf := d__law_facts) <;> assumption
  have G_ok_Splan : FnOk l.prog w K mg base CX0 1 f_Store_plan d_Store_plan ["self"] (getSp S (Str.ofString "_plan")) := by apply ok_Splan <;> assumption
  have G_ok_is_look : FnOk l.prog w K mg base CX0 3 f_is_look d_is_look ["plan", "thing"] (spIsLook C) := by apply ok_is_look (db := d_is_below) <;> assumption
  have G_ok_check_looks2 : FnOk l.prog w K mg base CX0 4 f_check_looks d_check_looks ["plan", "thing"] (spCheckL2 K C) := by apply ok_check_looks2 (dl := d_is_list) (di := d_is_look) <;> assumption
  have G_ok_stops : FnOk l.prog w K mg base CX0 1 f_stops_of d_stops_of ["ask"] spStops := by apply ok_stops <;> assumption
  have G_ok_links : FnOk l.prog w K mg base CX0 1 f_links_of d_links_of ["ask"] spLinks := by apply ok_links <;> assumption
  have G_ok_tables_of : FnOk l.prog w K mg base CX0 2 f_tables_of d_tables_of ["ask"] spTablesOf := by apply ok_tables_of (ds := d_stops_of) (dl := d_links_of) <;> assumption
  have G_ok_size_of : FnOk l.prog w K mg base CX0 1 f_Plan_size_of d_Plan_size_of ["self", "column"] (spSizeOf K C) := by apply ok_size_of <;> assumption
  have G_ok_rising : FnOk l.prog w K mg base CX0 1 f_is_rising d_is_rising ["items"] (spRising K) := by apply ok_rising <;> assumption
  have G_ok_is_lot : FnOk l.prog w K mg base CX0 3 f_is_lot d_is_lot ["plan", "column", "thing"] (spIsLot C) := by apply ok_is_lot (ds := d_Plan_size_of) (db := d_is_below) (dr := d_is_rising) <;> assumption
  have G_ok_cols_of : FnOk l.prog w K mg base CX0 1 f_Plan_columns_of d_Plan_columns_of ["self", "table"] (spColsOf C) := by apply ok_cols_of <;> assumption
  have G_ok_ones : FnOk l.prog w K mg base CX0 2 f_are_ones d_are_ones ["plan", "column", "thing"] (spOnes C) := by apply ok_ones (ds := d_Plan_columns_of) (dr := d_is_rising) <;> assumption
  have G_ok_is_stop : FnOk l.prog w K mg base CX0 4 f_is_stop d_is_stop ["plan", "thing"] (spIsStop C) := by apply ok_is_stop (ds := d_Plan_size_of) (dl := d_is_lot) (do' := d_are_ones) <;> assumption
  have G_ok_order : FnOk l.prog w K mg base CX0 1 f_in_columns_order d_in_columns_order ["way", "before", "after"] spOrder := by apply ok_order <;> assumption
  have G_ok_is_link : FnOk l.prog w K mg base CX0 3 f_is_link d_is_link ["plan", "thing", "before", "after"] (spIsLink C) := by apply ok_is_link (ds := d_Plan_columns_of) (dp := d_is_pair) (db := d_is_below) (do' := d_in_columns_order) <;> assumption
  have G_ok_is_ask : FnOk l.prog w K mg base CX0 5 f_is_ask d_is_ask ["plan", "thing"] (spIsAsk C) := by apply ok_is_ask (ds := d_stops_of) (dl := d_links_of) (dt := d_tables_of) (di := d_is_stop) (dk := d_is_link) <;> assumption
  have G_ok_any_ask : FnOk l.prog w K mg base CX0 6 f_check_any_ask d_check_any_ask ["plan", "thing"] (spAnyAskV C) := by apply ok_any_ask (di := d_is_ask) <;> assumption
  have G_ok_prod : FnOk l.prog w K mg base CX0 1 f_product_of_sizes d_product_of_sizes ["lots"] spProd := by apply ok_prod <;> assumption
  have G_ok_lots_of : FnOk l.prog w K mg base CX0 2 f_lots_of d_lots_of ["plan", "ask"] (spLotsOf C) := by apply ok_lots_of (dz := d_Plan_size_of) (ds := d_stops_of) <;> assumption
  have G_ok_check_ask : FnOk l.prog w K mg base CX0 7 f_check_ask d_check_ask ["plan", "thing"] (spCheckAskV C) := by apply ok_check_ask (da := d_check_any_ask) (dp := d_product_of_sizes) (dl := d_lots_of) <;> assumption
  have G_ok_check_s : FnOk l.prog w K mg base CX0 8 f_check_settling d_check_settling ["plan", "looks", "ask"] (spCheckS K C) := by apply ok_check_s (dl := d_check_looks) (da := d_check_ask) <;> assumption
  have G_ok_Sfacts : FnOk l.prog w K mg base CX0 1 f_Store_facts d_Store_facts ["self"] (getSp S (Str.ofString "_facts")) := by apply ok_Sfacts <;> assumption
  have G_ok_presf : FnOk l.prog w K mg base CX0 3 f_present_facts d_present_facts ["store"] (spPresF l.prog w S) := by apply ok_presf (df := d_Store_facts) <;> assumption
  have G_ok_added : FnOk l.prog w K mg base CX0 2 f_facts_added d_facts_added ["ask", "at", "row", "value"] spAdded := by apply ok_added (do' := d_in_columns_order) <;> assumption
  have G_ok_rwf : FnOk l.prog w K mg base CX0 3 f_rows_with_facts d_rows_with_facts ["plan", "ask"] (spRwf C) := by apply ok_rwf (dlot := d_lots_of) (dfa := d_facts_added) <;> assumption
  have G_ok_tnames : FnOk l.prog w K mg base CX0 1 f_Plan_table_names d_Plan_table_names ["self"] (spTabNames C) := by apply ok_tnames <;> assumption
  have G_ok_all_rows : FnOk l.prog w K mg base CX0 2 f_all_rows d_all_rows ["plan", "table"] (spAllRows C) := by apply ok_all_rows <;> assumption
  have G_ok_all_facts : FnOk l.prog w K mg base CX0 3 f_all_facts d_all_facts ["plan"] (spAllFacts C) := by apply ok_all_facts (dt := d_Plan_table_names) (dw := d_all_rows) <;> assumption
  have G_ok_lts : FnOk l.prog w K mg base CX0 1 f_looks_that_see d_looks_that_see ["fact"] spLts := by apply ok_lts <;> assumption
  have G_ok_seen_by : FnOk l.prog w K mg base CX0 4 f_seen_by d_seen_by ["plan", "looks"] (spSeenBy l.prog w K C) := by apply ok_seen_by (daf := d_all_facts) (dlt := d_looks_that_see) <;> assumption
  have G_ok_absent : FnOk l.prog w K mg base CX0 1 f_absent_of d_absent_of ["found", "present"] (spAbsent l.prog w K) := by apply ok_absent <;> assumption
  have G_ok_shut : FnOk l.prog w K mg base CX0 2 f_is_shut d_is_shut ["found", "present", "seen"] (spShut l.prog w K) := by apply ok_shut (dab := d_absent_of) <;> assumption
  have G_ok_first : FnOk l.prog w K mg base CX0 3 f_first_open d_first_open ["pairs", "present", "seen"] (spFirst l.prog w) := by apply ok_first (dsh := d_is_shut) <;> assumption
  have G_ok_open_pair : FnOk l.prog w K mg base CX0 5 f_open_pair d_open_pair ["store", "looks", "ask"] (spOPair l.prog w K C S) := by apply ok_open_pair (dp := d_Store_plan) (dpf := d_present_facts) (drw := d_rows_with_facts) (dsb := d_seen_by) (dfi := d_first_open) <;> assumption
  have G_ok_open_row : FnOk l.prog w K mg base CX0 9 f_open_row d_open_row ["store", "looks", "ask"] (spOpenRow l.prog w K C S) := by apply ok_open_row (dp := d_Store_plan) (dch := d_check_settling) (dpa := d_open_pair) <;> assumption
  have G_ok_settles : FnOk l.prog w K mg base CX0 9 f_settles d_settles ["store", "looks", "ask"] (spSettles l.prog w K C S) := by apply ok_settles (dp := d_Store_plan) (dch := d_check_settling) (dpa := d_open_pair) <;> assumption
  have G_ok_great : FnOk l.prog w K mg base CX0 10 f__law_great_right d__law_great_right ["state"] spGreat := by apply ok_great (din := d_Plan___init__) (dsi := d_Store___init__) (ddr := d__law_draw) (dca := d__law_case) (dlf := d__law_all_facts) (dal := d__law_all_looks) (dso := d__law_some) (dlo := d__law_open_rows) (dorw := d_open_row) (dse := d_settles) <;> assumption
  apply ok_law (din := d_Plan___init__) (dsi := d_Store___init__) (dst := d__law_state) (ddr := d__law_draw) (dca := d__law_case) (dlf := d__law_all_facts) (dso := d__law_some) (dlv := d__law_views) (dlo := d__law_open_rows) (dlw := d__law_answer) (dis := d__law_is_seen) (dorw := d_open_row) (dgr := d__law_great_right) <;> assumption
theorem walk {l : PySem.W.OpenLaw} {q : Program} {loose : List Str} {XP : (Str → Option Value) → Heap → Prop} {YP : World → Heap → Prop} {d : DefRec} {K : Params → PySem.W.Frag} (hn : l.most = some 63) (hdf : d.params.defaults = [])
    (hY : ∀ (w : World) (h : Heap), YP w h → (K w.params).In h)
    (F : ∀ (w : World) (mg : Str → Option Value) (fa : Addr) (h : Heap), (K w.params).In h → h.Ns mainGlobals mg → mg d.name = some (.ref fa) →
      ∃ fd : FuncData, (∀ (s : Shared) (u : Value), BindsTo s fd ⟨[u], []⟩ [("script", u)]) ∧ ∀ base : Heap, (K w.params).In base → base.Ns mainGlobals mg → FnOk l.prog w (K w.params) mg base CX0 11 fa fd ["script"] (spLaw (K w.params))) :
    PySem.W.WalkO q loose XP YP l.row.toRowW d [] (fun f vs => PySem.call f vs) :=
  L2.walk_of (n := 63) (k := 11) (x := "script") (CX := fun _ => CX0) (sp := fun w => spLaw (K w.params)) hn (by decide) hdf ⟨rfl, by decide, by decide⟩ hY F (fun _ _ a ns hl _ hS => ⟨a, ns, rfl, hS, hl, fun _ => rfl⟩) fun _ _ _ _ _ z => z
end As

/-! ## Z2 -/
open PySem PySem.W PyProof.Rows in
set_option maxRecDepth 100000 in
set_option maxHeartbeats 0 in
theorem PySem.Challenge.cw_asksold_k21_open_rows_holds : PySem.Challenge.rw_asksold_k21_open_rows.Holds := by
  w_on; o_law; k_head; (case hw => w_witness2)
  k_fill
  refine As.walk (l := PySem.Challenge.rw_asksold_k21_open_rows) rfl rfl (fun w h Y => PySem.W.kIn_of Y) ?F
  case F =>
    intro w mg fa h KX G hmg
    refine' As.all_mk KX G hmg ?ya__law_state ?yl__law_state ?yc__law_state ?ykp__law_state ?ya__law_draw ?yl__law_draw ?yc__law_draw ?ykp__law_draw ?ya__law_case ?yl__law_case ?yc__law_case ?ykp__law_case ?ya__law_all_facts ?yl__law_all_facts ?yc__law_all_facts ?ykp__law_all_facts ?ya__law_some ?yl__law_some ?yc__law_some ?ykp__law_some ?ya__law_views ?yl__law_views ?yc__law_views ?ykp__law_views ?ya__law_open_rows ?yl__law_open_rows ?yc__law_open_rows ?ykp__law_open_rows ?ya__law_answer ?yl__law_answer ?yc__law_answer ?ykp__law_answer ?ya__law_is_seen ?yl__law_is_seen ?yc__law_is_seen ?ykp__law_is_seen ?ya_open_row ?yl_open_row ?yc_open_row ?ykp_open_row ?ya__law_great_right ?yl__law_great_right ?yc__law_great_right ?ykp__law_great_right ?ya_are_columns ?yl_are_columns ?yc_are_columns ?ykp_are_columns ?ya_are_tables ?yl_are_tables ?yc_are_tables ?ykp_are_tables ?ya_is_list ?yl_is_list ?yc_is_list ?ykp_is_list ?ya_is_column ?yl_is_column ?yc_is_column ?ykp_is_column ?ya_have_distinct_names ?yl_have_distinct_names ?yc_have_distinct_names ?ykp_have_distinct_names ?ya_is_pair ?yl_is_pair ?yc_is_pair ?ykp_is_pair ?ya_is_name ?yl_is_name ?yc_is_name ?ykp_is_name ?ya_is_number ?yl_is_number ?yc_is_number ?ykp_is_number ?ya_is_table ?yl_is_table ?yc_is_table ?ykp_is_table ?ya_are_facts ?yl_are_facts ?yc_are_facts ?ykp_are_facts ?ya_is_fact ?yl_is_fact ?yc_is_fact ?ykp_is_fact ?ya_is_below ?yl_is_below ?yc_is_below ?ykp_is_below ?ya__law_labels ?yl__law_labels ?yc__law_labels ?ykp__law_labels ?ya__law_pick ?yl__law_pick ?yc__law_pick ?ykp__law_pick ?ya__law_lot ?yl__law_lot ?yc__law_lot ?ykp__law_lot ?ya__law_shuffled ?yl__law_shuffled ?yc__law_shuffled ?ykp__law_shuffled ?ya__law_all_rows ?yl__law_all_rows ?yc__law_all_rows ?ykp__law_all_rows ?ya__law_all_looks ?yl__law_all_looks ?yc__law_all_looks ?ykp__law_all_looks ?ya__law_lots ?yl__law_lots ?yc__law_lots ?ykp__law_lots ?ya__law_facts ?yl__law_facts ?yc__law_facts ?ykp__law_facts ?ya__law_is_open ?yl__law_is_open ?yc__law_is_open ?ykp__law_is_open ?ya__law_seers ?yl__law_seers ?yc__law_seers ?ykp__law_seers ?ya_check_settling ?yl_check_settling ?yc_check_settling ?ykp_check_settling ?ya_open_pair ?yl_open_pair ?yc_open_pair ?ykp_open_pair ?ya_check_looks ?yl_check_looks ?yc_check_looks ?ykp_check_looks ?ya_check_ask ?yl_check_ask ?yc_check_ask ?ykp_check_ask ?ya_is_look ?yl_is_look ?yc_is_look ?ykp_is_look ?ya_check_any_ask ?yl_check_any_ask ?yc_check_any_ask ?ykp_check_any_ask ?ya_product_of_sizes ?yl_product_of_sizes ?yc_product_of_sizes ?ykp_product_of_sizes ?ya_lots_of ?yl_lots_of ?yc_lots_of ?ykp_lots_of ?ya_is_ask ?yl_is_ask ?yc_is_ask ?ykp_is_ask ?ya_stops_of ?yl_stops_of ?yc_stops_of ?ykp_stops_of ?ya_links_of ?yl_links_of ?yc_links_of ?ykp_links_of ?ya_tables_of ?yl_tables_of ?yc_tables_of ?ykp_tables_of ?ya_is_stop ?yl_is_stop ?yc_is_stop ?ykp_is_stop ?ya_is_link ?yl_is_link ?yc_is_link ?ykp_is_link ?ya_is_lot ?yl_is_lot ?yc_is_lot ?ykp_is_lot ?ya_are_ones ?yl_are_ones ?yc_are_ones ?ykp_are_ones ?ya_is_rising ?yl_is_rising ?yc_is_rising ?ykp_is_rising ?ya_in_columns_order ?yl_in_columns_order ?yc_in_columns_order ?ykp_in_columns_order ?ya_present_facts ?yl_present_facts ?yc_present_facts ?ykp_present_facts ?ya_rows_with_facts ?yl_rows_with_facts ?yc_rows_with_facts ?ykp_rows_with_facts ?ya_seen_by ?yl_seen_by ?yc_seen_by ?ykp_seen_by ?ya_first_open ?yl_first_open ?yc_first_open ?ykp_first_open ?ya_facts_added ?yl_facts_added ?yc_facts_added ?ykp_facts_added ?ya_all_facts ?yl_all_facts ?yc_all_facts ?ykp_all_facts ?ya_looks_that_see ?yl_looks_that_see ?yc_looks_that_see ?ykp_looks_that_see ?ya_all_rows ?yl_all_rows ?yc_all_rows ?ykp_all_rows ?ya_is_shut ?yl_is_shut ?yc_is_shut ?ykp_is_shut ?ya_absent_of ?yl_absent_of ?yc_absent_of ?ykp_absent_of ?ya_settles ?yl_settles ?yc_settles ?ykp_settles ?ya_law ?yl_law ?yc_law ?ykp_law ?yaC ?yaS ?ya_Plan___init__ ?yi_Plan___init__ ?yl_Plan___init__ ?yc_Plan___init__ ?ykp_Plan___init__ ?ya_Plan_spans ?yi_Plan_spans ?yl_Plan_spans ?yc_Plan_spans ?ykp_Plan_spans ?ya_Store_plan ?yg_Store_plan ?yt_Store_plan ?yr_Store_plan ?yl_Store_plan ?yc_Store_plan ?ykp_Store_plan ?ya_Plan_size_of ?yi_Plan_size_of ?yl_Plan_size_of ?yc_Plan_size_of ?ykp_Plan_size_of ?ya_Plan_columns_of ?yi_Plan_columns_of ?yl_Plan_columns_of ?yc_Plan_columns_of ?ykp_Plan_columns_of ?ya_Store_facts ?yg_Store_facts ?yt_Store_facts ?yr_Store_facts ?yl_Store_facts ?yc_Store_facts ?ykp_Store_facts ?ya_Plan_table_names ?yi_Plan_table_names ?yl_Plan_table_names ?yc_Plan_table_names ?ykp_Plan_table_names ?ya_Store___init__ ?yi_Store___init__ ?yl_Store___init__ ?ylt_Store___init__ ?yc_Store___init__ ?ykp_Store___init__ ?yle_Store___init__ ?ypg ?yhd ?ypo ?ysa ?ymk ?ykc ?ynC ?ynT ?ynS ?ynP ?ynH ?yrd ?yga ?yv6 ?yv8 ?ypgS ?yhdS ?ypoS ?ysaS ?ymkS ?ykcS ?ynSp ?ynSe ?ynSf ?yz_isinstance ?yz_len ?yz_all ?yz_list ?yz_tuple ?yz_range ?yz_abs ?yz_min ?yz_int ?yz_bool ?yz_str ?yz_sorted ?yz_dict ?yz_any ?yz_enumerate ?yz_set ?yz_zip ?yy_MOST_VALUES ?yy_MOST_LETTERS ?yy_MOST_SIDES ?yy_MOST_ROWS ?yy_MOST_STOPS
    (case ya__law_state => k_is)
    (case yl__law_state => k_is)
    (case yc__law_state => k_is)
    (case ykp__law_state => k_is)
    (case ya__law_draw => k_is)
    (case yl__law_draw => k_is)
    (case yc__law_draw => k_is)
    (case ykp__law_draw => k_is)
    (case ya__law_case => k_is)
    (case yl__law_case => k_is)
    (case yc__law_case => k_is)
    (case ykp__law_case => k_is)
    (case ya__law_all_facts => k_is)
    (case yl__law_all_facts => k_is)
    (case yc__law_all_facts => k_is)
    (case ykp__law_all_facts => k_is)
    (case ya__law_some => k_is)
    (case yl__law_some => k_is)
    (case yc__law_some => k_is)
    (case ykp__law_some => k_is)
    (case ya__law_views => k_is)
    (case yl__law_views => k_is)
    (case yc__law_views => k_is)
    (case ykp__law_views => k_is)
    (case ya__law_open_rows => k_is)
    (case yl__law_open_rows => k_is)
    (case yc__law_open_rows => k_is)
    (case ykp__law_open_rows => k_is)
    (case ya__law_answer => k_is)
    (case yl__law_answer => k_is)
    (case yc__law_answer => k_is)
    (case ykp__law_answer => k_is)
    (case ya__law_is_seen => k_is)
    (case yl__law_is_seen => k_is)
    (case yc__law_is_seen => k_is)
    (case ykp__law_is_seen => k_is)
    (case ya_open_row => k_is)
    (case yl_open_row => k_is)
    (case yc_open_row => k_is)
    (case ykp_open_row => k_is)
    (case ya__law_great_right => k_is)
    (case yl__law_great_right => k_is)
    (case yc__law_great_right => k_is)
    (case ykp__law_great_right => k_is)
    (case ya_are_columns => k_is)
    (case yl_are_columns => k_is)
    (case yc_are_columns => k_is)
    (case ykp_are_columns => k_is)
    (case ya_are_tables => k_is)
    (case yl_are_tables => k_is)
    (case yc_are_tables => k_is)
    (case ykp_are_tables => k_is)
    (case ya_is_list => k_is)
    (case yl_is_list => k_is)
    (case yc_is_list => k_is)
    (case ykp_is_list => k_is)
    (case ya_is_column => k_is)
    (case yl_is_column => k_is)
    (case yc_is_column => k_is)
    (case ykp_is_column => k_is)
    (case ya_have_distinct_names => k_is)
    (case yl_have_distinct_names => k_is)
    (case yc_have_distinct_names => k_is)
    (case ykp_have_distinct_names => k_is)
    (case ya_is_pair => k_is)
    (case yl_is_pair => k_is)
    (case yc_is_pair => k_is)
    (case ykp_is_pair => k_is)
    (case ya_is_name => k_is)
    (case yl_is_name => k_is)
    (case yc_is_name => k_is)
    (case ykp_is_name => k_is)
    (case ya_is_number => k_is)
    (case yl_is_number => k_is)
    (case yc_is_number => k_is)
    (case ykp_is_number => k_is)
    (case ya_is_table => k_is)
    (case yl_is_table => k_is)
    (case yc_is_table => k_is)
    (case ykp_is_table => k_is)
    (case ya_are_facts => k_is)
    (case yl_are_facts => k_is)
    (case yc_are_facts => k_is)
    (case ykp_are_facts => k_is)
    (case ya_is_fact => k_is)
    (case yl_is_fact => k_is)
    (case yc_is_fact => k_is)
    (case ykp_is_fact => k_is)
    (case ya_is_below => k_is)
    (case yl_is_below => k_is)
    (case yc_is_below => k_is)
    (case ykp_is_below => k_is)
    (case ya__law_labels => k_is)
    (case yl__law_labels => k_is)
    (case yc__law_labels => k_is)
    (case ykp__law_labels => k_is)
    (case ya__law_pick => k_is)
    (case yl__law_pick => k_is)
    (case yc__law_pick => k_is)
    (case ykp__law_pick => k_is)
    (case ya__law_lot => k_is)
    (case yl__law_lot => k_is)
    (case yc__law_lot => k_is)
    (case ykp__law_lot => k_is)
    (case ya__law_shuffled => k_is)
    (case yl__law_shuffled => k_is)
    (case yc__law_shuffled => k_is)
    (case ykp__law_shuffled => k_is)
    (case ya__law_all_rows => k_is)
    (case yl__law_all_rows => k_is)
    (case yc__law_all_rows => k_is)
    (case ykp__law_all_rows => k_is)
    (case ya__law_all_looks => k_is)
    (case yl__law_all_looks => k_is)
    (case yc__law_all_looks => k_is)
    (case ykp__law_all_looks => k_is)
    (case ya__law_lots => k_is)
    (case yl__law_lots => k_is)
    (case yc__law_lots => k_is)
    (case ykp__law_lots => k_is)
    (case ya__law_facts => k_is)
    (case yl__law_facts => k_is)
    (case yc__law_facts => k_is)
    (case ykp__law_facts => k_is)
    (case ya__law_is_open => k_is)
    (case yl__law_is_open => k_is)
    (case yc__law_is_open => k_is)
    (case ykp__law_is_open => k_is)
    (case ya__law_seers => k_is)
    (case yl__law_seers => k_is)
    (case yc__law_seers => k_is)
    (case ykp__law_seers => k_is)
    (case ya_check_settling => k_is)
    (case yl_check_settling => k_is)
    (case yc_check_settling => k_is)
    (case ykp_check_settling => k_is)
    (case ya_open_pair => k_is)
    (case yl_open_pair => k_is)
    (case yc_open_pair => k_is)
    (case ykp_open_pair => k_is)
    (case ya_check_looks => k_is)
    (case yl_check_looks => k_is)
    (case yc_check_looks => k_is)
    (case ykp_check_looks => k_is)
    (case ya_check_ask => k_is)
    (case yl_check_ask => k_is)
    (case yc_check_ask => k_is)
    (case ykp_check_ask => k_is)
    (case ya_is_look => k_is)
    (case yl_is_look => k_is)
    (case yc_is_look => k_is)
    (case ykp_is_look => k_is)
    (case ya_check_any_ask => k_is)
    (case yl_check_any_ask => k_is)
    (case yc_check_any_ask => k_is)
    (case ykp_check_any_ask => k_is)
    (case ya_product_of_sizes => k_is)
    (case yl_product_of_sizes => k_is)
    (case yc_product_of_sizes => k_is)
    (case ykp_product_of_sizes => k_is)
    (case ya_lots_of => k_is)
    (case yl_lots_of => k_is)
    (case yc_lots_of => k_is)
    (case ykp_lots_of => k_is)
    (case ya_is_ask => k_is)
    (case yl_is_ask => k_is)
    (case yc_is_ask => k_is)
    (case ykp_is_ask => k_is)
    (case ya_stops_of => k_is)
    (case yl_stops_of => k_is)
    (case yc_stops_of => k_is)
    (case ykp_stops_of => k_is)
    (case ya_links_of => k_is)
    (case yl_links_of => k_is)
    (case yc_links_of => k_is)
    (case ykp_links_of => k_is)
    (case ya_tables_of => k_is)
    (case yl_tables_of => k_is)
    (case yc_tables_of => k_is)
    (case ykp_tables_of => k_is)
    (case ya_is_stop => k_is)
    (case yl_is_stop => k_is)
    (case yc_is_stop => k_is)
    (case ykp_is_stop => k_is)
    (case ya_is_link => k_is)
    (case yl_is_link => k_is)
    (case yc_is_link => k_is)
    (case ykp_is_link => k_is)
    (case ya_is_lot => k_is)
    (case yl_is_lot => k_is)
    (case yc_is_lot => k_is)
    (case ykp_is_lot => k_is)
    (case ya_are_ones => k_is)
    (case yl_are_ones => k_is)
    (case yc_are_ones => k_is)
    (case ykp_are_ones => k_is)
    (case ya_is_rising => k_is)
    (case yl_is_rising => k_is)
    (case yc_is_rising => k_is)
    (case ykp_is_rising => k_is)
    (case ya_in_columns_order => k_is)
    (case yl_in_columns_order => k_is)
    (case yc_in_columns_order => k_is)
    (case ykp_in_columns_order => k_is)
    (case ya_present_facts => k_is)
    (case yl_present_facts => k_is)
    (case yc_present_facts => k_is)
    (case ykp_present_facts => k_is)
    (case ya_rows_with_facts => k_is)
    (case yl_rows_with_facts => k_is)
    (case yc_rows_with_facts => k_is)
    (case ykp_rows_with_facts => k_is)
    (case ya_seen_by => k_is)
    (case yl_seen_by => k_is)
    (case yc_seen_by => k_is)
    (case ykp_seen_by => k_is)
    (case ya_first_open => k_is)
    (case yl_first_open => k_is)
    (case yc_first_open => k_is)
    (case ykp_first_open => k_is)
    (case ya_facts_added => k_is)
    (case yl_facts_added => k_is)
    (case yc_facts_added => k_is)
    (case ykp_facts_added => k_is)
    (case ya_all_facts => k_is)
    (case yl_all_facts => k_is)
    (case yc_all_facts => k_is)
    (case ykp_all_facts => k_is)
    (case ya_looks_that_see => k_is)
    (case yl_looks_that_see => k_is)
    (case yc_looks_that_see => k_is)
    (case ykp_looks_that_see => k_is)
    (case ya_all_rows => k_is)
    (case yl_all_rows => k_is)
    (case yc_all_rows => k_is)
    (case ykp_all_rows => k_is)
    (case ya_is_shut => k_is)
    (case yl_is_shut => k_is)
    (case yc_is_shut => k_is)
    (case ykp_is_shut => k_is)
    (case ya_absent_of => k_is)
    (case yl_absent_of => k_is)
    (case yc_absent_of => k_is)
    (case ykp_absent_of => k_is)
    (case ya_settles => k_is)
    (case yl_settles => k_is)
    (case yc_settles => k_is)
    (case ykp_settles => k_is)
    (case ya_law => k_is)
    (case yl_law => k_is)
    (case yc_law => k_is)
    (case ykp_law => k_is)
    (case yaC => k_is)
    (case yaS => k_is)
    (case ya_Plan___init__ => k_is)
    (case yi_Plan___init__ => k_is)
    (case yl_Plan___init__ => k_is)
    (case yc_Plan___init__ => k_is)
    (case ykp_Plan___init__ => k_is)
    (case ya_Plan_spans => k_is)
    (case yi_Plan_spans => k_is)
    (case yl_Plan_spans => k_is)
    (case yc_Plan_spans => k_is)
    (case ykp_Plan_spans => k_is)
    (case ya_Store_plan => k_is)
    (case yg_Store_plan => k_is)
    (case yt_Store_plan => k_is)
    (case yr_Store_plan => k_is)
    (case yl_Store_plan => k_is)
    (case yc_Store_plan => k_is)
    (case ykp_Store_plan => k_is)
    (case ya_Plan_size_of => k_is)
    (case yi_Plan_size_of => k_is)
    (case yl_Plan_size_of => k_is)
    (case yc_Plan_size_of => k_is)
    (case ykp_Plan_size_of => k_is)
    (case ya_Plan_columns_of => k_is)
    (case yi_Plan_columns_of => k_is)
    (case yl_Plan_columns_of => k_is)
    (case yc_Plan_columns_of => k_is)
    (case ykp_Plan_columns_of => k_is)
    (case ya_Store_facts => k_is)
    (case yg_Store_facts => k_is)
    (case yt_Store_facts => k_is)
    (case yr_Store_facts => k_is)
    (case yl_Store_facts => k_is)
    (case yc_Store_facts => k_is)
    (case ykp_Store_facts => k_is)
    (case ya_Plan_table_names => k_is)
    (case yi_Plan_table_names => k_is)
    (case yl_Plan_table_names => k_is)
    (case yc_Plan_table_names => k_is)
    (case ykp_Plan_table_names => k_is)
    (case ya_Store___init__ => k_is)
    (case yi_Store___init__ => k_is)
    (case yl_Store___init__ => k_is)
    (case ylt_Store___init__ => k_is)
    (case yc_Store___init__ => k_is)
    (case ykp_Store___init__ => k_is)
    (case yle_Store___init__ => k_is)
    (case ypg => k_is)
    (case yhd => k_is)
    (case ypo => k_is)
    (case ysa => k_is)
    (case ymk => k_is)
    (case ykc => k_is)
    (case ynC => k_is)
    (case ynT => k_is)
    (case ynS => k_is)
    (case ynP => k_is)
    (case ynH => k_is)
    (case yrd => k_is)
    (case yga => k_is)
    (case yv6 => k_is)
    (case yv8 => k_is)
    (case ypgS => k_is)
    (case yhdS => k_is)
    (case ypoS => k_is)
    (case ysaS => k_is)
    (case ymkS => k_is)
    (case ykcS => k_is)
    (case ynSp => k_is)
    (case ynSe => k_is)
    (case ynSf => k_is)
    (case yz_isinstance => k_is)
    (case yz_len => k_is)
    (case yz_all => k_is)
    (case yz_list => k_is)
    (case yz_tuple => k_is)
    (case yz_range => k_is)
    (case yz_abs => k_is)
    (case yz_min => k_is)
    (case yz_int => k_is)
    (case yz_bool => k_is)
    (case yz_str => k_is)
    (case yz_sorted => k_is)
    (case yz_dict => k_is)
    (case yz_any => k_is)
    (case yz_enumerate => k_is)
    (case yz_set => k_is)
    (case yz_zip => k_is)
    (case yy_MOST_VALUES => k_is)
    (case yy_MOST_LETTERS => k_is)
    (case yy_MOST_SIDES => k_is)
    (case yy_MOST_ROWS => k_is)
    (case yy_MOST_STOPS => k_is)

